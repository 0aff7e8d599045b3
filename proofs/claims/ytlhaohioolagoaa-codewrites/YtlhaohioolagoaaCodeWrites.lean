/-
  For every row of values, and whatever isn't one, and all bytes the law CodeWrites returns true: the row has the document's bytes, or none; the bytes are the document's row, or none; no condition.
-/
import Derived.Test.YtlhaohioolagoaaRows
import Derived.WalkKit
import Derived.ProofKit
import Derived.OpenShut
import Derived.ShutString
import Derived.ChangeOld
import Derived.Below
import Derived.Carry
import Derived.Test.YtlhaohioolagoaaCodeKnown
import Derived.Test.YtlhaohioolagoaaCodeApp
import Derived.Test.YtlhaohioolagoaaRefPut
import Derived.Test.YtlhaohioolagoaaRefGet
import Derived.Test.YtlhaohioolagoaaValHelp
import Derived.Test.YtlhaohioolagoaaOpensB
namespace Go.Proofs.Ytlhaohioolagoaa
open Go.ChangeShapes Go.WideShapes Go.ChangeAt Go.RowKit
open Go.ChangeMaps (open_string shut_string)
set_option linter.unusedVariables false
attribute [local go_sem ↓] Go.wp_at_zero Go.wp_at_succ
attribute [local go_sem] run_store_float

/-- What is written, and the error beside it. -/
def outX (l : List VT) : List UInt8 := if l.all isB then putL l else []
def outE (l : List VT) : Int := if l.all isB then 0 else 20
theorem put_res {w w' : World} {l : List VT} {e : Ending} (h : PutPost w l 20 e w') : Up w w' ∧ ∃ v, e = .returned (.tuple #[v, .int .i64 (outE l)]) ∧ Own w' w.heap.size v (outX l) := by
  refine ⟨h.1, ?_⟩
  unfold outX outE
  rcases h.2 with ⟨ha, v, he, ho⟩ | ⟨ha, he⟩
  · rw [if_pos ha, if_pos ha]; exact ⟨v, he, ho⟩
  · rw [if_neg (by rw [ha]; simp), if_neg (by rw [ha]; simp)]; exact ⟨_, he, Own.nil _ _⟩
/-- What is read, and the error beside it. -/
def inM (l : List UInt8) : List VT := (getL l).getD []
def inE (l : List UInt8) : Int := if (getL l).isSome then 0 else 20
theorem get_res {w w' : World} {l : List UInt8} {e : Ending} (h : GetPost w l 20 e w') :
    Up w w' ∧ (∀ i, Fits ((inM l).getD i zeroT)) ∧ (inM l).length ≤ l.length ∧ ∃ v, e = .returned (.tuple #[v, .int .i64 (inE l)]) ∧ OwnV w' w.heap.size v (inM l) := by
  refine ⟨h.1, ?_⟩
  unfold inM inE
  rcases h.2 with ⟨m, v, hm, hf, hl, he, ho⟩ | ⟨hm, he⟩
  · rw [hm]; exact ⟨hf, hl, v, he, ho⟩
  · rw [hm]; exact ⟨fun i => by simpa using fits_zero, Nat.zero_le _, _, he, OwnV.nil _ _⟩
theorem inE_zero (l : List UInt8) : (inE l == 0) = (getL l).isSome := by
  unfold inE
  cases getL l <;> rfl
theorem ownV_slice {w : World} {base n : Nat} {v : Value} {l : List VT} (h : OwnV w base v l) (hf : ∀ i, Fits (l.getD i zeroT)) (hn : l.length = n) : ∃ a cap, v = .slice a n cap ∧ Vals w a n l := by
  obtain ⟨a, cap, hv, _, _, _, hvals, _⟩ := owns_vals h hf
  rw [hn] at hv hvals
  exact ⟨a, cap, hv, hvals⟩


theorem codeWrites_own : ownKnob Try.prog.godebug = none := by kernel_rfl
theorem codeWrites_laidOut : laidOutB Try.prog = true := by kernel_rfl

set_option maxHeartbeats 4000000 in
theorem codeWrites_walk (a0 : Option Addr) (len0 cap0 : Nat) (l0 : List VT) (a1 : Option Addr) (len1 cap1 : Nat) (l1 : List UInt8) (w : World) (w0 : len0 ≤ maxLen ∧ len0 ≤ cap0 ∧ cap0 ≤ maxLen ∧ Vals w a0 len0 l0) (w1 : len1 ≤ maxLen ∧ len1 ≤ cap1 ∧ cap1 ≤ maxLen ∧ Bts w a1 len1 l1) :
    Calls Try.prog 3 #[.slice a0 len0 cap0, .slice a1 len1 cap1] w fun e w' => e = .returned (.bool true) ∧ Up w w' := by
  obtain ⟨hmax0, _, _, hv0⟩ := w0
  obtain ⟨hmax1, hlc1, hcm1, hb1⟩ := w1
  have V0 := hide hv0
  have B1 := hide hb1
  have NL0 := hide hv0.1
  have NL1 := hide hb1.1
  have S1 : Hid (Sl w (.slice a1 len1 cap1) l1) := hide ⟨a1, cap1, by rw [hb1.1], by rw [hb1.1]; exact hlc1, hcm1, by rw [hb1.1]; exact hb1⟩
  clear hv0 hb1
  go_enter Try.func3, Try.ntmps3
  go_wp2_with fail
  go_at_call 8
  refine (known_calls _).mono ?_
  rintro _ w1 ⟨rfl, hu⟩
  replace hu := hide hu
  replace V0 := hide (V0.out.up hu.out)
  cases hfew0 : fewB l0 20
  · go_wp2_with (go_at_call 9; refine (few_calls _ _ _ l0 _ _ hmax0 V0.out).mono ?_; rintro _ w2 ⟨rfl, hw2⟩; obtain rfl : w1 = w2 := hw2.symm)
    go_ret
    exact ⟨rfl, hu.out⟩
  have ht0 : len0 ≤ 20 := by
    have hf := hfew0
    unfold fewB at hf
    rw [Bool.and_eq_true, decide_eq_true_eq, NL0.out] at hf
    omega
  go_wp2_with fail
  go_at_call 9
  refine (few_calls _ _ _ l0 _ _ hmax0 V0.out).mono ?_
  rintro _ w2 ⟨rfl, hw2⟩
  obtain rfl : w1 = w2 := hw2.symm
  by_cases hbig : (1000 : Int) < (len1 : Int)
  · go_wp2
    go_ret
    exact ⟨rfl, hu.out⟩
  have ht1 : len1 ≤ 1000 := by omega
  have HT1 : Hid (l1.length ≤ 1000000) := hide (by rw [NL1.out]; omega)
  go_wp2_with fail
  go_at_call 10
  refine (put_calls _ _ _ l0 _ (by omega) V0.out).mono ?_
  intro e2 w2 h2
  obtain ⟨hu2, v2, rfl, ho2⟩ := put_res h2
  replace hu := hide (hu.out.trans hu2)
  replace V0 := hide (V0.out.up hu2)
  replace ho2 := hide ho2
  clear h2 hu2
  go_wp2_with fail
  go_at_call 11
  refine (rput_calls _ _ _ l0 _ (by omega) V0.out).mono ?_
  intro e3 w3 h3
  obtain ⟨hu3, v3, rfl, ho3⟩ := put_res h3
  replace hu := hide (hu.out.trans hu3)
  replace ho2 := hide (ho2.out.up hu3)
  replace ho3 := hide ho3
  clear h3 hu3 V0
  have B3 := B1.out.up hu.out
  go_wp2_with (at_builtin; refine append_bytes_any rfl (.const (.slice none 0 0)) (.tmp 34) rfl w3.heap.size _ _ rfl (Own.nil _ _) _ _ _ l1 rfl B3 (by simp; omega) (Nat.le_refl _) ?_)
  intro v4 w4 ho4 hg4
  have hu4 : Up w3 w4 := below_any (Below.refl _ _) (Nat.le_refl _) (Own.nil _ _) hg4
  have ho4b : Own w4 w3.heap.size v4 l1 := by simpa using ho4
  replace hu := hide (hu.out.trans hu4)
  replace ho2 := hide (ho2.out.up hu4)
  replace ho3 := hide (ho3.out.up hu4)
  replace ho4b := hide ho4b
  clear ho4 hg4 hu4 B3
  go_wp2_with fail
  go_at_call 12
  refine (get_calls _ l1 _ HT1.out ho4b.out.sl).mono ?_
  intro e5 w5 h5
  obtain ⟨hu5, hf5, hl5, v5, rfl, ho5⟩ := get_res h5
  replace hu := hide (hu.out.trans hu5)
  replace ho2 := hide (ho2.out.up hu5)
  replace ho3 := hide (ho3.out.up hu5)
  replace ho5 := hide ho5
  replace hf5 := hide hf5
  clear h5 hu5 ho4b
  go_wp2_with fail
  go_at_call 13
  refine (rget_calls _ l1 _ HT1.out (S1.out.up hu.out)).mono ?_
  intro e6 w6 h6
  obtain ⟨hu6, _, _, v6, rfl, ho6⟩ := get_res h6
  replace hu := hide (hu.out.trans hu6)
  replace ho2 := hide (ho2.out.up hu6)
  replace ho3 := hide (ho3.out.up hu6)
  replace ho5 := hide (ho5.out.up hu6)
  obtain ⟨nm, hnm⟩ : ∃ nm, (inM l1).length = nm := ⟨_, rfl⟩
  obtain ⟨a5, c5, rfl, x5⟩ := ownV_slice ho5.out hf5.out hnm
  obtain ⟨a6, c6, rfl, x6⟩ := ownV_slice ho6 hf5.out hnm
  have X5 := hide x5
  have X6 := hide x6
  have HN : Hid (nm ≤ maxLen) := hide (by rw [← hnm]; have := NL1.out; unfold maxLen; omega)
  have cv2 := ho2.out.conv
  have cv3 := ho3.out.conv
  clear h6 hu6 ho6 ho5 x5 x6 hl5 hnm
  go_wp2_with fail
  go_at_call 14
  refine (same_calls' _ _ _ _ _ (inM l1) _ HN.out X5.out X6.out).mono ?_
  rintro _ w7 ⟨rfl, hu7⟩
  replace hu := hide (hu.out.trans hu7)
  clear hu7
  have hie := inE_zero l1
  go_wp2_with fail
  go_at_call 15
  refine (whole_calls _ l1 _ HT1.out (S1.out.up hu.out)).mono ?_
  rintro _ w8 ⟨rfl, hu8⟩
  replace hu := hide (hu.out.trans hu8)
  clear hu8
  go_wp2
  go_ret
  exact ⟨rfl, hu.out⟩

set_option maxRecDepth 100000 in
theorem codeWrites_lifted (os : Os) (started : os.Started) (H : Type) (enc : TypeId × Value → H) :
    ReturnsInHanded {} Try.checked os 3 .any (Rows.codeWritesSpec.pre6 enc Try.prog Try.f3 Rows.codeWritesRow.domain false) (Rows.codeWritesSpec.post enc Try.prog Try.f3 false true false false) := by
  refine returnsInHanded_of_change (C := Try.checked) codeWrites_own started (by kernel_rfl) Try.func3
    (ChangeSpec.witness6 (enc := enc) (C := Try.checked) false ⟨#[], #[.slice none 0 0, .slice none 0 0], []⟩ 8 (by kernel_rfl) (by kernel_rfl) (by kernel_rfl) (by kernel_rfl)) ?_
  intro W base args ds gs before hval0 hW hcnd _
  have hval : ∀ (j : Nat) t v, Try.f3.params[j]? = some t → args[j]? = some v → Value.okWide Try.prog W .any base t v := hval0
  have hW' := hW
  obtain ⟨p, q, hA0, hV, rfl, hfz, hnd⟩ := hW
  have hA : DataW.TrodAll enc Try.prog W 0 (fun _ => true) true Try.f3.params.toList args.toList ds p := hA0
  rw [Try.params3] at hA hval
  obtain ⟨v0, vs0, d0, ds0, p0, q0, hargs, rfl, rfl, h0, r0⟩ := trodAll_cons hA
  obtain ⟨v1, vs1, d1, ds1, p1, q1, rfl, rfl, rfl, h1, r1⟩ := trodAll_cons r0
  obtain ⟨rfl, rfl, rfl⟩ := trodAll_nil r1
  obtain rfl : args = #[v0, v1] := by cases args; simp_all
  obtain ⟨rfl, rfl⟩ := trodVars_none hV
  have y0 := h0
  have lt0 : ∀ x ∈ p0, x.block < W.heap.size := by obtain ⟨m, hm⟩ := y0; exact DataW.trod_lt m _ _ _ hm
  have y1 := h1
  have lt1 : ∀ x ∈ p1, x.block < W.heap.size := by obtain ⟨m, hm⟩ := y1; exact DataW.trod_lt m _ _ _ hm
  obtain ⟨a0, len0, cap0, rfl⟩ := okWide_slice Try.underlying22 (hval 0 22 v0 rfl rfl)
  obtain ⟨l0, w0⟩ := open_values h0
  obtain ⟨a1, len1, cap1, rfl⟩ := okWide_slice Try.underlying23 (hval 1 23 v1 rfl rfl)
  obtain ⟨l1, w1⟩ := open_bytes h1
  clear hA0 hval0
  refine (codeWrites_walk a0 len0 cap0 l0 a1 len1 cap1 l1 W w0 w1).mono fun e W' ⟨he, bel⟩ => ?_
  subst he
  exact ⟨_, rfl, _, _, _, [], _, [], hW', trodAll_mk1 (shut_bool Try.underlying4 _), (trodAll_cons_mk (Below.trod codeWrites_laidOut (by kernel_rfl) (of_decide_eq_true (by kernel_rfl)) y0 bel.below lt0) (trodAll_cons_mk (Below.trod codeWrites_laidOut (by kernel_rfl) (of_decide_eq_true (by kernel_rfl)) y1 bel.below lt1) trodAll_mk0)), rfl, bel.below.frame _, fun h => by cases h⟩

theorem codeWrites_over : Rows.codeWritesRow.holds Try.pinned (OpenSpec.ofChange Rows.codeWritesSpec) :=
  OpenClaim.holds_of_wide 3 Try.f3 rfl rfl rfl rfl rfl rfl rfl ⟨rfl, rfl, rfl, rfl, rfl⟩ rfl rfl rfl rfl rfl (by kernel_rfl) Try.func3 (by kernel_rfl)
    (of_decide_eq_true (by kernel_rfl)) (by unfold Func.isWrapper; first | (rw [if_pos (by decide +kernel)]; kernel_rfl) | (rw [if_neg (by decide +kernel)]; exact ⟨rfl, rfl⟩))
    (fun os started H enc _ => codeWrites_lifted os started H enc)

theorem codeWrites_proved : Rows.CodeWritesSaid := codeWrites_over
#print axioms codeWrites_proved
end Go.Proofs.Ytlhaohioolagoaa
