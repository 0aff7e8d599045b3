/-
  For every two rows of values, and whatever isn't one, the law CodeOrder returns true: bytes of rows of one length stand as the rows do, come back, and behind one another are both rows'; no condition.
-/
import Derived.Test.YtlhaohioolagoaaRows
import Derived.WalkKit
import Derived.ProofKit
import Derived.OpenShut
import Derived.ShutString
import Derived.ChangeOld
import Derived.Below
import Derived.Carry
import Derived.Test.YtlhaohioolagoaaCodeKnown
import Derived.Test.YtlhaohioolagoaaCodeMath
import Derived.Test.YtlhaohioolagoaaCodeApp
import Derived.Test.YtlhaohioolagoaaValHelp
import Derived.Test.YtlhaohioolagoaaOpens
namespace Go.Proofs.Ytlhaohioolagoaa
open Go.ChangeShapes Go.WideShapes Go.ChangeAt Go.RowKit
open Go.ChangeMaps (open_string shut_string)
set_option linter.unusedVariables false
attribute [local go_sem ↓] Go.wp_at_zero Go.wp_at_succ
attribute [local go_sem] run_store_float

theorem append_vals_want {w : World} {ops : Array Oper} {rest : List Oper} {o : Oper} {a : Act} {Q : Exit → Act → World → Prop} (hw : Region.wanted o (yielded ops a.tmps) = true) (s x : Operand)
    (ho : o.op = .call { callee := .builtin .append, args := #[s, x], argTypes := #[22, 22] }) (base : Nat) (v : Value) (l : List VT) (hs : a.eval s = v) (hown : OwnV w base v l)
    (ao : Option Addr) (m c : Nat) (new : List VT) (hx : a.eval x = .slice ao m c) (hb : Vals w ao m new) (hlen : l.length + m ≤ 1000000000) (hbase : base ≤ w.heap.size)
    (h : ∀ v' w', OwnV w' base v' (l ++ new) → w.grownBy w' v.ownBlock → wpList Try.prog ops Q rest (a.put o.dst v') w') : wpList Try.prog ops Q (o :: rest) a w := by
  refine BigFrame.wpList_want hw fun K hK' => ?_
  obtain ⟨i0, hi, hz0, hz1, hz2⟩ := info_parts info_value
  cases ao with
  | some ad =>
    refine wp_append_own w s x 22 ho base 41 i0 (.agg #[.int .i64 0, .int .i64 0, .string ⟨#[]⟩, .float .f64 0]) 4 40 Try.underlying22 hi hz0 hz1 hz2 rfl (by decide) v l.length (flat l) hs hown ad m c (flat new) hx
      (by rw [flat_length, hb.1]) ?_ (flat_one new) (by unfold maxLen; omega) (by omega) hbase fun v' w' h1 h2 _ => hK' _ _ (h v' w' ?_ h2)
    · rcases hb.2.2 with h0 | ⟨b, off, e, hc⟩
      · obtain rfl : new = [] := List.length_eq_zero_iff.1 (by rw [hb.1]; exact h0)
        intro j u hj
        simp [flat] at hj
      · obtain rfl := Option.some.inj e
        exact row_news (fun i hi => hc i (by rw [← hb.1]; exact hi))
    · unfold OwnV
      rw [List.length_append, flat_append, hb.1]
      exact h1
  | none =>
    obtain rfl : m = 0 := by
      rcases hb.2.2 with h0 | ⟨b, off, e, _⟩
      · exact h0
      · cases e
    obtain rfl : new = [] := List.length_eq_zero_iff.1 hb.1
    have hrun := run_append_nothing (P := Try.prog) w base 22 o.type 41 i0 4 Try.underlying22 hi c v l.length (flat l) hown
    unfold Oper.wp
    simp [execOp, ho, resolve, invoke, builtin, hs, hx, hrun, Result.andThen]
    exact hK' _ _ (h v w (by rw [List.append_nil]; exact hown) (World.grownBy.refl _ _))

theorem bytes_order {l m : List VT} (h : l.length = m.length) (fl : ∀ i, Fits (l.getD i zeroT)) (fm : ∀ i, Fits (m.getD i zeroT)) (gl : l.all isB = true) (gm : m.all isB = true) :
    Op.bytesLess (putL l) (putL m) = decide (rowsV l m < 0) ∧ (putL l == putL m) = (rowsV l m == 0) := by
  have ho := putL_order l m h fl fm gl gm
  constructor
  · rw [cmpB_less, ho]
    refine decide_eq_decide.2 ⟨fun e => by omega, fun e => ?_⟩
    rw [← ho] at e ⊢
    rcases cmpB_cases (putL l) (putL m) with ⟨x, _⟩ | ⟨x, _⟩ | ⟨x, _⟩ <;> omega
  · by_cases hz : rowsV l m = 0
    · rw [hz] at ho
      have e : putL l = putL m := by
        rcases cmpB_cases (putL l) (putL m) with ⟨x, _⟩ | ⟨_, x⟩ | ⟨x, _⟩
        · omega
        · exact x
        · omega
      rw [e, hz]; simp
    · rw [beq_eq_false_iff_ne.2 hz]
      refine beq_eq_false_iff_ne.2 fun e => hz ?_
      rw [← ho, e]
      exact cmpB_self _
theorem fits_both {l m : List VT} (hl : ∀ i, Fits (l.getD i zeroT)) (hm : ∀ i, Fits (m.getD i zeroT)) (i : Nat) : Fits ((l ++ m).getD i zeroT) := by
  by_cases h : i < l.length
  · have := hl i
    rw [List.getD_eq_getElem?_getD, List.getElem?_append_left h, ← List.getD_eq_getElem?_getD]
    exact this
  · rw [List.getD_eq_getElem?_getD, List.getElem?_append_right (by omega), ← List.getD_eq_getElem?_getD]
    exact hm _
/-- A row that a call owns, as a slice. -/
theorem ownV_vals {w : World} {base n : Nat} {v : Value} {l : List VT} (h : OwnV w base v l) (hf : ∀ i, Fits (l.getD i zeroT)) (hn : l.length = n) : ∃ a cap, v = .slice a n cap ∧ Vals w a n l := by
  obtain ⟨a, cap, hv, _, _, _, hvals, _⟩ := owns_vals h hf
  rw [hn] at hv hvals
  exact ⟨a, cap, hv, hvals⟩


theorem codeOrder_own : ownKnob Try.prog.godebug = none := by kernel_rfl
theorem codeOrder_laidOut : laidOutB Try.prog = true := by kernel_rfl

set_option maxHeartbeats 4000000 in
theorem codeOrder_walk (a0 : Option Addr) (len0 cap0 : Nat) (l0 : List VT) (a1 : Option Addr) (len1 cap1 : Nat) (l1 : List VT) (w : World) (w0 : len0 ≤ maxLen ∧ len0 ≤ cap0 ∧ cap0 ≤ maxLen ∧ Vals w a0 len0 l0) (w1 : len1 ≤ maxLen ∧ len1 ≤ cap1 ∧ cap1 ≤ maxLen ∧ Vals w a1 len1 l1) :
    Calls Try.prog 4 #[.slice a0 len0 cap0, .slice a1 len1 cap1] w fun e w' => e = .returned (.bool true) ∧ Up w w' := by
  obtain ⟨hmax0, _, _, hv0⟩ := w0
  obtain ⟨hmax1, _, _, hv1⟩ := w1
  have V0 := hide hv0
  have V1 := hide hv1
  have FL0 := hide hv0.2.1
  have FL1 := hide hv1.2.1
  have NL0 := hide hv0.1
  have NL1 := hide hv1.1
  obtain ⟨lb, hlb0⟩ : ∃ lb, lb = len0 + len1 := ⟨_, rfl⟩
  have NB : Hid ((l0 ++ l1).length = lb) := hide (by rw [List.length_append, hv0.1, hv1.1, hlb0])
  replace hlb0 := hide hlb0
  clear hv0 hv1
  go_enter Try.func4, Try.ntmps4
  go_wp2_with fail
  go_at_call 8
  refine (known_calls _).mono ?_
  rintro _ w1 ⟨rfl, hu⟩
  replace hu := hide hu
  replace V0 := hide (V0.out.up hu.out)
  replace V1 := hide (V1.out.up hu.out)
  cases hfew0 : fewB l0 12
  · go_wp2_with (go_at_call 9; refine (few_calls _ _ _ l0 _ _ hmax0 V0.out).mono ?_; rintro _ w2 ⟨rfl, hw2⟩; obtain rfl : w1 = w2 := hw2.symm)
    go_ret
    exact ⟨rfl, hu.out⟩
  cases hfew1 : fewB l1 12
  · go_wp2_with fail
    go_at_call 9
    refine (few_calls _ _ _ l0 _ _ hmax0 V0.out).mono ?_
    rintro _ w2 ⟨rfl, hw2⟩
    obtain rfl : w1 = w2 := hw2.symm
    go_wp2_with fail
    go_at_call 9
    refine (few_calls _ _ _ l1 _ _ hmax1 V1.out).mono ?_
    rintro _ w2 ⟨rfl, hw2⟩
    obtain rfl : w1 = w2 := hw2.symm
    go_wp2
    go_ret
    exact ⟨rfl, hu.out⟩
  have ht0 : len0 ≤ 12 := by
    have hf := hfew0
    unfold fewB at hf
    rw [Bool.and_eq_true, decide_eq_true_eq, NL0.out] at hf
    omega
  have ht1 : len1 ≤ 12 := by
    have hf := hfew1
    unfold fewB at hf
    rw [Bool.and_eq_true, decide_eq_true_eq, NL1.out] at hf
    omega
  go_wp2_with fail
  go_at_call 9
  refine (few_calls _ _ _ l0 _ _ hmax0 V0.out).mono ?_
  rintro _ w2 ⟨rfl, hw2⟩
  obtain rfl : w1 = w2 := hw2.symm
  go_wp2_with fail
  go_at_call 9
  refine (few_calls _ _ _ l1 _ _ hmax1 V1.out).mono ?_
  rintro _ w2 ⟨rfl, hw2⟩
  obtain rfl : w1 = w2 := hw2.symm
  go_wp2_with fail
  go_at_call 10
  refine (put_calls _ _ _ l0 _ (by omega) V0.out).mono ?_
  rintro _ w2 ⟨hu2, hput2⟩
  replace hu := hide (hu.out.trans hu2)
  replace V0 := hide (V0.out.up hu2)
  replace V1 := hide (V1.out.up hu2)
  clear hu2 hfew0 hfew1
  rcases hput2 with ⟨hall0, v2, rfl, ho2⟩ | ⟨_, rfl⟩
  case inr =>
    go_wp2_with fail
    go_at_call 10
    refine (put_calls _ _ _ l1 _ (by omega) V1.out).mono ?_
    rintro _ w3 ⟨hu3, ⟨_, v3, rfl, _⟩ | ⟨_, rfl⟩⟩
    · replace hu := hide (hu.out.trans hu3)
      clear hu3
      go_wp2
      go_ret
      exact ⟨rfl, hu.out⟩
    · replace hu := hide (hu.out.trans hu3)
      clear hu3
      go_wp2
      go_ret
      exact ⟨rfl, hu.out⟩
  replace ho2 := hide ho2
  replace hall0 := hide hall0
  go_wp2_with fail
  go_at_call 10
  refine (put_calls _ _ _ l1 _ (by omega) V1.out).mono ?_
  rintro _ w3 ⟨hu3, hput3⟩
  replace hu := hide (hu.out.trans hu3)
  replace V0 := hide (V0.out.up hu3)
  replace V1 := hide (V1.out.up hu3)
  replace ho2 := hide (ho2.out.up hu3)
  clear hu3
  rcases hput3 with ⟨hall1, v3, rfl, ho3⟩ | ⟨_, rfl⟩
  case inr =>
    go_wp2
    go_ret
    exact ⟨rfl, hu.out⟩
  replace ho3 := hide ho3
  replace hall1 := hide hall1
  have hget0 := hide (getL_putL l0 FL0.out hall0.out)
  have hgetb := getL_putL (l0 ++ l1) (fits_both FL0.out FL1.out) (by rw [List.all_append, hall0.out, hall1.out]; rfl)
  rw [putL_append] at hgetb
  have q0 := putL_length l0 (fun j hj => good_get hall0.out hj)
  have q1 := putL_length l1 (fun j hj => good_get hall1.out hj)
  rw [NL0.out] at q0
  rw [NL1.out] at q1
  have hord := hide fun (h : l0.length = l1.length) => bytes_order h FL0.out FL1.out hall0.out hall1.out
  obtain ⟨X, hX⟩ : ∃ X, X = putL l0 := ⟨_, rfl⟩
  obtain ⟨Y, hY⟩ : ∃ Y, Y = putL l1 := ⟨_, rfl⟩
  rw [← hX, ← hY] at hgetb hord
  rw [← hX] at hget0 q0 ho2
  rw [← hY] at q1 ho3
  replace hgetb := hide hgetb
  clear hX hY
  go_wp2_with fail
  go_at_call 12
  refine (get_calls _ X _ (by omega) ho2.out.sl).mono ?_
  rintro _ w4 ⟨hu4, ⟨m, v4, hm, _, _, rfl, ho4⟩ | ⟨hm, _⟩⟩
  case inr => rw [hget0.out] at hm; cases hm
  obtain rfl : l0 = m := by rw [hget0.out] at hm; exact Option.some.inj hm
  replace hu := hide (hu.out.trans hu4)
  replace V0 := hide (V0.out.up hu4)
  replace V1 := hide (V1.out.up hu4)
  replace ho2 := hide (ho2.out.up hu4)
  replace ho3 := hide (ho3.out.up hu4)
  obtain ⟨a4, cap4, rfl, hv4⟩ := ownV_vals ho4 FL0.out NL0.out
  replace hv4 := hide hv4
  obtain ⟨a2, cap2, rfl, _, _, hb2⟩ := ho2.out.bts
  obtain ⟨a3, cap3, rfl, _, _, hb3⟩ := ho3.out.bts
  clear hu4 hm ho4
  go_wp2_with (at_builtin; refine append_bytes_any rfl (.const (.slice none 0 0)) (.tmp 46) rfl w4.heap.size _ _ rfl (Own.nil _ _) _ _ _ X rfl hb2 (by simp; omega) (Nat.le_refl _) ?_)
  intro v5 w5 ho5 hg5
  have hu5 : Up w4 w5 := below_any (Below.refl _ _) (Nat.le_refl _) (Own.nil _ _) hg5
  have ho5b : Own w5 w4.heap.size v5 X := by simpa using ho5
  have hb3b := hb3.up hu5
  have hs5 := hu5.size
  clear ho5 hg5 hb3 hb2
  go_wp2_with (at_builtin; refine append_bytes_any rfl (.tmp 47) (.tmp 48) rfl w4.heap.size _ _ rfl ho5b _ _ _ Y rfl hb3b (by omega) hs5 ?_)
  intro v6 w6 ho6 hg6
  have hu6 : Up w4 w6 := below_any hu5 hs5 ho5b hg6
  replace ho6 := hide ho6
  replace hu := hide (hu.out.trans hu6)
  replace V0 := hide (V0.out.up hu6)
  replace V1 := hide (V1.out.up hu6)
  replace ho2 := hide (ho2.out.up hu6)
  replace ho3 := hide (ho3.out.up hu6)
  replace hv4 := hide (hv4.out.up hu6)
  clear hu6 hg6 ho5b hu5 hs5 hb3b
  go_wp2_with fail
  go_at_call 12
  refine (get_calls _ (X ++ Y) _ (by rw [List.length_append]; omega) ho6.out.sl).mono ?_
  rintro _ w7 ⟨hu7, ⟨m, v7, hm, _, _, rfl, ho7⟩ | ⟨hm, _⟩⟩
  case inr => rw [hgetb.out] at hm; cases hm
  obtain rfl : l0 ++ l1 = m := by rw [hgetb.out] at hm; exact Option.some.inj hm
  replace hu := hide (hu.out.trans hu7)
  replace V0 := hide (V0.out.up hu7)
  replace V1 := hide (V1.out.up hu7)
  replace ho2 := hide (ho2.out.up hu7)
  replace ho3 := hide (ho3.out.up hu7)
  replace hv4 := hide (hv4.out.up hu7)
  obtain ⟨a7, cap7, rfl, hv7⟩ := ownV_vals ho7 (fits_both FL0.out FL1.out) NB.out
  replace hv7 := hide hv7
  clear hu7 hm ho7 ho6
  go_wp2_with fail
  go_at_call 14
  refine (same_calls' _ _ _ _ _ l0 _ (by unfold maxLen; omega) hv4.out V0.out).mono ?_
  rintro _ w8 ⟨rfl, hu8⟩
  replace hu := hide (hu.out.trans hu8)
  replace V0 := hide (V0.out.up hu8)
  replace V1 := hide (V1.out.up hu8)
  replace ho2 := hide (ho2.out.up hu8)
  replace ho3 := hide (ho3.out.up hu8)
  replace hv7 := hide (hv7.out.up hu8)
  clear hu8 hv4
  go_wp2_with (at_builtin; refine append_vals_want rfl (.const (.slice none 0 0)) (.tmp 67) rfl w8.heap.size _ _ rfl (OwnV.nil _ _) _ _ _ l0 rfl V0.out (by simp; omega) (Nat.le_refl _) ?_)
  intro v9 w9 ho9 hg9
  have hu9 : Up w8 w9 := below_anyV (Below.refl _ _) (Nat.le_refl _) (OwnV.nil _ _) hg9
  have ho9b : OwnV w9 w8.heap.size v9 l0 := by simpa using ho9
  have V1b := V1.out.up hu9
  have hs9 := hu9.size
  have hl9 : l0.length + len1 ≤ 1000000000 := by rw [NL0.out]; omega
  clear ho9 hg9
  go_wp2_with (at_builtin; refine append_vals_want rfl (.tmp 68) (.tmp 69) rfl w8.heap.size _ _ rfl ho9b _ _ _ l1 rfl V1b hl9 hs9 ?_)
  intro v10 w10 ho10 hg10
  have hu10 : Up w8 w10 := below_anyV hu9 hs9 ho9b hg10
  obtain ⟨a10, cap10, rfl, hv10⟩ := ownV_vals ho10 (fits_both FL0.out FL1.out) NB.out
  replace hv10 := hide hv10
  replace hu := hide (hu.out.trans hu10)
  replace V0 := hide (V0.out.up hu10)
  replace V1 := hide (V1.out.up hu10)
  replace ho2 := hide (ho2.out.up hu10)
  replace ho3 := hide (ho3.out.up hu10)
  replace hv7 := hide (hv7.out.up hu10)
  clear hu10 hg10 ho9b hu9 hs9 V1b ho10 hl9
  have LB : Hid (lb ≤ maxLen) := hide (by rw [hlb0.out]; unfold maxLen; omega)
  go_wp2_with fail
  go_at_call 14
  refine (same_calls' _ _ _ _ _ (l0 ++ l1) _ LB.out hv7.out hv10.out).mono ?_
  rintro _ w11 ⟨rfl, hu11⟩
  replace hu := hide (hu.out.trans hu11)
  replace V0 := hide (V0.out.up hu11)
  replace V1 := hide (V1.out.up hu11)
  replace ho2 := hide (ho2.out.up hu11)
  replace ho3 := hide (ho3.out.up hu11)
  clear hu11 hv7 hv10
  go_wp2_with fail
  go_at_call 16
  refine (rvrows_calls _ _ _ _ _ _ l0 l1 _ hmax0 hmax1 V0.out V1.out).mono ?_
  rintro _ w12 ⟨rfl, hu12⟩
  replace hu := hide (hu.out.trans hu12)
  have cv2 := (ho2.out.up hu12).conv
  have cv3 := (ho3.out.up hu12).conv
  clear hu12 V0 V1 ho2 ho3
  by_cases hlen : len0 = len1
  · obtain ⟨hlt, heq⟩ := hord.out (by rw [NL0.out, NL1.out]; exact hlen)
    have hlb : ((len0 : Int) != (len1 : Int)) = false := by rw [hlen]; simp
    clear hlen
    go_wp2
    go_ret
    exact ⟨rfl, hu.out⟩
  · have hlb : ((len0 : Int) != (len1 : Int)) = true := by simp; omega
    clear hlen
    go_wp2
    go_ret
    exact ⟨rfl, hu.out⟩

set_option maxRecDepth 100000 in
theorem codeOrder_lifted (os : Os) (started : os.Started) (H : Type) (enc : TypeId × Value → H) :
    ReturnsInHanded {} Try.checked os 4 .any (Rows.codeOrderSpec.pre6 enc Try.prog Try.f4 Rows.codeOrderRow.domain false) (Rows.codeOrderSpec.post enc Try.prog Try.f4 false true false false) := by
  refine returnsInHanded_of_change (C := Try.checked) codeOrder_own started (by kernel_rfl) Try.func4
    (ChangeSpec.witness6 (enc := enc) (C := Try.checked) false ⟨#[], #[.slice none 0 0, .slice none 0 0], []⟩ 8 (by kernel_rfl) (by kernel_rfl) (by kernel_rfl) (by kernel_rfl)) ?_
  intro W base args ds gs before hval0 hW hcnd _
  have hval : ∀ (j : Nat) t v, Try.f4.params[j]? = some t → args[j]? = some v → Value.okWide Try.prog W .any base t v := hval0
  have hW' := hW
  obtain ⟨p, q, hA0, hV, rfl, hfz, hnd⟩ := hW
  have hA : DataW.TrodAll enc Try.prog W 0 (fun _ => true) true Try.f4.params.toList args.toList ds p := hA0
  rw [Try.params4] at hA hval
  obtain ⟨v0, vs0, d0, ds0, p0, q0, hargs, rfl, rfl, h0, r0⟩ := trodAll_cons hA
  obtain ⟨v1, vs1, d1, ds1, p1, q1, rfl, rfl, rfl, h1, r1⟩ := trodAll_cons r0
  obtain ⟨rfl, rfl, rfl⟩ := trodAll_nil r1
  obtain rfl : args = #[v0, v1] := by cases args; simp_all
  obtain ⟨rfl, rfl⟩ := trodVars_none hV
  have y0 := h0
  have lt0 : ∀ x ∈ p0, x.block < W.heap.size := by obtain ⟨m, hm⟩ := y0; exact DataW.trod_lt m _ _ _ hm
  have y1 := h1
  have lt1 : ∀ x ∈ p1, x.block < W.heap.size := by obtain ⟨m, hm⟩ := y1; exact DataW.trod_lt m _ _ _ hm
  obtain ⟨a0, len0, cap0, rfl⟩ := okWide_slice Try.underlying22 (hval 0 22 v0 rfl rfl)
  obtain ⟨l0, w0⟩ := open_values h0
  obtain ⟨a1, len1, cap1, rfl⟩ := okWide_slice Try.underlying22 (hval 1 22 v1 rfl rfl)
  obtain ⟨l1, w1⟩ := open_values h1
  clear hA0 hval0
  refine (codeOrder_walk a0 len0 cap0 l0 a1 len1 cap1 l1 W w0 w1).mono fun e W' ⟨he, bel⟩ => ?_
  subst he
  exact ⟨_, rfl, _, _, _, [], _, [], hW', trodAll_mk1 (shut_bool Try.underlying4 _), (trodAll_cons_mk (Below.trod codeOrder_laidOut (by kernel_rfl) (of_decide_eq_true (by kernel_rfl)) y0 bel.below lt0) (trodAll_cons_mk (Below.trod codeOrder_laidOut (by kernel_rfl) (of_decide_eq_true (by kernel_rfl)) y1 bel.below lt1) trodAll_mk0)), rfl, bel.below.frame _, fun h => by cases h⟩

theorem codeOrder_over : Rows.codeOrderRow.holds Try.pinned (OpenSpec.ofChange Rows.codeOrderSpec) :=
  OpenClaim.holds_of_wide 4 Try.f4 rfl rfl rfl rfl rfl rfl rfl ⟨rfl, rfl, rfl, rfl, rfl⟩ rfl rfl rfl rfl rfl (by kernel_rfl) Try.func4 (by kernel_rfl)
    (of_decide_eq_true (by kernel_rfl)) (by unfold Func.isWrapper; first | (rw [if_pos (by decide +kernel)]; kernel_rfl) | (rw [if_neg (by decide +kernel)]; exact ⟨rfl, rfl⟩))
    (fun os started H enc _ => codeOrder_lifted os started H enc)

theorem codeOrder_proved : Rows.CodeOrderSaid := codeOrder_over
#print axioms codeOrder_proved
end Go.Proofs.Ytlhaohioolagoaa
