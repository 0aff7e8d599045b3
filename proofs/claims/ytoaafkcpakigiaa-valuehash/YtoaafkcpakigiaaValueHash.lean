/-
  For every row of values and every number the law ValueHash returns true: a row with one number's lowest bit turned has another hash, no values have the first one, and a copy has the same; no condition.
-/
import Derived.Test.YtoaafkcpakigiaaRows
import Derived.WalkKit
import Derived.ProofKit
import Derived.OpenShut
import Derived.ShutString
import Derived.ChangeOld
import Derived.Below
import Derived.Carry
import Derived.Test.YtoaafkcpakigiaaValHelp
import Derived.Test.YtoaafkcpakigiaaOpens
import Derived.Test.YtoaafkcpakigiaaNewVals
import Derived.Test.YtoaafkcpakigiaaHashInj
import Derived.Test.YtoaafkcpakigiaaValCopy
namespace Go.Proofs.Ytoaafkcpakigiaa
open Go.ChangeShapes Go.WideShapes Go.ChangeAt Go.RowKit
open Go.ChangeMaps (open_string shut_string)
set_option linter.unusedVariables false
attribute [local go_sem ↓] Go.wp_at_zero Go.wp_at_succ
attribute [local go_sem] run_store_float

theorem owns_up {w w' : World} {base : Nat} {e : TypeId} {size : Nat} {v : Value} {n : Nat} {xs : List Value} (h : w.ownsRow base e size v n xs) (hu : Up w w') : w'.ownsRow base e size v n xs := by
  refine ⟨h.1, ?_⟩
  rcases h.2 with h0 | ⟨g, cap, cur, hv, hb, hg, rest⟩
  · exact .inl h0
  · have hlt : g < w.heap.size := by
      by_cases x : g < w.heap.size
      · exact x
      · rw [Array.getElem?_eq_none (by omega)] at hg; cases hg
    exact .inr ⟨g, cap, cur, hv, hb, (hu.below.block g hlt).trans hg, rest⟩

theorem fits_num (n : Int) (h : (Lit.int .i64 n).wf = true) : Fits (1, n, ⟨#[]⟩, 0) :=
  ⟨(by decide : IntKind.i64.min ≤ (1 : Int)), (by decide : (1 : Int) ≤ IntKind.i64.max), (wf_i64 h).1, (wf_i64 h).2, Nat.zero_le _, (by decide +kernel : 0 < whole)⟩

theorem fits_append {l : List VT} {x : VT} (hl : ∀ i, Fits (l.getD i zeroT)) (hx : Fits x) (i : Nat) : Fits ((l ++ [x]).getD i zeroT) := by
  rw [List.getD_eq_getElem?_getD]
  by_cases h : i < l.length
  · rw [List.getElem?_append_left h]
    have := hl i
    rwa [List.getD_eq_getElem?_getD] at this
  · rw [List.getElem?_append_right (by omega)]
    cases hj : i - l.length with
    | zero => exact hx
    | succ j => exact fits_zero

theorem vals_nil {w : World} {n : Nat} {l : List VT} {a : Option Addr} (h : Vals w a n l) (ha : a = none) : n = 0 := by
  rcases h.2.2 with h0 | ⟨b, off, hx, _⟩
  · exact h0
  · rw [ha] at hx; cases hx

theorem hash_differ (l : List VT) (n : Int) : ((hashV (l ++ [(1, n, ⟨#[]⟩, 0)]) : Int) != (hashV (l ++ [(1, bits .xor .i64 n 1, ⟨#[]⟩, 0)]) : Int)) = true := by
  rw [bne_iff_ne]
  intro h
  exact hash_turned l n (by omega)

theorem cells_new (w : World) (k n : Int) (s : ByteArray) (f : Nat) (t : TypeId) (j : Nat) (u : Value) (hj : (cellsT (k, n, s, f))[j]? = some u) :
    (w.alloc (.cells #[.int .i64 k, .int .i64 n, .string s, .float .f64 f] t)).cell? ((⟨w.heap.size, 0, none⟩ : Addr).add j) = some u := by
  rw [add_plain, Nat.zero_add, World.cell?_alloc_new]
  simpa [cellsT] using hj
theorem cells_one (x : VT) (u : Value) (hu : u ∈ cellsT x) : u.oneCell' = true := flat_one [x] u (by simpa [flat] using hu)

/-- One value more behind a row that the call owns. -/
theorem owns_next {w0 w w1 : World} {o : Obj} {v v' : Value} {n : Nat} {l : List VT} {x : VT} (hown : w.ownsRow w0.heap.size 24 4 v n (flat l)) (hu : Up w0 w)
    (hown' : w1.ownsRow w0.heap.size 24 4 v' (n + 1) (flat l ++ cellsT x)) (hgrow : (w.alloc o).grownBy w1 v.ownBlock) (hl : ∀ i, Fits (l.getD i zeroT)) (hx : Fits x) :
    ∃ a cap, v' = .slice a (n + 1) cap ∧ Vals w1 a (n + 1) (l ++ [x]) ∧ Up w0 w1 := by
  have e : flat l ++ cellsT x = flat (l ++ [x]) := by rw [flat_append]; simp [flat]
  rw [e] at hown'
  obtain ⟨a, cap, hv, _, _, _, hvals, _⟩ := owns_vals hown' (fits_append hl hx)
  exact ⟨a, cap, hv, hvals, Below.grown (hu.alloc o) hgrow (hu.alloc o).size (fun k hk => (hown.lt k hk).1)⟩


theorem valueHash_own : ownKnob Try.prog.godebug = none := by kernel_rfl
theorem valueHash_laidOut : laidOutB Try.prog = true := by kernel_rfl

set_option maxHeartbeats 4000000 in
theorem valueHash_walk (a0 : Option Addr) (len0 cap0 : Nat) (l0 : List VT) (a1 : Int) (w : World) (w0 : len0 ≤ maxLen ∧ len0 ≤ cap0 ∧ cap0 ≤ maxLen ∧ Vals w a0 len0 l0) (w1 : (Lit.int .i64 a1).wf = true) :
    Calls Try.prog 8 #[.slice a0 len0 cap0, .int .i64 a1] w fun e w' => e = .returned (.bool true) ∧ Up w w' := by
  obtain ⟨hmax, _, _, hvals⟩ := w0
  have fx := fits_num a1 w1
  have wy : (Lit.int .i64 (bits .xor .i64 a1 1)).wf = true := wf_bits .xor .i64 a1 1
  have fy := fits_num _ wy
  obtain ⟨i0, hi, hz0, hz1, hz2⟩ := info_parts info_value
  have FX := hide fx
  have FY := hide fy
  have HV := hide hvals
  clear fx fy hvals w1 wy
  go_enter Try.func8, Try.ntmps8
  go_wp2_with fail
  go_at_call 9
  refine (known_calls _).mono ?_
  rintro _ w1 ⟨rfl, hu⟩
  replace hu := hide hu
  have V1 := hide (HV.out.up hu.out)
  cases hfew : fewB l0 10
  · go_wp2_with (go_at_call 10; refine (few_calls _ _ _ l0 _ _ hmax V1.out).mono ?_; rintro _ w2 ⟨rfl, hw2⟩; obtain rfl : w1 = w2 := hw2.symm)
    go_ret
    exact ⟨rfl, hu.out⟩
  · have hten : len0 ≤ 10 := by
      have hf := hfew
      unfold fewB at hf
      rw [Bool.and_eq_true, decide_eq_true_eq, HV.out.1] at hf
      omega
    go_wp2_with (go_at_call 10; refine (few_calls _ _ _ l0 _ _ hmax V1.out).mono ?_; rintro _ w2 ⟨rfl, hw2⟩; obtain rfl : w1 = w2 := hw2.symm)
    go_at_call 24
    refine (copy_calls _ _ _ l0 _ (by omega) V1.out (vals_nil V1.out)).mono ?_
    rintro _ w2 ⟨v2, rfl, hown2, hu2⟩
    replace hown2 := hide hown2
    replace hu2 := hide hu2
    go_wp2_with fail
    go_at_call 25
    refine (num_calls _ _).mono ?_
    rintro _ w3 ⟨rfl, hu3⟩
    have hown3 := hide (owns_up hown2.out hu3)
    have hu13 := hide (hu2.out.trans hu3)
    clear hown2 hu2 hu3
    go_wp2_with (at_builtin; refine wpList_append_own _ rfl _ _ 25 rfl w1.heap.size 24 i0 (.agg #[.int .i64 0, .int .i64 0, .string ⟨#[]⟩, .float .f64 0]) 4 40 Try.underlying25 hi hz0 hz1 hz2 rfl (by decide) _ _ _ rfl (hown3.out.alloc _) ⟨w3.heap.size, 0, none⟩ 1 1 (cellsT (1, a1, ⟨#[]⟩, 0)) rfl rfl (cells_new _ _ _ _ _ _) (cells_one _) (by unfold maxLen; omega) (by omega) (hu13.out.alloc _).size ?_)
    intro v4 w4 hown4 hgrow4 _
    obtain ⟨a4, cap4, rfl, hv4, hu14⟩ := owns_next hown3.out hu13.out hown4 hgrow4 V1.out.2.1 FX.out
    replace hu := hide (hu.out.trans hu14)
    have V4 := hide (V1.out.up hu14)
    replace hv4 := hide hv4
    clear hown4 hgrow4 hown3 hu13 hu14
    go_wp2_with fail
    go_at_call 24
    refine (copy_calls _ _ _ l0 _ (by omega) V4.out (vals_nil V4.out)).mono ?_
    rintro _ w5 ⟨v5, rfl, hown5, hu5⟩
    replace hown5 := hide hown5
    replace hu5 := hide hu5
    go_wp2_with fail
    go_at_call 25
    refine (num_calls _ _).mono ?_
    rintro _ w6 ⟨rfl, hu6⟩
    have hown6 := hide (owns_up hown5.out hu6)
    have hu46 := hide (hu5.out.trans hu6)
    clear hown5 hu5 hu6
    go_wp2_with (at_builtin; refine wpList_append_own _ rfl _ _ 25 rfl w4.heap.size 24 i0 (.agg #[.int .i64 0, .int .i64 0, .string ⟨#[]⟩, .float .f64 0]) 4 40 Try.underlying25 hi hz0 hz1 hz2 rfl (by decide) _ _ _ rfl (hown6.out.alloc _) ⟨w6.heap.size, 0, none⟩ 1 1 (cellsT (1, bits .xor .i64 a1 1, ⟨#[]⟩, 0)) rfl rfl (cells_new _ _ _ _ _ _) (cells_one _) (by unfold maxLen; omega) (by omega) (hu46.out.alloc _).size ?_)
    intro v7 w7 hown7 hgrow7 _
    obtain ⟨a7, cap7, rfl, hv7, hu47⟩ := owns_next hown6.out hu46.out hown7 hgrow7 V4.out.2.1 FY.out
    replace hu := hide (hu.out.trans hu47)
    replace hv4 := hide (hv4.out.up hu47)
    replace hv7 := hide hv7
    clear hown7 hgrow7 hown6 hu46 hu47
    have hd := hash_differ l0 a1
    have hmx : len0 + 1 ≤ maxLen := by unfold maxLen; omega
    replace hmx := hide hmx
    clear hmax
    have HD := hide hd
    clear hd
    go_wp2_with fail
    go_at_call 21
    refine (vhash_calls _ _ _ _ _ hmx.out hv4.out).mono ?_
    rintro _ w8 ⟨rfl, hu8⟩
    replace hu := hide (hu.out.trans hu8)
    replace hv4 := hide (hv4.out.up hu8)
    replace hv7 := hide (hv7.out.up hu8)
    clear hu8
    go_wp2_with fail
    go_at_call 21
    refine (vhash_calls _ _ _ _ _ hmx.out hv7.out).mono ?_
    rintro _ w9 ⟨rfl, hu9⟩
    replace hu := hide (hu.out.trans hu9)
    replace hv4 := hide (hv4.out.up hu9)
    clear hu9 hv7
    have hd := HD.out
    go_wp2_with fail
    go_at_call 21
    refine (vhash_none _ _ _).mono ?_
    rintro _ w10 ⟨rfl, hu10⟩
    replace hu := hide (hu.out.trans hu10)
    replace hv4 := hide (hv4.out.up hu10)
    clear hu10
    go_wp2_with fail
    go_at_call 21
    refine (vhash_calls _ _ _ _ _ hmx.out hv4.out).mono ?_
    rintro _ w11 ⟨rfl, hu11⟩
    replace hu := hide (hu.out.trans hu11)
    replace hv4 := hide (hv4.out.up hu11)
    clear hu11
    go_wp2_with fail
    go_at_call 24
    refine (copy_calls _ _ _ _ _ (by omega) hv4.out (vals_nil hv4.out)).mono ?_
    rintro _ w12 ⟨v12, rfl, hown12, hu12⟩
    obtain ⟨a12, cap12, rfl, _, _, _, hv12, _⟩ := owns_vals hown12 hv4.out.2.1
    replace hu := hide (hu.out.trans hu12)
    replace hv12 := hide hv12
    clear hu12 hown12 hv4
    go_wp2_with fail
    go_at_call 21
    refine (vhash_calls _ _ _ _ _ hmx.out hv12.out).mono ?_
    rintro _ w13 ⟨rfl, hu13⟩
    replace hu := hide (hu.out.trans hu13)
    clear hu13
    go_wp2
    go_ret
    exact ⟨rfl, hu.out⟩

set_option maxRecDepth 100000 in
theorem valueHash_lifted (os : Os) (started : os.Started) (H : Type) (enc : TypeId × Value → H) :
    ReturnsInHanded {} Try.checked os 8 .any (Rows.valueHashSpec.pre6 enc Try.prog Try.f8 Rows.valueHashRow.domain false) (Rows.valueHashSpec.post enc Try.prog Try.f8 false true false false) := by
  refine returnsInHanded_of_change (C := Try.checked) valueHash_own started (by kernel_rfl) Try.func8
    (ChangeSpec.witness6 (enc := enc) (C := Try.checked) false ⟨#[], #[.slice none 0 0, .int .i64 0], []⟩ 8 (by kernel_rfl) (by kernel_rfl) (by kernel_rfl) (by kernel_rfl)) ?_
  intro W base args ds gs before hval0 hW hcnd _
  have hval : ∀ (j : Nat) t v, Try.f8.params[j]? = some t → args[j]? = some v → Value.okWide Try.prog W .any base t v := hval0
  have hW' := hW
  obtain ⟨p, q, hA0, hV, rfl, hfz, hnd⟩ := hW
  have hA : DataW.TrodAll enc Try.prog W 0 (fun _ => true) true Try.f8.params.toList args.toList ds p := hA0
  rw [Try.params8] at hA hval
  obtain ⟨v0, vs0, d0, ds0, p0, q0, hargs, rfl, rfl, h0, r0⟩ := trodAll_cons hA
  obtain ⟨v1, vs1, d1, ds1, p1, q1, rfl, rfl, rfl, h1, r1⟩ := trodAll_cons r0
  obtain ⟨rfl, rfl, rfl⟩ := trodAll_nil r1
  obtain rfl : args = #[v0, v1] := by cases args; simp_all
  obtain ⟨rfl, rfl⟩ := trodVars_none hV
  have y0 := h0
  have lt0 : ∀ x ∈ p0, x.block < W.heap.size := by obtain ⟨m, hm⟩ := y0; exact DataW.trod_lt m _ _ _ hm
  have y1 := h1
  have lt1 : ∀ x ∈ p1, x.block < W.heap.size := by obtain ⟨m, hm⟩ := y1; exact DataW.trod_lt m _ _ _ hm
  obtain ⟨a0, len0, cap0, rfl⟩ := okWide_slice Try.underlying25 (hval 0 25 v0 rfl rfl)
  obtain ⟨l0, w0⟩ := open_values h0
  obtain ⟨a1, rfl, _, _, w1⟩ := open_int Try.underlying2 (hval 1 2 v1 rfl rfl) h1
  clear hA0 hval0
  refine (valueHash_walk a0 len0 cap0 l0 a1 W w0 w1).mono fun e W' ⟨he, bel⟩ => ?_
  subst he
  exact ⟨_, rfl, _, _, _, [], _, [], hW', trodAll_mk1 (shut_bool Try.underlying4 _), (trodAll_cons_mk (Below.trod valueHash_laidOut (by kernel_rfl) (of_decide_eq_true (by kernel_rfl)) y0 bel.below lt0) (trodAll_cons_mk (Below.trod valueHash_laidOut (by kernel_rfl) (of_decide_eq_true (by kernel_rfl)) y1 bel.below lt1) trodAll_mk0)), rfl, bel.below.frame _, fun h => by cases h⟩

theorem valueHash_over : Rows.valueHashRow.holds Try.pinned (OpenSpec.ofChange Rows.valueHashSpec) :=
  OpenClaim.holds_of_wide 8 Try.f8 rfl rfl rfl rfl rfl rfl rfl ⟨rfl, rfl, rfl, rfl, rfl⟩ rfl rfl rfl rfl rfl (by kernel_rfl) Try.func8 (by kernel_rfl)
    (of_decide_eq_true (by kernel_rfl)) (by unfold Func.isWrapper; first | (rw [if_pos (by decide +kernel)]; kernel_rfl) | (rw [if_neg (by decide +kernel)]; exact ⟨rfl, rfl⟩))
    (fun os started H enc _ => valueHash_lifted os started H enc)

theorem valueHash_proved : Rows.ValueHashSaid := valueHash_over
#print axioms valueHash_proved
end Go.Proofs.Ytoaafkcpakigiaa
