/-
  num and known of the laws on rows, as their text runs.
-/
import Derived.Test.YtaodekbpjkcpeaaRowNxt
namespace Go.Proofs.Ytaodekbpjkcpeaa
open Go.ChangeShapes Go.WideShapes Go.ChangeAt Go.RowKit
set_option linter.unusedVariables false
attribute [local go_sem ↓] Go.wp_at_zero Go.wp_at_succ
attribute [local go_sem] run_store_float

/-- A number as a value. -/
def numV (n : Int) : VT := (1, n, ByteArray.empty, 0)
theorem small_num (n : Int) : Small [numV n] := ⟨by simp, fun i => by
  cases i with
  | zero => simp [numV]
  | succ i => simp [zeroT]⟩
theorem fits_num {n : Int} (h1 : -9223372036854775808 ≤ n) (h2 : n ≤ 9223372036854775807) : Fits (numV n) := by
  refine ⟨(by show IntKind.i64.min ≤ 1; decide), (by show 1 ≤ IntKind.i64.max; decide), ?_, ?_, ?_, ?_⟩
  · simpa [numV, IntKind.min, IntKind.bits, IntKind.signed] using h1
  · simpa [numV, IntKind.max, IntKind.bits, IntKind.signed] using h2
  · simp [numV, maxLen]
  · simp [numV, whole]
theorem NewRow.valsO {B n : Nat} {O : Nat → Prop} {w : World} {a : Option Addr} {m : List VT} (h : NewRow B w a n m) (hO : ∀ x, O x → x < B) : ValsO (fun g => ¬ O g) w a n m :=
  ⟨h.1, h.2.imp id (fun ⟨G, e, h1, _⟩ => ⟨G, 0, e, fun hg => by have := hO G hg; omega⟩)⟩
theorem StoL.olt {p : Nat} {O : Nat → Prop} {w : World} {n : Nat} {next lim wr : Int} {R : Int → Option RD} {cnt : Nat} (h : StoL p O w n next lim wr R cnt) : ∀ x, O x → x < w.heap.size := h.1

set_option maxRecDepth 20000 in
set_option maxHeartbeats 4000000 in
theorem num_calls (n : Int) (w : World) (h1 : -9223372036854775808 ≤ n) (h2 : n ≤ 9223372036854775807) :
    Calls Try.prog 32 #[.int .i64 n] w fun e w' => ∃ a, e = .returned (.slice a 1 1) ∧ NewRow w.heap.size w' a 1 [numV n] ∧ Up w w' := by
  have HF := hide (fits_num h1 h2)
  clear h1 h2
  go_enter Try.func32, Try.ntmps32
  go_wp2
  go_ret
  refine ⟨_, rfl, ⟨⟨rfl, fun i => ?_, .inr ⟨w.heap.size, 0, rfl, fun i hi => ?_⟩⟩, .inr ⟨w.heap.size, rfl, Nat.le_refl _, by simp, fun i => by go_simp⟩⟩, (Up.refl _).alloc _⟩
  · cases i with
    | zero => exact HF.out
    | succ i => simpa using fits_zero
  · obtain rfl : i = 0 := by omega
    exact ⟨by go_simp; rfl, by go_simp; rfl, by go_simp; rfl, by go_simp; rfl⟩

set_option maxRecDepth 20000 in
set_option maxHeartbeats 8000000 in
theorem known_calls (w : World) : Calls Try.prog 8 #[] w fun e w' => e = .returned (.bool true) ∧ Up w w' := by
  go_enter Try.func8, Try.ntmps8
  go_wp2_with fail
  go_at_call 10
  refine (new_calls 2 _).mono ?_
  rintro _ w1 ⟨p, O, rfl, hp, hs1, hu1, ho1⟩
  replace hs1 : Hid (Sto p O w1 2 1 0 (fun _ => none) 0) := hs1
  have HU := hide hu1
  have HO := hide ho1
  clear hu1 ho1
  go_wp2_with fail
  go_at_call 32
  refine (num_calls 5 w1 (by decide) (by decide)).mono ?_
  rintro _ w2 ⟨a2, rfl, hn2, hu2⟩
  have hs2 := hs1.out.up hu2
  have hv2 := hn2.valsO hs1.out.olt
  replace HU := hide (HU.out.trans hu2)
  clear hs1 hn2 hu2
  replace hs2 := hide hs2
  replace hv2 := hide hv2
  go_wp2_with fail
  go_at_call 12
  refine (insert_ok p 2 1 1 0 O 1 0 (fun _ => none) a2 [numV 5] w2 hs2.out (by decide) (by decide) (by decide) hv2.out (small_num 5)).mono ?_
  rintro _ w3 ⟨rfl, O3, hs3, hc3, ho3⟩
  have hU3 := HU.out.thenChg hc3 (fun x hx e => by have := HO.out x e; omega)
  have hO3 : ∀ x, O3 x → w.heap.size ≤ x := fun x hx => (ho3 x hx).elim (HO.out x) (fun h => Nat.le_trans HU.out.size h)
  clear HU HO hs2 hv2 hc3 ho3
  have HU := hide hU3
  have HO := hide hO3
  clear hU3 hO3
  replace hs3 : Hid (Sto p O3 w3 2 2 1 (upd (fun _ => none) 1 (some (1, [numV 5]))) 1) := hs3
  go_wp2_with fail
  go_at_call 32
  refine (num_calls 6 w3 (by decide) (by decide)).mono ?_
  rintro _ w4 ⟨a4, rfl, hn4, hu4⟩
  have hs4 := hs3.out.up hu4
  have hv4 := hn4.valsO hs3.out.olt
  replace HU := hide (HU.out.trans hu4)
  clear hs3 hn4 hu4
  replace hs4 := hide hs4
  replace hv4 := hide hv4
  go_wp2_with fail
  go_at_call 12
  refine (insert_ok p 2 1 1 1 O3 2 1 _ a4 [numV 6] w4 hs4.out (by decide) (by decide) (by decide) hv4.out (small_num 6)).mono ?_
  rintro _ w5 ⟨rfl, O5, hs5, hc5, ho5⟩
  have hU5 := HU.out.thenChg hc5 (fun x hx e => by have := HO.out x e; omega)
  have hO5 : ∀ x, O5 x → w.heap.size ≤ x := fun x hx => (ho5 x hx).elim (HO.out x) (fun h => Nat.le_trans HU.out.size h)
  clear HU HO hs4 hv4 hc5 ho5
  have HU := hide hU5
  have HO := hide hO5
  clear hU5 hO5
  obtain ⟨R5, hR5⟩ : ∃ R, R = upd (upd (fun _ => none) 1 (some (1, [numV 5]))) 2 (some ((1 : Int), [numV 6])) := ⟨_, rfl⟩
  replace hs5 : Sto p O5 w5 2 3 2 (upd (upd (fun _ => none) 1 (some (1, [numV 5]))) 2 (some (1, [numV 6]))) 2 := hs5
  rw [← hR5] at hs5
  have hg : Hid (R5 1 = some (1, [numV 5])) := by show _ = _; rw [hR5]; rfl
  clear hR5
  replace hs5 := hide hs5
  go_wp2_with fail
  go_at_call 32
  refine (num_calls 7 w5 (by decide) (by decide)).mono ?_
  rintro _ w6 ⟨a6, rfl, hn6, hu6⟩
  have hs6 := hs5.out.up hu6
  replace HU := hide (HU.out.trans hu6)
  clear hs5 hn6 hu6
  replace hs6 := hide hs6
  go_wp2_with fail
  go_at_call 12
  refine (insert_full p 2 1 1 O5 3 2 R5 a6 w6 hs6.out).mono ?_
  rintro _ w7 ⟨rfl, hu7⟩
  have hs7 := hs6.out.up hu7
  replace HU := hide (HU.out.trans hu7)
  clear hs6 hu7
  replace hs7 := hide hs7
  go_wp2_with fail
  go_at_call 21
  refine (erase_ok p 2 2 O5 3 2 1 _ R5 w7 hs7.out (wf64_of (by decide) (by decide)) hg.out (by decide)).mono ?_
  rintro _ w8 ⟨rfl, _, O8, hs8, hc8, ho8⟩
  have hU8 := HU.out.thenChg hc8 (fun x hx e => by have := HO.out x e; omega)
  clear HU HO hs7 hc8 ho8
  have HU := hide hU8
  clear hU8
  have hg8 : Hid (upd R5 1 none 1 = none) := upd_same _ _ _
  replace hs8 : Hid (Sto p O8 w8 2 3 3 (upd R5 1 none) 1) := hs8
  generalize upd R5 1 none = R8 at hs8 hg8
  go_wp2_with fail
  go_at_call 21
  refine (erase_none p 2 1 O8 3 3 1 R8 w8 hs8.out (wf64_of (by decide) (by decide)) hg8.out).mono ?_
  rintro _ w9 ⟨rfl, hw9⟩
  obtain rfl : w8 = w9 := hw9.symm
  go_wp2_with fail
  go_at_call 29
  refine (snext_calls p 2 1 O8 3 3 R8 w8 hs8.out).mono ?_
  rintro _ w9 ⟨rfl, hw9⟩
  obtain rfl : w8 = w9 := hw9.symm
  go_wp2
  go_ret
  exact ⟨rfl, HU.out⟩

end Go.Proofs.Ytaodekbpjkcpeaa
