/-
  ordidx's EraseAt and InsertAt at a place that isn't one; a row that grows beside an index.
-/
import Derived.Test.YtnokokhbcfkifaaGreatDoorOxAll
namespace Go.Proofs.YtnokokhbcfkifaaGreatDoor
open Go.ChangeShapes Go.WideShapes Go.ChangeAt Go.RowKit
set_option linter.unusedVariables false
set_option maxRecDepth 100000
attribute [local go_sem ↓] Go.wp_at_zero Go.wp_at_succ

set_option maxHeartbeats 4000000 in
theorem oeraseAt_not (X T hh n : Nat) (xs : List ET) (j : Int) (w : World) (x2 : w.cell? ⟨X, 2, none⟩ = some (.pointer (some ⟨T, 0, none⟩))) (t : TrE w T xs hh n) (hj : j < 0 ∨ (xs.length : Int) ≤ j) :
    Calls Tryz.prog 20 #[.pointer (some ⟨X, 0, none⟩), .int .i64 j] w fun e w' => e = .returned (.tuple #[encE zeroET, .int .i64 73]) ∧ Up w w' := by
  obtain ⟨W, hW⟩ : ∃ W, W = w.alloc (.cells #[.slice none 0 0, .int .i64 0] 51) := ⟨_, rfl⟩
  have uW : Up w W := by rw [hW]; exact (Up.refl _).alloc _
  have hB : Box2 w.heap.size W := by rw [hW]; exact ⟨by go_simp, by go_simp, by go_simp, by go_simp⟩
  have HER := hide (eraseAtE_not T hh n j xs W (t.up uW) hj)
  have x2 := uW.cell x2
  have HB := hide hB
  have HUW := hide uW
  have hW' := hW.symm
  unfold encE at HER ⊢
  clear t hB uW hW
  go_enter Tryz.func20, Tryz.ntmps20
  go_wp2_with fail
  clear hW'
  refine HER.out.mono ?_
  rintro _ w3 ⟨rfl, hu3⟩
  obtain ⟨b0, b1, f0, f1⟩ := box_chg HB.out (Chg.of_up (C := fun _ => False) hu3) (fun e => e)
  obtain ⟨v0, g0⟩ := Option.isSome_iff_exists.1 b0
  obtain ⟨v1, g1⟩ := Option.isSome_iff_exists.1 b1
  have HFIN : Hid (Up w (set2 w3 w.heap.size (.slice none 0 0) (.int .i64 0))) := hide (((Chg.of_up (C := fun y => y = w.heap.size) (HUW.out.trans hu3)).trans (set2_chg w3 w.heap.size (.slice none 0 0) (.int .i64 0)) (fun _ _ h => h)).up (fun x hx e => by omega))
  have k0 : (set2 w3 w.heap.size (.slice none 0 0) (.int .i64 0)).cell? ⟨w.heap.size, 0, none⟩ = some (.slice none 0 0) := set2_c0 g0
  have k1 : (set2 w3 w.heap.size (.slice none 0 0) (.int .i64 0)).cell? ⟨w.heap.size, 1, none⟩ = some (.int .i64 0) := set2_c1 g1
  unfold set2 at k0 k1
  clear b0 b1 HER hu3
  simp only [zeroET]
  go_wp2
  exact bodyPost_ret (v := .tuple #[.agg #[.slice none 0 0, .int .i64 0], .int .i64 73]) (by simp [results, Tryz.results20, go_sem, k0, k1]) rfl ⟨rfl, HFIN.out⟩
set_option maxHeartbeats 4000000 in
theorem oinsertAt_not (X T hh n : Nat) (xs : List ET) (j : Int) (ka : Option Addr) (kn kc : Nat) (m : List VT) (id : Int) (w : World) (x2 : w.cell? ⟨X, 2, none⟩ = some (.pointer (some ⟨T, 0, none⟩))) (t : TrE w T xs hh n) (kk : KeyK w ka kn m) (hj : j < 0 ∨ (xs.length : Int) < j) (hx : xs.length ≤ 100000) :
    Calls Tryz.prog 21 #[.pointer (some ⟨X, 0, none⟩), .int .i64 j, .agg #[.slice ka kn kc, .int .i64 id]] w fun e w' => e = .returned (.int .i64 73) ∧ Up w w' := by
  have HT := hide t
  have HK := hide kk
  clear t kk
  go_enter Tryz.func21, Tryz.ntmps21
  go_wp2_with fail
  obtain ⟨W, hW⟩ : ∃ W, W = w.alloc (.cells #[.slice ka kn kc, .int .i64 id] 51) := ⟨_, rfl⟩
  rw [← hW]
  have uW : Up w W := by rw [hW]; exact (Up.refl _).alloc _
  have d0 : W.cell? ⟨w.heap.size, 0, none⟩ = some (.slice ka kn kc) := by rw [hW]; go_simp
  have d1 : W.cell? ⟨w.heap.size, 1, none⟩ = some (.int .i64 id) := by rw [hW]; go_simp
  replace x2 := uW.cell x2
  have HUW := hide uW
  have HKW := hide (HK.out.up uW)
  have HTW := hide (HT.out.up uW)
  clear hW uW HK HT
  have HCOP : Hid (∀ w', Up W w' → Calls Tryz.prog 40 #[.agg #[.slice ka kn kc, .int .i64 id]] w' fun e w'' => ∃ a', e = .returned (.agg #[.slice a' kn kn, .int .i64 id]) ∧ Up w' w'') := fun w' hw' => (oxcopy_calls ka kn kc id m w' HKW.out.few (HKW.out.up hw').vals HKW.out.sh).mono (fun _ _ ⟨a', h1, h2, h3, h4⟩ => ⟨a', h1, h4⟩)
  have HINS : Hid (∀ (w' : World) (a5 : Option Addr), Up W w' → Calls Tryz.prog 39 #[.pointer (some ⟨T, 0, none⟩), .int .i64 j, .agg #[.slice a5 kn kn, .int .i64 id]] w' fun e w'' => e = .returned (.int .i64 73) ∧ Up w' w'') := fun w' a5 h' => insertAtE_not T hh n j ⟨a5, kn, kn, id⟩ xs w' (HTW.out.up h') hj hx
  have HKS : Hid (∀ w', Up W w' → (Up W w' ∧ w'.cell? ⟨X, 2, none⟩ = some (.pointer (some ⟨T, 0, none⟩)) ∧ w'.cell? ⟨w.heap.size, 0, none⟩ = some (.slice ka kn kc) ∧ w'.cell? ⟨w.heap.size, 1, none⟩ = some (.int .i64 id))) := fun w' hw => ⟨hw, hw.cell x2, hw.cell d0, hw.cell d1⟩
  have tok1 : True := trivial
  have tok2 : True := trivial
  go_region_held3 (fun w' => Up W w' ∧ w'.cell? ⟨X, 2, none⟩ = some (.pointer (some ⟨T, 0, none⟩)) ∧ w'.cell? ⟨w.heap.size, 0, none⟩ = some (.slice ka kn kc) ∧ w'.cell? ⟨w.heap.size, 1, none⟩ = some (.int .i64 id)) (exact HKS.out _ (by repeat' (with_reducible first | assumption | exact Up.refl _ | apply Up.alloc | apply Up.drew)))
    (first
      | (clear tok1; go_at_call 40; refine (HCOP.out _ (by repeat' (with_reducible first | assumption | exact Up.refl _ | apply Up.alloc | apply Up.drew))).mono ?_; rintro _ w5 ⟨a5, rfl, hu5⟩; have hv5 : Up W w5 := Up.trans (by repeat' (with_reducible first | assumption | exact Up.refl _ | apply Up.alloc | apply Up.drew)) hu5; clear hu5)
      | (clear tok2; go_at_call 39; refine (HINS.out _ a5 (by repeat' (with_reducible first | assumption | exact Up.refl _ | apply Up.alloc | apply Up.drew))).mono ?_; rintro _ w6 ⟨rfl, hu6⟩; have hv6 : Up W w6 := Up.trans (by repeat' (with_reducible first | assumption | exact Up.refl _ | apply Up.alloc | apply Up.drew)) hu6; clear hu6))
  all_goals
    have HV6 := hide hv6
    clear hv5 hv6
    go_wp2_with fail
    go_ret
    exact ⟨rfl, HUW.out.trans (HV6.out.trans (by repeat' (with_reducible first | assumption | exact Up.refl _ | apply Up.alloc | apply Up.drew)))⟩
end Go.Proofs.YtnokokhbcfkifaaGreatDoor
