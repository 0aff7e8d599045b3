/-
  What the law's own known answers (package rialtolaw7), out of what key.Of does, as its text runs.
-/
import Derived.Test.YtnnbcpopjnlnoaaDoorKeyOfAll
import Derived.Test.YtnnbcpopjnlnoaaDoorNewVals
import Derived.Test.YtnnbcpopjnlnoaaDoorOwnApp
import Derived.Deep.RegionHeld3
namespace Go.Proofs.YtnnbcpopjnlnoaaDoor
open Go.ChangeShapes Go.WideShapes Go.ChangeAt Go.RowKit
set_option linter.unusedVariables false
attribute [local go_sem ↓] Go.wp_at_zero Go.wp_at_succ
attribute [local go_sem] run_store_float

theorem num7_calls (n : Int) (w : World) :
    Calls Tryd.prog 27 #[.int .i64 n] w fun e w' => e = .returned (.agg #[.int .i64 1, .int .i64 n, .string ⟨#[]⟩, .float .f64 0]) ∧ Up w w' := by
  go_enter Tryd.func27, Tryd.ntmps27
  go_wp2
  refine bodyPost_ret (v := .agg #[.int .i64 1, .int .i64 n, .string ⟨#[]⟩, .float .f64 0]) (by simp [results, Tryd.results27, go_sem]) rfl ⟨rfl, ?_⟩
  first
    | exact (Up.refl _).alloc _
    | exact ((Up.refl _).alloc _).alloc _

theorem prts_new2 (w : World) (p p' : PT) (t : TypeId) (h : FitsP p) (h' : FitsP p') :
    Prts (w.alloc (.cells #[.int .i64 p.1, .int .i64 p.2, .int .i64 p'.1, .int .i64 p'.2] t)) (some ⟨w.heap.size, 0, none⟩) 2 [p, p'] := by
  refine ⟨rfl, fun i => ?_, .inr ⟨_, _, rfl, fun i hi j v hv => ?_⟩⟩
  · match i with
    | 0 => exact h
    | 1 => exact h'
    | i + 2 => exact fits_zeroP
  · match i, hi, j with
    | 0, _, 0 => cases hv; simp
    | 0, _, 1 => cases hv; simp
    | 0, _, j + 2 => cases hv
    | 1, _, 0 => cases hv; simp
    | 1, _, 1 => cases hv; simp
    | 1, _, j + 2 => cases hv

def kPl : List PT := [(1, 0), (-1, 0)]
def kM : List VT := [(1, 5, ⟨#[]⟩, 0), (1, 6, ⟨#[]⟩, 0)]
def kK : List VT := [(1, 6, ⟨#[]⟩, 0), (1, 11, ⟨#[]⟩, 0)]
theorem k_key : keyP kM kPl 2 = kK := by kernel_rfl
theorem k_bad0 : badP 5 0 kM kPl 0 = 0 := by kernel_rfl
theorem k_bad1 : badP 5 0 kM kPl 1 = 0 := by kernel_rfl
theorem k_non0 : badP 0 0 kM kPl 0 = 0 := by kernel_rfl
theorem k_non1 : badP 0 0 kM kPl 1 = 60 := by kernel_rfl
theorem inM_none (g : Nat) : ¬ InM none g := by
  rintro ⟨p, hp, _⟩
  cases hp
theorem chg_none {w w' : World} (h : Chg (InM none) w w') : Up w w' := h.up (fun x _ => inM_none x)
theorem k_fits : ∀ i, Fits (kM.getD i zeroT) := by
  intro i
  match i with
  | 0 => exact ⟨by decide, by decide, by decide, by decide, by decide, by decide⟩
  | 1 => exact ⟨by decide, by decide, by decide, by decide, by decide, by decide⟩
  | i + 2 => exact fits_zero
theorem k_short : ∀ i, (kM.getD i zeroT).2.2.1.size ≤ 200 := by
  intro i
  match i with
  | 0 => decide
  | 1 => decide
  | i + 2 => exact (by decide : (0 : Nat) ≤ 200)

/-- What the first call of Of in known tells. -/
theorem k_first (ae ac pa va : Option Addr) (ce nc cc pc vc : Nat) (l : List Value) (w : World) (hT : TabE w) (hp : Prts w pa 2 kPl) (hv : Vals w va 2 kM) (hf : FnsH w ae 5 l) (hx : AllX 46 w none 0 l) :
    Calls Tryd.prog 13 #[.agg #[.string ⟨#[120]⟩, .int .i64 1, .slice pa 2 pc, .int .i64 (-1)], .agg #[.slice ae 5 ce, .slice ac nc cc], .slice va 2 vc] w fun e w' => ∃ ra, e = .returned (.tuple #[.slice ra 2 2, .nilIface]) ∧ Vals w' ra 2 kK ∧ Up w w' := by
  refine (of_calls ⟨#[120]⟩ 1 (-1) none ae ac pa va 5 ce nc cc 2 pc 2 vc l kPl kM 0 0 w (by decide) ⟨hT, inM_none _, hp, hv, hf, fun q hq => ?_, by decide, by decide, by decide, k_short, fun b _ _ => inM_none b, fun b _ _ => inM_none b, fun b _ _ => inM_none b⟩ (fun _ => rfl) (fun p hp => by cases hp)).mono ?_
  · obtain ⟨mx, nx, h1, h2, h3, _, _⟩ := hx q (by rw [hf.1]; exact hq)
    exact ⟨mx, nx, h1, h2, h3, inM_none _, inM_none _⟩
  · rintro _ w' ⟨hc, ⟨_, ra, rfl, hv', _⟩ | ⟨k, hk, _, hb, _⟩ | ⟨k, b, s0, hk, _, hb, _⟩⟩
    · exact ⟨ra, rfl, by rw [← k_key]; exact hv', chg_none hc⟩
    · have hk' : k < 2 := hk
      exfalso
      match k, hk' with
      | 0, _ => rw [k_bad0] at hb; exact absurd hb (by decide)
      | 1, _ => rw [k_bad1] at hb; exact absurd hb (by decide)
    · have hk' : k < 2 := hk
      exfalso
      match k, hk' with
      | 0, _ => rw [k_bad0] at hb; exact absurd hb (by decide)
      | 1, _ => rw [k_bad1] at hb; exact absurd hb (by decide)
/-- And the second, where there is no extractor. -/
theorem k_second (pa va : Option Addr) (pc vc : Nat) (w : World) (hT : TabE w) (hp : Prts w pa 2 kPl) (hv : Vals w va 2 kM) :
    Calls Tryd.prog 13 #[.agg #[.string ⟨#[120]⟩, .int .i64 1, .slice pa 2 pc, .int .i64 (-1)], .agg #[.slice none 0 0, .slice none 0 0], .slice va 2 vc] w fun e w' => e = .returned (.tuple #[.slice none 0 0, .iface 76 (.int .i64 60)]) ∧ Up w w' := by
  refine (of_calls ⟨#[120]⟩ 1 (-1) none none none pa va 0 0 0 0 2 pc 2 vc [] kPl kM 0 0 w (by decide) ⟨hT, inM_none _, hp, hv, ⟨rfl, fun i => .inl rfl, .inl rfl⟩, fun q hq => absurd hq (Nat.not_lt_zero q), by decide, by decide, by decide, k_short, fun b _ _ => inM_none b, fun b _ _ => inM_none b, fun b _ _ => inM_none b⟩ (fun _ => rfl) (fun p hp => by cases hp)).mono ?_
  rintro _ w' ⟨hc, ⟨hg, _⟩ | ⟨k, hk, _, hb, rfl, _⟩ | ⟨k, b, s0, hk, _, hb, _⟩⟩
  · have := hg 1 (by decide)
    rw [k_non1] at this
    exact absurd this (by decide)
  · exact ⟨rfl, chg_none hc⟩
  · have hk' : k < 2 := hk
    exfalso
    match k, hk' with
    | 0, _ => rw [k_non0] at hb; exact absurd hb (by decide)
    | 1, _ => rw [k_non1] at hb; exact absurd hb (by decide)

theorem k_vals (W : World) (t : TypeId) : Vals (W.alloc (.cells #[.int .i64 1, .int .i64 5, .string ⟨#[]⟩, .float .f64 0, .int .i64 1, .int .i64 6, .string ⟨#[]⟩, .float .f64 0] t)) (some ⟨W.heap.size, 0, none⟩) 2 kM :=
  vals_new2 W 1 5 1 6 ⟨#[]⟩ ⟨#[]⟩ 0 0 t (k_fits 0) (k_fits 1)
theorem k_vals2 (W : World) (t : TypeId) : Vals (W.alloc (.cells #[.int .i64 1, .int .i64 6, .string ⟨#[]⟩, .float .f64 0, .int .i64 1, .int .i64 11, .string ⟨#[]⟩, .float .f64 0] t)) (some ⟨W.heap.size, 0, none⟩) 2 kK :=
  vals_new2 W 1 6 1 11 ⟨#[]⟩ ⟨#[]⟩ 0 0 t (k_fits 1) ⟨by decide, by decide, by decide, by decide, by decide, by decide⟩

theorem AllX.upM {F : FuncId} {w w' : World} {mp : Option Addr} {B : Nat} {l : List Value} (h : AllX F w mp B l) (hu : Up w w') : AllX F w' mp B l := h.keep (fun b u _ _ hc => hu.cell hc)

set_option maxRecDepth 20000 in
set_option maxHeartbeats 16000000 in
theorem known7_calls (w : World) (hT : TabE w) : Calls Tryd.prog 7 #[] w fun e w' => e = .returned (.bool true) ∧ Up w w' := by
  have HT := hide hT
  clear hT
  have hp0 : Hid (Prts (w.alloc (.cells #[.int .i64 1, .int .i64 0, .int .i64 (-1), .int .i64 0] 45)) (some ⟨w.heap.size, 0, none⟩) 2 kPl) := prts_new2 w (1, 0) (-1, 0) _ ⟨by decide, by decide, by decide, by decide⟩ ⟨by decide, by decide, by decide, by decide⟩
  go_enter Tryd.func7, Tryd.ntmps7
  go_wp2_with fail
  obtain ⟨W, hW⟩ : ∃ W, W = (w.alloc (.cells #[.int .i64 1, .int .i64 0, .int .i64 (-1), .int .i64 0] 45)).alloc (.cells #[.string ⟨#[120]⟩, .int .i64 1, .slice (some ⟨w.heap.size, 0, none⟩) 2 2, .int .i64 (-1)] 24) := ⟨_, rfl⟩
  have uW : Hid (Up w W) := by rw [hW]; exact ((Up.refl _).alloc _).alloc _
  have HP : Hid (Prts W (some ⟨w.heap.size, 0, none⟩) 2 kPl) := by rw [hW]; exact hp0.out.up ((Up.refl _).alloc _)
  have d0 : W.cell? ⟨w.heap.size + 1, 0, none⟩ = some (.string ⟨#[120]⟩) := by rw [hW]; go_simp
  have d1 : W.cell? ⟨w.heap.size + 1, 1, none⟩ = some (.int .i64 1) := by rw [hW]; go_simp
  have d2 : W.cell? ⟨w.heap.size + 1, 2, none⟩ = some (.slice (some ⟨w.heap.size, 0, none⟩) 2 2) := by rw [hW]; go_simp
  have d3 : W.cell? ⟨w.heap.size + 1, 3, none⟩ = some (.int .i64 (-1)) := by rw [hW]; go_simp
  rw [← hW]
  clear hW hp0
  have HK : Hid (∀ w', Up W w' → Up W w' ∧ w'.cell? ⟨w.heap.size + 1, 0, none⟩ = some (.string ⟨#[120]⟩) ∧ w'.cell? ⟨w.heap.size + 1, 1, none⟩ = some (.int .i64 1) ∧ w'.cell? ⟨w.heap.size + 1, 2, none⟩ = some (.slice (some ⟨w.heap.size, 0, none⟩) 2 2) ∧ w'.cell? ⟨w.heap.size + 1, 3, none⟩ = some (.int .i64 (-1))) :=
    fun w' h => ⟨h, h.cell d0, h.cell d1, h.cell d2, h.cell d3⟩
  have hk0 : Up W W.drew := (Up.refl _).drew
  clear d0 d1 d2 d3
  go_region_held3 (fun w' => Up W w' ∧ w'.cell? ⟨w.heap.size + 1, 0, none⟩ = some (.string ⟨#[120]⟩) ∧ w'.cell? ⟨w.heap.size + 1, 1, none⟩ = some (.int .i64 1) ∧ w'.cell? ⟨w.heap.size + 1, 2, none⟩ = some (.slice (some ⟨w.heap.size, 0, none⟩) 2 2) ∧ w'.cell? ⟨w.heap.size + 1, 3, none⟩ = some (.int .i64 (-1))) (exact HK.out _ (by first | assumption | exact Up.alloc (by assumption) _))
    (first
      | (go_at_call 10; refine (phooksM_calls none _).mono ?_; rintro _ w6 ⟨ea, ec, EL, ca, cc, CL, rfl, hfe, hfc, hxe, hxc, hre, hrc, hu6⟩; have hk6 : Up W w6 := Up.trans (by assumption) hu6; have hj6 : Up w6 w6 := Up.refl _; clear hu6)
      | (go_at_call 27; refine (num7_calls _ _).mono ?_; rintro _ w7 ⟨rfl, hu7⟩; have hk7 : Up W w7 := Up.trans (by assumption) hu7; (first | (have hj7 : Up w6 w7 := Up.trans (by assumption) hu7) | skip); clear hu7)
      | (go_at_call 13; refine (k_first ea ca _ _ ec 3 cc 2 2 EL _ ?_ ?_ ?_ ?_ ?_).mono ?_; exact HT.out.up (uW.out.trans (by first | assumption | exact Up.alloc (by assumption) _)); exact HP.out.up (by first | assumption | exact Up.alloc (by assumption) _); exact k_vals _ _; exact hfe.up (by first | assumption | exact Up.alloc (by assumption) _); exact AllX.low (hxe.upM (by first | assumption | exact Up.alloc (by assumption) _)) (Nat.zero_le _); rintro _ w8 ⟨ra, rfl, hra, hu8⟩; have hk8 : Up W w8 := Up.trans (by first | assumption | exact Up.alloc (by assumption) _) hu8; clear hu8))
  have HRA := hide hra
  have hk9 : Up W w8 := hk8
  replace hk8 := hide hk8
  clear hra hfe hfc hxe hxc hre hrc hk6 hj6 hk0
  clear hk7 hj7
  go_wp2_with fail
  have hl0 : Up W w8.drew := hk9.drew
  have hl1 : Up w8 w8.drew := (Up.refl _).drew
  go_region_held3 (fun w' => Up W w' ∧ w'.cell? ⟨w.heap.size + 1, 0, none⟩ = some (.string ⟨#[120]⟩) ∧ w'.cell? ⟨w.heap.size + 1, 1, none⟩ = some (.int .i64 1) ∧ w'.cell? ⟨w.heap.size + 1, 2, none⟩ = some (.slice (some ⟨w.heap.size, 0, none⟩) 2 2) ∧ w'.cell? ⟨w.heap.size + 1, 3, none⟩ = some (.int .i64 (-1))) (exact HK.out _ (by first | assumption | exact Up.alloc (by assumption) _))
    (first
      | (go_at_call 27; refine (num7_calls _ _).mono ?_; rintro _ w7 ⟨rfl, hu7⟩; have hm7 : Up W w7 := Up.trans (by assumption) hu7; have hj7 : Up w8 w7 := Up.trans (by assumption) hu7; clear hu7)
      | (go_at_call 13; refine (k_second _ _ 2 2 _ ?_ ?_ ?_).mono ?_; exact HT.out.up (uW.out.trans (by first | assumption | exact Up.alloc (by assumption) _)); exact HP.out.up (by first | assumption | exact Up.alloc (by assumption) _); exact k_vals _ _; rintro _ w9 ⟨rfl, hu9⟩; have hm9 : Up W w9 := Up.trans (by first | assumption | exact Up.alloc (by assumption) _) hu9; have hj9 : Up w8 w9 := Up.trans (by first | assumption | exact Up.alloc (by assumption) _) hu9; clear hu9))
  have U9 : Hid (Up w w9) := uW.out.trans hm9
  have V9 : Hid (Vals w9 ra 2 kK) := HRA.out.up hj9
  clear hm9 hj9 HRA hk8 hk9 hl0 hl1 HK
  go_wp2_with (first
    | (go_at_call 27; refine (num7_calls _ _).mono ?_; rintro _ wa ⟨rfl, hua⟩; replace U9 := hide (U9.out.trans hua); replace V9 := hide (V9.out.up hua); clear hua)
    | (go_at_call 14; refine (same_calls' ra _ 2 2 2 kK _ (by decide) (V9.out.up ((Up.refl _).alloc _)) (k_vals2 _ _)).mono ?_; rintro _ wb ⟨rfl, hub⟩; replace U9 := hide ((U9.out.alloc _).trans hub); clear hub V9)
    | (go_at_call 17; refine (class_num 60 _ (HT.out.up U9.out)).mono ?_; rintro _ wc ⟨rfl, huc⟩; replace U9 := hide (U9.out.trans huc); clear huc))
  go_ret
  exact ⟨rfl, U9.out⟩

end Go.Proofs.YtnnbcpopjnlnoaaDoor
