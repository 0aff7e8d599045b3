/-
  What Find, Has, Len of package hashidx tell, and what Insert and Erase tell where they do nothing, as the text runs.
-/
import Derived.Test.YtofpakpbbpcalaaHaNew
namespace Go.Proofs.Ytofpakpbbpcalaa
open Go.ChangeShapes Go.WideShapes Go.ChangeAt Go.RowKit
set_option linter.unusedVariables false
set_option maxRecDepth 100000
attribute [local go_sem ↓] Go.wp_at_zero Go.wp_at_succ
attribute [local go_sem] run_store_float

/-- What the map tells of a key. -/
theorem IdxG.told {K : Nat → Prop} {bl : List VT → Nat} {p M : Nat} {w : World} {T : Tab} {f : List UInt8 → Option Value} (h : IdxG K bl p M w T f) {m : List VT} (hm : GoodK m) : ∃ a n c v, toldS f (keyB m).data.toList = .agg #[.slice a n c, v] ∧ (f (keyB m).data.toList).isSome = !(T m).isEmpty ∧ OwnJ w 0 v (T m) := by
  by_cases h0 : T m = []
  · obtain ⟨h1, h2⟩ := h.told_none hm h0
    exact ⟨none, 0, 0, .slice none 0 0, h1, by rw [h2, h0]; rfl, by rw [h0]; exact OwnG.nil _ _ _ _ _⟩
  · obtain ⟨a, n, c, v, h1, h2, h3, h4, h5⟩ := h.told_some h0
    refine ⟨a, n, c, v, h1, ?_, h4⟩
    rw [h2]
    cases hT : T m with
    | nil => exact absurd hT h0
    | cons x l => rfl

theorem fldG (x y : Value) (w : World) : (Instr.field 64 (.agg #[x, y]) 1).run Try.prog w = .ok y w := by kernel_rfl

theorem len_calls (p : Nat) (O : Nat → Prop) (u : Bool) (T : Tab) (len : Int) (c : Nat) (w : World) (hi : Idx p O w u T len c) :
    Calls Try.prog 18 #[.pointer (some ⟨p, 0, none⟩)] w fun e w' => e = .returned (.int .i64 len) ∧ Up w w' := by
  obtain ⟨h0, K, bl, M, f, hC, hG, hO⟩ := hi
  have k2 := hC.c2
  clear hC hG hO h0
  go_enter Try.func18, Try.ntmps18
  go_wp2
  go_ret
  exact ⟨rfl, Up.refl _⟩

set_option maxHeartbeats 4000000 in
theorem find_calls (p : Nat) (O : Nat → Prop) (u : Bool) (T : Tab) (len : Int) (c : Nat) (a : Option Addr) (n cp : Nat) (m : List VT) (w : World) (hi : Idx p O w u T len c) (hm : GoodK m) (hv : Vals w a n m) :
    Calls Try.prog 16 #[.pointer (some ⟨p, 0, none⟩), .slice a n cp] w fun e w' => ∃ v', e = .returned v' ∧ OwnJ w' w.heap.size v' (T m) ∧ Up w w' := by
  obtain ⟨h0, K, bl, M, f, hC, hG, hO⟩ := hi
  have k1 := hC.c1
  obtain ⟨ga, gn, gc, v, ht1, ht2, ho⟩ := hG.told hm
  have hlen : (T m).length ≤ 1000000 := Nat.le_trans (hG.rise m).2 (by omega)
  obtain ⟨va, vc, hvs, _⟩ := ho.rd
  have HV := hide hv
  have HM := hide hm
  have HT := hide ht1
  have HO := hide ho
  have HMP := hide hC.map
  have HL := hide hlen
  clear ht1 ht2 hC hG hO h0 hv hm ho hlen
  generalize T m = l at *
  obtain ⟨ln, hln⟩ : ∃ ln, ln = l.length := ⟨_, rfl⟩
  rw [← hln] at hvs
  replace hln := hide hln
  subst hvs
  have hfd := fldG (.slice ga gn gc) (.slice va ln vc)
  go_enter Try.func16, Try.ntmps16
  go_wp2_with fail
  go_region_law (first
    | (go_simp; go_at_call 24; refine (bytesOf_calls a n cp m _ HM.out (HV.out.up (Up.refl w).drew)).mono ?_; rintro _ w2 ⟨rfl, hu2⟩; have k2 := hu2.cell (p := ⟨p, 1, none⟩) (v := .map (some M)) k1; have hlk := (HMP.out.up ((Up.refl w).drew.trans hu2)).look (maxS HM.out); rw [HT.out] at hlk; dsimp only)
    | (go_simp; go_at_call 31; refine (cloneJ_calls _ l _ (OwnG.up HO.out ((Up.refl w).drew.trans hu2)) HL.out).mono ?_; rintro _ w3 ⟨v3, rfl, ho3, hu3⟩; dsimp only))
  all_goals
    have hx : Hid (OwnJ w3 w2.heap.size v3 l) := ho3
    have HU2 : Hid (Up w w2) := (Up.refl w).drew.trans hu2
    have HU3 : Hid (Up w w3) := HU2.out.trans hu3
    clear ho3 hu2 hu3
    go_wp2
    go_ret
    refine ⟨_, rfl, ?_, HU3.out⟩
    refine ⟨hx.out.1, hx.out.2.imp id (fun ⟨g, cap, cur, h1, h2, h3⟩ => ⟨g, cap, cur, h1, Nat.le_trans HU2.out.size h2, h3⟩)⟩

set_option maxHeartbeats 4000000 in
theorem has_calls (p : Nat) (O : Nat → Prop) (u : Bool) (T : Tab) (len : Int) (c : Nat) (a : Option Addr) (n cp : Nat) (m : List VT) (x : Int) (w : World) (hi : Idx p O w u T len c) (hm : GoodK m) (hv : Vals w a n m) :
    Calls Try.prog 17 #[.pointer (some ⟨p, 0, none⟩), .slice a n cp, .int .i64 x] w fun e w' => e = .returned (.bool (decide (x ∈ T m))) ∧ Up w w' := by
  obtain ⟨h0, K, bl, M, f, hC, hG, hO⟩ := hi
  have k1 := hC.c1
  obtain ⟨ga, gn, gc, v, ht1, ht2, ho⟩ := hG.told hm
  have hlen : (T m).length ≤ 1000000 := Nat.le_trans (hG.rise m).2 (by omega)
  have hr := (hG.rise m).1
  obtain ⟨va, vc, hvs, _⟩ := ho.rd
  have HV := hide hv
  have HM := hide hm
  have HT := hide ht1
  have HO := hide ho
  have HMP := hide hC.map
  have HL := hide hlen
  have HR := hide hr
  clear ht1 ht2 hC hG hO h0 hv hm ho hlen hr
  generalize T m = l at *
  obtain ⟨ln, hln⟩ : ∃ ln, ln = l.length := ⟨_, rfl⟩
  rw [← hln] at hvs
  replace hln := hide hln
  subst hvs
  have hfd := fldG (.slice ga gn gc) (.slice va ln vc)
  obtain ⟨bb, hbb⟩ : ∃ bb, bb = decide (x ∈ l) := ⟨_, rfl⟩
  have HB := hide hbb
  clear hbb
  go_enter Try.func17, Try.ntmps17
  go_wp2_with fail
  go_region_law (first
    | (go_simp; go_at_call 24; refine (bytesOf_calls a n cp m _ HM.out (HV.out.up (Up.refl w).drew)).mono ?_; rintro _ w2 ⟨rfl, hu2⟩; have k2 := hu2.cell (p := ⟨p, 1, none⟩) (v := .map (some M)) k1; have hlk := (HMP.out.up ((Up.refl w).drew.trans hu2)).look (maxS HM.out); rw [HT.out] at hlk; dsimp only)
    | (go_simp; go_at_call 25; refine (search_calls _ l x _ (OwnJ.rd (OwnG.up HO.out ((Up.refl w).drew.trans hu2))) HL.out HR.out).mono ?_; rintro _ w3 ⟨pl, _, rfl, hu3⟩; rw [← HB.out]; dsimp only))
  all_goals
    have HU3 : Hid (Up w w3) := ((Up.refl w).drew.trans hu2).trans hu3
    clear hu2 hu3
    go_wp2
    go_ret
    exact ⟨by rw [← HB.out]; rfl, HU3.out⟩

set_option maxHeartbeats 4000000 in
/-- Insert where it does nothing: the number stands there, or the index is unique. -/
theorem insert_not (p : Nat) (O : Nat → Prop) (u : Bool) (T : Tab) (len : Int) (c : Nat) (a : Option Addr) (n cp : Nat) (m : List VT) (x : Int) (w : World) (hi : Idx p O w u T len c) (hm : GoodK m) (hv : Vals w a n m) (h : x ∈ T m ∨ (x ∉ T m ∧ T m ≠ [] ∧ u = true)) :
    Calls Try.prog 11 #[.pointer (some ⟨p, 0, none⟩), .slice a n cp, .int .i64 x] w fun e w' => e = .returned (.int .i64 (if x ∈ T m then 72 else 80)) ∧ Up w w' := by
  obtain ⟨no, hno⟩ : ∃ no : Int, no = (if x ∈ T m then 72 else 80) := ⟨_, rfl⟩
  rw [← hno]
  replace hno := hide hno
  obtain ⟨h0, K, bl, M, f, hC, hG, hO⟩ := hi
  have hne : T m ≠ [] := h.elim (fun h e => by rw [e] at h; cases h) (fun h => h.2.1)
  obtain ⟨ga, gn, gc, v, ht1, ht2, _, ho, _⟩ := hG.told_some hne
  have hlen : (T m).length ≤ 1000000 := Nat.le_trans (hG.rise m).2 (by omega)
  have hr := (hG.rise m).1
  obtain ⟨va, vc, hvs, _⟩ := ho.rd
  have HV := hide hv
  have HM := hide hm
  have HT := hide ht1
  have HT2 := hide ht2
  have HO := hide ho
  have HCC := hide hC
  have HL := hide hlen
  have HR := hide hr
  clear ht1 ht2 hC hG hO h0 hv hm ho hlen hr hne
  generalize T m = l at *
  obtain ⟨ln, hln⟩ : ∃ ln, ln = l.length := ⟨_, rfl⟩
  rw [← hln] at hvs
  replace hln := hide hln
  subst hvs
  go_enter Try.func11, Try.ntmps11
  go_wp2_with fail
  go_at_call 24
  refine (bytesOf_calls a n cp m _ HM.out HV.out).mono ?_
  rintro _ w1 ⟨rfl, hu1⟩
  have hC1 : IdxC p M w1 u len c f := HCC.out.chg (Chg.of_up (C := fun _ => False) hu1) (fun h => h) (fun h => h)
  have k0 := hC1.c0
  have k1 := hC1.c1
  have hlk := hC1.map.look_ok (maxS HM.out)
  rw [HT.out, HT2.out] at hlk
  have HU1 := hide hu1
  clear hu1 hC1
  generalize keyB m = s at *
  go_wp2_with fail
  go_at_call 25
  refine (search_calls _ l x _ (OwnJ.rd (OwnG.up HO.out (HU1.out.alloc _))) HL.out HR.out).mono ?_
  rintro _ w2 ⟨pl, _, rfl, hu2⟩
  have HU2 : Hid (Up w w2) := (HU1.out.alloc _).trans hu2
  have k0' := hu2.cell (((Up.refl _).alloc _).cell k0)
  clear hu2 hlk k1 k0
  rcases h with h | ⟨h1, h2, h3⟩
  · have hd : decide (x ∈ l) = true := decide_eq_true h
    have hi : Hid (no = 72) := hno.out.trans (if_pos h)
    rw [hd]
    clear h hd
    go_wp2
    go_ret
    exact ⟨by rw [hi.out]; rfl, HU2.out⟩
  · have hd : decide (x ∈ l) = false := decide_eq_false h1
    have hi : Hid (no = 80) := hno.out.trans (if_neg h1)
    rw [hd]
    subst h3
    clear h1 h2 hd
    go_wp2
    go_ret
    exact ⟨by rw [hi.out]; rfl, HU2.out⟩

set_option maxHeartbeats 4000000 in
/-- Erase of a number that doesn't stand there. -/
theorem erase_not (p : Nat) (O : Nat → Prop) (u : Bool) (T : Tab) (len : Int) (c : Nat) (a : Option Addr) (n cp : Nat) (m : List VT) (x : Int) (w : World) (hi : Idx p O w u T len c) (hm : GoodK m) (hv : Vals w a n m) (h : x ∉ T m) :
    Calls Try.prog 14 #[.pointer (some ⟨p, 0, none⟩), .slice a n cp, .int .i64 x] w fun e w' => e = .returned (.int .i64 71) ∧ Up w w' := by
  obtain ⟨h0, K, bl, M, f, hC, hG, hO⟩ := hi
  obtain ⟨ga, gn, gc, v, ht1, _, ho⟩ := hG.told hm
  have hlen : (T m).length ≤ 1000000 := Nat.le_trans (hG.rise m).2 (by omega)
  have hr := (hG.rise m).1
  obtain ⟨va, vc, hvs, _⟩ := ho.rd
  have hd : decide (x ∈ T m) = false := decide_eq_false h
  have HD := hide hd
  have HV := hide hv
  have HM := hide hm
  have HT := hide ht1
  have HO := hide ho
  have HCC := hide hC
  have HL := hide hlen
  have HR := hide hr
  clear ht1 hC hG hO h0 hv hm ho hlen hr h hd
  generalize T m = l at *
  obtain ⟨ln, hln⟩ : ∃ ln, ln = l.length := ⟨_, rfl⟩
  rw [← hln] at hvs
  replace hln := hide hln
  subst hvs
  go_enter Try.func14, Try.ntmps14
  go_wp2_with fail
  go_at_call 24
  refine (bytesOf_calls a n cp m _ HM.out HV.out).mono ?_
  rintro _ w1 ⟨rfl, hu1⟩
  have hC1 : IdxC p M w1 u len c f := HCC.out.chg (Chg.of_up (C := fun _ => False) hu1) (fun h => h) (fun h => h)
  have k1 := hC1.c1
  have hlk := hC1.map.look (maxS HM.out)
  rw [HT.out] at hlk
  have HU1 := hide hu1
  clear hu1 hC1
  generalize keyB m = s at *
  go_wp2_with fail
  go_at_call 25
  refine (search_calls _ l x _ (OwnJ.rd (OwnG.up HO.out (HU1.out.alloc _))) HL.out HR.out).mono ?_
  rintro _ w2 ⟨pl, _, rfl, hu2⟩
  have HU2 : Hid (Up w w2) := (HU1.out.alloc _).trans hu2
  rw [HD.out]
  clear hu2 hlk k1
  go_wp2
  go_ret
  exact ⟨rfl, HU2.out⟩

end Go.Proofs.Ytofpakpbbpcalaa
