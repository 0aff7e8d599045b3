/-
  A list with marks in memory: its cells, its tree, its marks; what asks of it and changes nothing, as its text runs.
-/
import Derived.Test.YtbnkddnjfkagkaaSqPln
import Derived.Test.YtbnkddnjfkagkaaTrModL
import Derived.Test.YtbnkddnjfkagkaaTrSeaL
import Derived.Test.YtbnkddnjfkagkaaTrSliL
namespace Go.Proofs.Ytbnkddnjfkagkaa
open Go.ChangeShapes Go.WideShapes Go.ChangeAt Go.RowKit
set_option linter.unusedVariables false
set_option maxRecDepth 100000
attribute [local go_sem ↓] Go.wp_at_zero Go.wp_at_succ

/-- Blocks in which no node lies: the sequence's own, its map's, and those of Y. -/
def SY (p M : Nat) (Y : Nat → Prop) : Nat → Prop := fun y => (y = p ∨ y = M) ∨ Y y
/-- The blocks that a change of a sequence may turn. -/
def TM (T M : Nat) : Nat → Prop := fun y => y = T ∨ y = M
/-- A list with marks: its block p, its tree's T, its map's M; Y: blocks that others write into. -/
structure PlIx (Y : Nat → Prop) (p T M : Nat) (xs : List Int) (h n : Nat) (f : Int → Option Nat) (w : World) : Prop where
  c0 : w.cell? ⟨p, 0, none⟩ = some (.pointer (some ⟨T, 0, none⟩))
  c1 : w.cell? ⟨p, 1, none⟩ = some (.map (some M))
  tr : TrM (SY p M Y) w T xs h n
  mp : MapU w M f xs.length
  ok : SqOk xs f
  pT : p ≠ T
  MT : M ≠ T
  pM : p ≠ M
  yT : ¬ Y T
  yM : ¬ Y M
  yp : ¬ Y p
  yl : ∀ g, Y g → g < w.heap.size
variable {Y : Nat → Prop} {p T M : Nat} {xs zs : List Int} {h n h' n' : Nat} {f f' : Int → Option Nat} {w w' : World}
theorem PlIx.up (i : PlIx Y p T M xs h n f w) (hu : Up w w') : PlIx Y p T M xs h n f w' :=
  ⟨hu.cell i.c0, hu.cell i.c1, i.tr.up hu, i.mp.up hu, i.ok, i.pT, i.MT, i.pM, i.yT, i.yM, i.yp, fun g hg => Nat.lt_of_lt_of_le (i.yl g hg) hu.size⟩
theorem PlIx.sT (i : PlIx Y p T M xs h n f w) : ¬ SY p M Y T := fun e => by
  rcases e with (e | e) | e
  · exact i.pT e.symm
  · exact i.MT e.symm
  · exact i.yT e
theorem PlIx.sl (i : PlIx Y p T M xs h n f w) : ∀ y, SY p M Y y → y < w.heap.size := fun y e => by
  rcases e with (rfl | rfl) | e
  · exact World.block_lt_of_cell? w _ i.c0
  · exact i.mp.lt
  · exact i.yl y e
/-- Something of Y was written into. -/
theorem PlIx.other {C : Nat → Prop} (i : PlIx Y p T M xs h n f w) (hc : Chg C w w') (hC : ∀ y, C y → Y y) : PlIx Y p T M xs h n f w' :=
  ⟨hc.cell i.c0 (fun e => i.yp (hC _ e)), hc.cell i.c1 (fun e => i.yp (hC _ e)), i.tr.chg (hc.mono (fun y _ e => .inr (hC y e))) i.sT, i.mp.chg hc (fun e => i.yM (hC _ e)), i.ok, i.pT, i.MT, i.pM, i.yT, i.yM, i.yp, fun g hg => Nat.lt_of_lt_of_le (i.yl g hg) hc.size⟩
/-- The map was written into. -/
theorem PlIx.map (i : PlIx Y p T M xs h n f w) (hc : Chg (fun y => y = M) w w') (hm : MapU w' M f' xs.length) (hok : SqOk xs f') : PlIx Y p T M xs h n f' w' :=
  ⟨hc.cell i.c0 i.pM, hc.cell i.c1 i.pM, i.tr.chg (hc.mono (fun y _ e => .inl (.inr e))) i.sT, hm, hok, i.pT, i.MT, i.pM, i.yT, i.yM, i.yp, fun g hg => Nat.lt_of_lt_of_le (i.yl g hg) hc.size⟩
/-- New blocks that others write into. -/
theorem PlIx.wide (i : PlIx Y p T M xs h n f w) (hu : Up w w') {Z : Nat → Prop} (hZ : ∀ y, Z y → w.heap.size ≤ y ∧ y < w'.heap.size) : PlIx (fun y => Y y ∨ Z y) p T M xs h n f w' := by
  have hpl : p < w.heap.size := World.block_lt_of_cell? w _ i.c0
  have hTl : T < w.heap.size := i.tr.tr.lt
  have hMl := i.mp.lt
  obtain ⟨b, h1, sz, h2, h3⟩ := i.tr
  have j := i.up hu
  refine ⟨j.c0, j.c1, ⟨b, h1.up hu, sz, (h2.mono (fun y hy e => ?_)).chg (Chg.of_up hu), h3⟩, j.mp, j.ok, i.pT, i.MT, i.pM, fun e => ?_, fun e => ?_, fun e => ?_, fun g hg => ?_⟩
  · rcases e with e | e | e | e
    · exact .inl e
    · exact .inr (.inl e)
    · exact .inr (.inr e)
    · have := hZ y e; omega
  · rcases e with e | e
    · exact i.yT e
    · have := hZ _ e; omega
  · rcases e with e | e
    · exact i.yM e
    · have := hZ _ e; omega
  · rcases e with e | e
    · exact i.yp e
    · have := hZ _ e; omega
  · rcases hg with hg | hg
    · exact j.yl g hg
    · exact (hZ g hg).2
/-- Fewer blocks that others write into. -/
theorem PlIx.narrow {Y' : Nat → Prop} (i : PlIx Y p T M xs h n f w) (hY : ∀ y, Y' y → Y y) : PlIx Y' p T M xs h n f w := by
  obtain ⟨b, h1, sz, h2, h3⟩ := i.tr
  exact ⟨i.c0, i.c1, ⟨b, h1, sz, h2.mono (fun y _ e => e.imp id (fun e => e.imp id (hY y))), h3⟩, i.mp, i.ok, i.pT, i.MT, i.pM, fun e => i.yT (hY _ e), fun e => i.yM (hY _ e), fun e => i.yp (hY _ e), fun g hg => i.yl g (hY g hg)⟩
set_option maxHeartbeats 2000000 in
theorem plnew_calls (w : World) : Calls Try.prog 39 #[] w fun e w' => ∃ p T M, e = .returned (.pointer (some ⟨p, 0, none⟩)) ∧ PlIx (fun _ => False) p T M [] 0 0 (fun _ => none) w' ∧ w.heap.size ≤ p ∧ w.heap.size ≤ T ∧ w.heap.size ≤ M ∧ Up w w' := by
  go_enter Try.func39, Try.ntmps39
  go_wp2_with fail
  refine (tnewL_calls w).mono ?_
  rintro _ w1 ⟨T, rfl, t1, hTw, hu1⟩
  replace t1 := hide t1
  replace hu1 := hide hu1
  have hm := hide (MapU.made w1)
  have hmm := @run_makeMap Try.prog
  dsimp only
  go_wp2
  go_ret
  have hTl := t1.out.lt
  have hu2 : Up (w1.alloc (.map #[] 0)) ((w1.alloc (.map #[] 0)).alloc (.cells #[.pointer (some ⟨T, 0, none⟩), .map (some w1.heap.size)] 84)) := (Up.refl _).alloc _
  have hu3 : Up w1 ((w1.alloc (.map #[] 0)).alloc (.cells #[.pointer (some ⟨T, 0, none⟩), .map (some w1.heap.size)] 84)) := ((Up.refl w1).alloc _).trans hu2
  obtain ⟨b, h1, sz, h2, h3⟩ := t1.out.top
  refine ⟨w1.heap.size + 1, T, w1.heap.size, rfl, ⟨by go_simp, by go_simp, ⟨b, h1.up hu3, sz, (h2.mono (fun y hy e => ?_)).chg (Chg.of_up hu3), h3⟩, hm.out.up hu2, SqOk.nil, by omega, by omega, by omega, fun h => h, fun h => h, fun h => h, fun g hg => hg.elim⟩, by have := hu1.out.size; omega, hTw, hu1.out.size, hu1.out.trans hu3⟩
  rcases e with e | (e | e) | e
  · exact e
  · omega
  · omega
  · exact e.elim
theorem pllen_calls (i : PlIx Y p T M xs h n f w) : Calls Try.prog 52 #[.pointer (some ⟨p, 0, none⟩)] w fun e w' => e = .returned (.int .i64 xs.length) ∧ w' = w := by
  have c0 := i.c0
  have HT := hide (tlenL_calls T h n xs w i.tr.tr)
  clear i
  go_enter Try.func52, Try.ntmps52
  go_wp2_with (go_at_call 67; refine HT.out.mono ?_; rintro _ w1 ⟨rfl, hw1⟩; subst hw1)
  go_ret
  exact ⟨rfl, rfl⟩
theorem plwrites_calls (i : PlIx Y p T M xs h n f w) : Calls Try.prog 40 #[.pointer (some ⟨p, 0, none⟩)] w fun e w' => e = .returned (.int .i64 n) ∧ w' = w := by
  have c0 := i.c0
  have HT := hide (twritesL_calls T h n xs w i.tr.tr)
  clear i
  go_enter Try.func40, Try.ntmps40
  go_wp2_with (go_at_call 59; refine HT.out.mono ?_; rintro _ w1 ⟨rfl, hw1⟩; subst hw1)
  go_ret
  exact ⟨rfl, rfl⟩
theorem plat_ok (k : Nat) (i : PlIx Y p T M xs h n f w) (hk : k < xs.length) (hx : xs.length ≤ 100000) : Calls Try.prog 55 #[.pointer (some ⟨p, 0, none⟩), .int .i64 k] w fun e w' => e = .returned (.tuple #[.int .i64 (xs.getD k 0), .bool true]) ∧ Up w w' := by
  have c0 := i.c0
  have HT := hide (tatL_ok T h n k 0 xs w i.tr.tr hk hx)
  generalize xs.getD k 0 = v at *
  clear i
  go_enter Try.func55, Try.ntmps55
  go_wp2_with (go_at_call 71; refine HT.out.mono ?_; rintro _ w1 ⟨rfl, hw1⟩; replace hw1 := hide hw1)
  go_ret2
  exact ⟨rfl, hw1.out⟩
theorem plat_not (k : Int) (i : PlIx Y p T M xs h n f w) (hk : k < 0 ∨ (xs.length : Int) ≤ k) : Calls Try.prog 55 #[.pointer (some ⟨p, 0, none⟩), .int .i64 k] w fun e w' => e = .returned (.tuple #[.int .i64 0, .bool false]) ∧ Up w w' := by
  have c0 := i.c0
  have HT := hide (tatL_not T h n k xs w i.tr.tr hk)
  clear i hk
  go_enter Try.func55, Try.ntmps55
  go_wp2_with (go_at_call 71; refine HT.out.mono ?_; rintro _ w1 ⟨rfl, hw1⟩; replace hw1 := hide hw1)
  go_ret2
  exact ⟨rfl, hw1.out⟩
theorem cutL_all {α : Type} (l : List α) : cutL l 0 (l.length : Int) = l := by
  unfold cutL
  simp
theorem pllen_up (i : PlIx Y p T M xs h n f w) : Calls Try.prog 52 #[.pointer (some ⟨p, 0, none⟩)] w fun e w' => e = .returned (.int .i64 xs.length) ∧ Up w w' := (pllen_calls i).mono (fun _ _ ⟨h1, h2⟩ => ⟨h1, by rw [h2]; exact Up.refl _⟩)
set_option maxHeartbeats 2000000 in
theorem plall_calls (i : PlIx Y p T M xs h n f w) (hx : xs.length ≤ 100000) : Calls Try.prog 53 #[.pointer (some ⟨p, 0, none⟩)] w fun e w' => AppPost w xs e w' := by
  have HLN : Hid (∀ w', Up w w' → Calls Try.prog 52 #[.pointer (some ⟨p, 0, none⟩)] w' fun e w'' => e = .returned (.int .i64 xs.length) ∧ Up w' w'') := fun w' hu => pllen_up (i.up hu)
  have HSL : Hid (∀ w', Up w w' → Calls Try.prog 68 #[.pointer (some ⟨T, 0, none⟩), .int .i64 0, .int .i64 (xs.length : Int)] w' fun e w'' => AppPost w' xs e w'') := fun w' hu => by
    have hs := tslice_calls T h n xs 0 (xs.length : Int) w' (i.up hu).tr.tr hx
    rw [cutL_all] at hs
    exact hs
  have HKK : Hid (∀ w', Up w w' → (Up w w' ∧ w'.cell? ⟨p, 0, none⟩ = some (.pointer (some ⟨T, 0, none⟩)))) := fun w' hu => ⟨hu, hu.cell i.c0⟩
  clear i
  go_enter Try.func53, Try.ntmps53
  go_wp2_with fail
  have tok1 : True := trivial
  have tok2 : True := trivial
  go_region_held3 (fun w' => Up w w' ∧ w'.cell? ⟨p, 0, none⟩ = some (.pointer (some ⟨T, 0, none⟩))) (exact HKK.out _ (by repeat' (with_reducible first | assumption | exact Up.refl _ | apply Up.alloc | apply Up.drew)))
    (first
      | (clear tok1; go_at_call 52; refine (HLN.out _ (by repeat' (with_reducible first | assumption | exact Up.refl _ | apply Up.alloc | apply Up.drew))).mono ?_; rintro _ w5 ⟨rfl, hu5⟩; have hv5 : Up w w5 := Up.trans (by repeat' (with_reducible first | assumption | exact Up.refl _ | apply Up.alloc | apply Up.drew)) hu5; clear hu5)
      | (clear tok2; go_at_call 68; refine (HSL.out _ (by repeat' (with_reducible first | assumption | exact Up.refl _ | apply Up.alloc | apply Up.drew))).mono ?_; rintro _ w6 ⟨v6, rfl, ho6, hu6⟩; have hz6 := Up.size (w := w) (by repeat' (with_reducible first | assumption | exact Up.refl _ | apply Up.alloc | apply Up.drew)); have hv6 : Up w w6 := Up.trans (by repeat' (with_reducible first | assumption | exact Up.refl _ | apply Up.alloc | apply Up.drew)) hu6; replace ho6 := hide (Own.base ho6 hz6); clear hu6 hz6))
  all_goals
    have HV6 := hide hv6
    clear hv5 hv6
    obtain ⟨a6, n6, c6, rfl, -, -⟩ := ho6.out.sliceN
    go_wp2
    go_ret
    exact ⟨_, rfl, ho6.out, HV6.out⟩
theorem plhas_calls (id : Int) (i : PlIx Y p T M xs h n f w) (hw : wf64 id) (b : Bool) (hb : b = decide (id ∈ xs)) : Calls Try.prog 62 #[.pointer (some ⟨p, 0, none⟩), .int .i64 id] w fun e w' => e = .returned (.bool b) ∧ w' = w := by
  have c1 := i.c1
  by_cases hx : id ∈ xs
  · obtain rfl : b = true := by rw [hb]; simp [hx]
    obtain ⟨s, hs⟩ := Option.isSome_iff_exists.1 ((i.ok.has id).2 hx)
    have hl := i.mp.look_some hw hs
    clear i hb hx
    go_enter Try.func62, Try.ntmps62
    go_wp2
    go_ret
    exact ⟨rfl, rfl⟩
  · obtain rfl : b = false := by rw [hb]; simp [hx]
    have hl := i.mp.look_none hw (i.ok.untold hx)
    clear i hb hx
    go_enter Try.func62, Try.ntmps62
    go_wp2
    go_ret
    exact ⟨rfl, rfl⟩
set_option maxHeartbeats 2000000 in
theorem mark_calls (k : Nat) (j : Int) (i : PlIx Y p T M xs h n f w) (hj : j + 1 = (k : Int)) (hk : k ≤ xs.length + 1) (hx : xs.length ≤ 100000) : Calls Try.prog 77 #[.pointer (some ⟨p, 0, none⟩), .int .i64 j] w fun e w' => e = .returned (.int .u64 (mkN f xs k)) ∧ Up w w' := by
  have c0 := i.c0
  have c1 := i.c1
  by_cases h0 : k = 0
  · subst h0
    have e0 : (mkN f xs 0 : Nat) = 0 := rfl
    rw [e0]
    have hd : decide (j < 0) = true := decide_eq_true (by omega)
    clear i
    go_enter Try.func77, Try.ntmps77
    go_wp2
    go_ret
    exact ⟨rfl, Up.refl _⟩
  · obtain ⟨q, rfl⟩ : ∃ q, k = q + 1 := ⟨k - 1, by omega⟩
    obtain rfl : j = (q : Int) := by omega
    have hd : decide ((q : Int) < 0) = false := decide_eq_false (by omega)
    have hd' : ¬ ((q : Int) < 0) := by omega
    by_cases hq : q < xs.length
    · have HT := hide (tatL_ok T h n q 0 xs w i.tr.tr hq hx)
      rw [getD_in xs hq] at HT
      have HM := hide i.mp
      have hw := i.ok.wf xs[q] (List.getElem_mem hq)
      have hf := i.ok.tell hq
      generalize xs[q] = v at *
      generalize mkN f xs (q + 1) = m at *
      clear i hj
      go_enter Try.func77, Try.ntmps77
      go_wp2_with fail
      refine HT.out.mono ?_
      rintro _ w1 ⟨rfl, hw1⟩
      have hl := (HM.out.up hw1).look_it hw hf
      replace c1 := hw1.cell c1
      replace hw1 := hide hw1
      dsimp only
      go_wp2
      go_ret
      exact ⟨rfl, hw1.out⟩
    · rw [mkN_out f xs (by omega)]
      have HT := hide (tatL_not T h n q xs w i.tr.tr (.inr (by omega)))
      clear i hj
      go_enter Try.func77, Try.ntmps77
      go_wp2_with fail
      refine HT.out.mono ?_
      rintro _ w1 ⟨rfl, hw1⟩
      replace hw1 := hide hw1
      dsimp only
      go_wp2
      go_ret
      exact ⟨rfl, hw1.out⟩
/-- The question that Place hands over. -/
theorem placeAsk (i : PlIx Y p T M xs h n f w) (xb mb m : Nat) (W : World) (hu : Up w W) (hxb : W.cell? ⟨xb, 0, none⟩ = some (.pointer (some ⟨p, 0, none⟩))) (hmb : W.cell? ⟨mb, 0, none⟩ = some (.int .u64 m)) :
    AskV 70 #[.pointer (some ⟨xb, 0, none⟩), .pointer (some ⟨mb, 0, none⟩)] xs (fun x => decide (m ≤ (f x).getD 0)) (fun _ w' => Up W w') := by
  intro k x w1 hk hx hu1
  have j := i.up (hu.trans hu1)
  have c1 := j.c1
  have d0 := hu1.cell hxb
  have d1 := hu1.cell hmb
  obtain ⟨s, hs⟩ := Option.isSome_iff_exists.1 ((i.ok.has x).2 hx)
  have hl : ∀ q, (Instr.lookup 82 (.map (some M)) (.int .i64 x) false).run Try.prog (w1.drewN q) = .ok (.int .u64 s) (w1.drewN q) := fun q => (j.mp.up ((Up.refl w1).drewN q)).look_it (i.ok.wf x hx) hs
  have e0 : (f x).getD 0 = s := by rw [hs]; rfl
  have hd : decide (m ≤ s) = decide (m ≤ (f x).getD 0) := by rw [e0]
  have HU := hide hu1
  have HD := hide hd
  clear j i hs e0 hd hx hu1 hxb hmb hk
  go_enter Try.func70, Try.ntmps70
  go_wp2_with fail
  go_quiet (fail)
  go_wp2
  go_ret
  refine ⟨?_, HU.out.drewN nq⟩
  rw [← HD.out]
  simp
theorem plplace_no (id : Int) (i : PlIx Y p T M xs h n f w) (hw : wf64 id) (hid : id ∉ xs) : Calls Try.prog 54 #[.pointer (some ⟨p, 0, none⟩), .int .i64 id] w fun e w' => e = .returned (.tuple #[.int .i64 0, .bool false]) ∧ Up w w' := by
  obtain ⟨W, hW⟩ : ∃ W, W = w.alloc (.cells #[.pointer (some ⟨p, 0, none⟩)] 65) := ⟨_, rfl⟩
  have u : Up w W := by rw [hW]; exact (Up.refl _).alloc _
  have d0 : W.cell? ⟨w.heap.size, 0, none⟩ = some (.pointer (some ⟨p, 0, none⟩)) := by rw [hW]; go_simp
  have j := i.up u
  have c1 := j.c1
  have hl := j.mp.look_none hw (i.ok.untold hid)
  have hW' := hW.symm
  have HU := hide u
  clear i j hW u
  go_enter Try.func54, Try.ntmps54
  go_wp2
  go_ret2
  exact ⟨rfl, HU.out.alloc _⟩
set_option maxHeartbeats 2000000 in
theorem plplace_yes (k : Nat) (id : Int) (i : PlIx Y p T M xs h n f w) (hk : k < xs.length) (hid : xs[k] = id) (hx : xs.length ≤ 100000) : Calls Try.prog 54 #[.pointer (some ⟨p, 0, none⟩), .int .i64 id] w fun e w' => e = .returned (.tuple #[.int .i64 k, .bool true]) ∧ Up w w' := by
  obtain ⟨m, hm⟩ : ∃ m, m = mkN f xs (k + 1) := ⟨_, rfl⟩
  obtain ⟨W, hW⟩ : ∃ W, W = w.alloc (.cells #[.pointer (some ⟨p, 0, none⟩)] 65) := ⟨_, rfl⟩
  have u : Up w W := by rw [hW]; exact (Up.refl _).alloc _
  have d0 : W.cell? ⟨w.heap.size, 0, none⟩ = some (.pointer (some ⟨p, 0, none⟩)) := by rw [hW]; go_simp
  obtain ⟨V, hV⟩ : ∃ V, V = W.alloc (.cells #[.int .u64 m] 89) := ⟨_, rfl⟩
  have v : Up W V := by rw [hV]; exact (Up.refl _).alloc _
  have d1 : V.cell? ⟨W.heap.size, 0, none⟩ = some (.int .u64 m) := by rw [hV]; go_simp
  have d2 := v.cell d0
  have j := i.up u
  have jv := i.up (u.trans v)
  have c1 := j.c1
  have c0 := jv.c0
  have hw : wf64 id := by rw [← hid]; exact i.ok.wf _ (List.getElem_mem hk)
  have hf : f id = some m := by rw [← hid, hm]; exact i.ok.tell hk
  have hl := j.mp.look_some hw hf
  obtain ⟨V2, hV2⟩ : ∃ V2, V2 = (V.alloc (.cells #[.pointer (some ⟨T, 0, none⟩)] 80)).alloc (.cells #[.func (.func 70) #[] #[.pointer (some ⟨w.heap.size, 0, none⟩), .pointer (some ⟨W.heap.size, 0, none⟩)]] 72) := ⟨_, rfl⟩
  have u2 : Up V V2 := by rw [hV2]; exact ((Up.refl _).alloc _).alloc _
  have b1 : V2.cell? ⟨V.heap.size, 0, none⟩ = some (.pointer (some ⟨T, 0, none⟩)) := by rw [hV2]; go_simp
  have b2 : V2.cell? ⟨V.heap.size + 1, 0, none⟩ = some (.func (.func 70) #[] #[.pointer (some ⟨w.heap.size, 0, none⟩), .pointer (some ⟨W.heap.size, 0, none⟩)]) := by rw [hV2]; go_simp
  have HS := hide (tsearch_calls T h n k 70 #[.pointer (some ⟨w.heap.size, 0, none⟩), .pointer (some ⟨W.heap.size, 0, none⟩)] xs (fun x => decide (m ≤ (f x).getD 0)) (fun _ w' => Up V2 w') V V2 hV2 hx (enters_of Try.func70 (by kernel_rfl) rfl)
    (placeAsk i w.heap.size W.heap.size m V2 ((u.trans v).trans u2) (u2.cell d2) (u2.cell d1)) (fun _ _ _ a b => a.trans b) (fun _ w' hu => ⟨jv.tr.tr.up (u2.trans hu), hu.cell b1, hu.cell b2⟩) (Up.refl _) (by omega)
    (fun q hq => by
      have h1 := i.ok.lt (i := q + 1) (j := k + 1) (by omega) (by omega)
      rw [getD_in xs (by omega), ← mkN_at f xs (by omega), hm]
      exact decide_eq_false (by omega))
    (fun q hq hq2 => by
      rw [getD_in xs hq2, ← mkN_at f xs hq2, hm]
      refine decide_eq_true ?_
      by_cases e : k = q
      · subst e; exact Nat.le_refl _
      · exact Nat.le_of_lt (i.ok.lt (by omega) (by omega))))
  have HU := hide ((u.trans v).trans u2)
  have hW' := hW.symm
  have hV' := hV.symm
  clear i j jv hf hw hm hid u v u2 b1 b2 hV2 d1 hW hV hk
  go_enter Try.func54, Try.ntmps54
  go_wp2_with fail
  clear hW' hV'
  refine HS.out.mono ?_
  rintro _ w2 ⟨k2, rfl, hI2, hk2⟩
  replace hI2 := hide hI2
  dsimp only
  go_wp2
  go_ret2
  exact ⟨rfl, HU.out.trans hI2.out⟩
end Go.Proofs.Ytbnkddnjfkagkaa
