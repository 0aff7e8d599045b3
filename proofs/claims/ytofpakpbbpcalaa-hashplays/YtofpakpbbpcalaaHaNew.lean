/-
  What New and Insert of package hashidx do with a key that nothing stands with, as the text runs.
-/
import Derived.Test.YtofpakpbbpcalaaHaIdx
import Derived.Deep.RegionLaw
namespace Go.Proofs.Ytofpakpbbpcalaa
open Go.ChangeShapes Go.WideShapes Go.ChangeAt Go.RowKit
set_option linter.unusedVariables false
set_option maxRecDepth 100000
attribute [local go_sem ↓] Go.wp_at_zero Go.wp_at_succ
attribute [local go_sem] run_store_float

theorem new_calls (u : Bool) (w : World) : Calls Try.prog 8 #[.bool u] w fun e w' => ∃ p, e = .returned (.pointer (some ⟨p, 0, none⟩)) ∧ w.heap.size ≤ p ∧ Idx p (fun x => w.heap.size ≤ x ∧ x < w'.heap.size) w' u (fun _ => []) 0 0 ∧ Up w w' := by
  have hmm := @run_makeMap Try.prog
  go_enter Try.func8, Try.ntmps8
  go_wp2
  go_ret
  refine ⟨w.heap.size + 1, by simp, by omega, ⟨fun x hx => hx.2, fun _ => False, fun _ => 0, w.heap.size, fun _ => none, ⟨by go_simp, by go_simp, by go_simp, fun o => by first | go_simp | simp [World.frozen?], ((MapS.made w).up ((Up.refl _).alloc _)), by omega⟩, ⟨fun m h => absurd rfl h, fun m _ _ => rfl, fun x v h => (by cases h), fun m m' h => absurd rfl h, fun m h => absurd rfl h, fun x h => h.elim, fun m => ⟨List.Pairwise.nil, by simp⟩⟩, fun x hx => ?_⟩, ((Up.refl _).alloc _).alloc _⟩
  rcases hx with hx | rfl | rfl | ⟨m, hm, _⟩
  · exact hx.elim
  · exact ⟨by omega, by simp⟩
  · exact ⟨by omega, by simp; omega⟩
  · exact absurd rfl hm

theorem insJ_nil (vb : Nat) (x : Int) (w : World) (hv : w.cell? ⟨vb, 0, none⟩ = some (.int .i64 x)) :
    Calls Try.prog 27 #[.slice none 0 0, .int .i64 0, .slice (some ⟨vb, 0, none⟩) 1 1] w fun e w' => ∃ v', e = .returned v' ∧ OwnJ w' w.heap.size v' [x] ∧ Up w w' := by
  go_enter Try.func27, Try.ntmps27
  go_wp2_with (at_builtin; refine append_ids rfl _ _ rfl w.heap.size _ [] rfl (OwnG.nil _ _ _ _ _) ⟨vb, 0, none⟩ 1 1 [x] rfl rfl (fun j hj => ?_) (by simp) (Nat.le_refl _) ?_)
  · obtain rfl : j = 0 := by simpa using hj
    simpa [Addr.add_lit] using hv
  · intro v' w' ho hg _
    have hu : Hid (Up w w') := (Below.grown (Below.refl _ _) hg (Nat.le_refl _) (fun k hk => by cases hk))
    replace ho := hide ho
    clear hg
    go_wp2
    go_ret
    exact ⟨_, rfl, ho.out, hu.out⟩

set_option maxHeartbeats 8000000 in
/-- A key that nothing stands with comes to stand with a number. -/
theorem insert_new (p : Nat) (O : Nat → Prop) (u : Bool) (T : Tab) (len c : Nat) (a : Option Addr) (n cp : Nat) (m : List VT) (x : Int) (w : World) (hi : Idx p O w u T len c) (hm : GoodK m) (hv : Vals w a n m) (hT : T m = []) (hl : len ≤ 100000) (hc : c ≤ 100000) :
    Calls Try.prog 11 #[.pointer (some ⟨p, 0, none⟩), .slice a n cp, .int .i64 x] w fun e w' => e = .returned (.int .i64 0) ∧ Chg O w w' ∧ Idx p (fun y => O y ∨ (w.heap.size ≤ y ∧ y < w'.heap.size)) w' u (setT T m [x]) ((len + 1 : Nat) : Int) (c + 1) := by
  obtain ⟨h0, K, bl, M, f, hC, hG, hO⟩ := hi
  have hlt : ∀ y, iblk K bl p M T y → y < w.heap.size := fun y hy => h0 y (hO y hy)
  have HO := hide hO
  have HG := hide hG
  have HV := hide hv
  have HM := hide hm
  have HLT := hide hlt
  have H0 := hide h0
  have hs := maxS hm
  obtain ⟨ht1, ht2⟩ := hG.told_none hm hT
  have ew : IntKind.i64.wrap ((len : Int) + 1) = ((len + 1 : Nat) : Int) := by simp [IntKind.wrap, IntKind.bits, IntKind.signed]; omega
  clear hO hG hv hm hlt h0
  have HC := hide hC
  clear hC
  go_enter Try.func11, Try.ntmps11
  go_wp2_with fail
  go_at_call 24
  refine (bytesOf_calls a n cp m _ HM.out HV.out).mono ?_
  rintro _ w1 ⟨rfl, hu1⟩
  have hC1 : IdxC p M w1 u len c f := HC.out.chg (Chg.of_up (C := fun _ => False) hu1) (fun h => h) (fun h => h)
  have k0 := hC1.c0
  have k1 := hC1.c1
  have hlk := hC1.map.look_ok hs
  rw [ht1, ht2] at hlk
  simp only [Option.isSome] at hlk
  have HU1 := hide hu1
  have hS := hide ht2
  clear ht1 ht2 hu1
  have HC1 := hide hC1
  clear hC1
  generalize hsk : keyB m = s at *
  replace hsk := hide hsk
  go_wp2_with fail
  go_at_call 25
  refine (search_none none 0 x _).mono ?_
  rintro _ w2 ⟨rfl, hu2⟩
  obtain ⟨G, hGd⟩ : ∃ G, G = w1.heap.size := ⟨_, rfl⟩
  have b0 : w2.cell? ⟨G, 0, none⟩ = some (.slice none 0 0) := hu2.cell (by rw [hGd]; go_simp)
  have b1 : w2.cell? ⟨G, 1, none⟩ = some (.slice none 0 0) := hu2.cell (by rw [hGd]; go_simp)
  have bf : ∀ o, w2.frozen? ⟨G, o, none⟩ = false := fun o => (hu2.frozen (p := ⟨G, o, none⟩) (by rw [hGd]; simp)).trans (by rw [hGd]; first | go_simp | simp [World.frozen?])
  have hG2 : Hid (G < w2.heap.size) := by have := hu2.size; show G < _; rw [hGd]; simp at this; omega
  have hGw : Hid (w.heap.size ≤ G) := by rw [hGd]; exact HU1.out.size
  have HU2 : Hid (Up w w2) := ((HU1.out.alloc _).trans hu2)
  rw [← hGd]
  clear hu2 hGd hlk k0 k1 HC1
  go_wp2_with fail
  go_at_call 26
  refine (scopy_calls a n cp m _ (by rw [← HV.out.1]; exact HM.out.1) (HV.out.up HU2.out) HM.out.2.1).mono ?_
  rintro _ w3 ⟨a', rfl, hn3, hu3⟩
  replace b0 := hu3.cell b0
  replace b1 := hu3.cell b1
  have f0 := (hu3.frozen (p := ⟨G, 0, none⟩) hG2.out).trans (bf 0)
  have f1 := (hu3.frozen (p := ⟨G, 1, none⟩) hG2.out).trans (bf 1)
  have HU3 : Hid (Up w w3) := HU2.out.trans hu3
  have hG3 : Hid (G < w3.heap.size) := Nat.lt_of_lt_of_le hG2.out hu3.size
  have hN3 : Hid (NewRow (G + 1) w3 a' n m) := ⟨hn3.1, hn3.2.imp id (fun ⟨g, e, h1, h2⟩ => ⟨g, e, Nat.le_trans hG2.out h1, h2⟩)⟩
  clear hu3 hn3 bf
  have X0 : (w3.setCell ⟨G, 0, none⟩ (.slice a' n n)).cell? ⟨G, 0, none⟩ = some (.slice a' n n) := World.cell?_setCell_same _ _ _ b0
  have X1 : (w3.setCell ⟨G, 0, none⟩ (.slice a' n n)).cell? ⟨G, 1, none⟩ = some (.slice none 0 0) := (World.cell?_setCell_other _ _ _ _ (by simp)).trans b1
  have Y1 : (w3.setCell ⟨G, 0, none⟩ (.slice a' n n)).frozen? ⟨G, 1, none⟩ = false := by rw [World.frozen?_setCell]; exact f1
  have hc4 : Chg (fun y => y = G) w3 (w3.setCell ⟨G, 0, none⟩ (.slice a' n n)) := (Chg.refl _ w3).set (C := fun y => y = G) (p := ⟨G, 0, none⟩) (fun _ => rfl) _
  have HU4 : Hid (Up w (w3.setCell ⟨G, 0, none⟩ (.slice a' n n))) := ((Chg.of_up (C := fun y => y = G) HU3.out).trans hc4 (fun _ _ h => h)).up (fun y h1 h2 => by have := hGw.out; omega)
  have hN4 : Hid (NewRow (G + 1) (w3.setCell ⟨G, 0, none⟩ (.slice a' n n)) a' n m) := by
    refine ⟨(ValsO.chg (O := fun y => G + 1 ≤ y) ⟨hN3.out.1, hN3.out.2.imp id (fun ⟨g, e, h1, h2⟩ => ⟨g, 0, e, h1⟩)⟩ hc4 (fun y h1 h2 => by omega)).1, hN3.out.2.imp id (fun ⟨g, e, h1, h2, h3⟩ => ⟨g, e, h1, Nat.lt_of_lt_of_le h2 hc4.size, fun i => ?_⟩)⟩
    rw [World.frozen?_setCell]
    exact h3 i
  have hG4 : Hid (G < (w3.setCell ⟨G, 0, none⟩ (.slice a' n n)).heap.size) := Nat.lt_of_lt_of_le hG3.out hc4.size
  clear hc4 hN3 HU3 HU2 hG2
  go_wp2_with fail
  have hsz : (w3.setCell ⟨G, 0, none⟩ (.slice a' n n)).heap.size = w3.heap.size := by simp
  rw [← hsz]
  generalize hW4 : w3.setCell ⟨G, 0, none⟩ (.slice a' n n) = w4 at *
  clear hW4 hsz b0 b1 f0 f1 hG3
  go_at_call 27
  refine (insJ_nil w4.heap.size x _ (by go_simp)).mono ?_
  rintro _ w5 ⟨v5, rfl, ho5, hu5⟩
  obtain ⟨g, cg, rfl, hgb, hgl⟩ : ∃ g cg, v5 = .slice (some ⟨g, 0, none⟩) 1 cg ∧ w4.heap.size < g ∧ g < w5.heap.size := by
    have hlt := ho5.lt
    rcases ho5.2 with ⟨_, h⟩ | ⟨g, cap, cur, rfl, h1, _⟩
    · simp at h
    · exact ⟨g, cap, rfl, by have : (w4.alloc (.cells #[.int .i64 x] 2)).heap.size ≤ g := h1; simp at this; omega, (hlt g rfl).2⟩
  have hu45 : Up w4 w5 := ((Up.refl _).alloc _).trans hu5
  replace X0 := hu45.cell X0
  replace X1 := hu45.cell X1
  replace Y1 := (hu45.frozen (p := ⟨G, 1, none⟩) hG4.out).trans Y1
  have HU5 : Hid (Up w w5) := HU4.out.trans hu45
  have hG5 : Hid (G < w4.heap.size) := hG4.out
  have hN5 : Hid (NewRow (G + 1) w5 a' n m) := ⟨hN4.out.1.up hu45, hN4.out.2.imp id (fun ⟨g, e, h1, h2, h3⟩ => ⟨g, e, h1, Nat.lt_of_lt_of_le h2 hu45.size, fun i => (hu45.frozen (p := ⟨g, i, none⟩) h2).trans (h3 i)⟩)⟩
  have hN5b : Hid (∀ q, a' = some ⟨q, 0, none⟩ → n = 0 ∨ q < w4.heap.size) := fun q e => by
    rcases hN4.out.2 with h | ⟨g', e', _, h2, _⟩
    · exact .inl h
    · rw [e] at e'; cases e'; exact .inr h2
  have hO5 : Hid (OwnJ w5 0 (.slice (some ⟨g, 0, none⟩) 1 cg) [x]) := ho5.base0
  have hGg : ¬ G = g := by have := hG5.out; omega
  have HG5 : Hid (w4.heap.size < g ∧ g < w5.heap.size) := ⟨hgb, hgl⟩
  have hw4 : Hid (w.heap.size ≤ w4.heap.size) := HU4.out.size
  clear ho5 hu5 hu45 hgb hgl hG4 hN4 HU4
  have Z0 : (w5.setCell ⟨G, 1, none⟩ (.slice (some ⟨g, 0, none⟩) 1 cg)).cell? ⟨G, 0, none⟩ = some (.slice a' n n) := (World.cell?_setCell_other _ _ _ _ (by simp)).trans X0
  have Z1 : (w5.setCell ⟨G, 1, none⟩ (.slice (some ⟨g, 0, none⟩) 1 cg)).cell? ⟨G, 1, none⟩ = some (.slice (some ⟨g, 0, none⟩) 1 cg) := World.cell?_setCell_same _ _ _ X1
  have hc6 : Chg (fun y => y = G) w5 (w5.setCell ⟨G, 1, none⟩ (.slice (some ⟨g, 0, none⟩) 1 cg)) := (Chg.refl _ w5).set (C := fun y => y = G) (p := ⟨G, 1, none⟩) (fun _ => rfl) _
  have HC6 := hide hc6
  have HU6 : Hid (Up w (w5.setCell ⟨G, 1, none⟩ (.slice (some ⟨g, 0, none⟩) 1 cg))) := ((Chg.of_up (C := fun y => y = G) HU5.out).trans hc6 (fun _ _ h => h)).up (fun y h1 h2 => by have := hGw.out; omega)
  have C6 : IdxC p M (w5.setCell ⟨G, 1, none⟩ (.slice (some ⟨g, 0, none⟩) 1 cg)) u len c f := HC.out.chg (Chg.of_up (C := fun _ => False) HU6.out) (fun h => h) (fun h => h)
  go_wp2_with fail
  clear X0 X1 Y1 hc6
  generalize hW6 : w5.setCell ⟨G, 1, none⟩ (.slice (some ⟨g, 0, none⟩) 1 cg) = w6 at *
  obtain ⟨w7, c7, hrun, hm7, hc7, hC7⟩ := (show MapS w6.drew M f c from C6.map).store hs (.agg #[.slice a' n n, .slice (some ⟨g, 0, none⟩) 1 cg]) rfl (by omega)
  have k1 := C6.c1
  have C7 : Hid (Chg (fun y => y = M) w6 w7) := (((Chg.refl (fun y => y = M) w6).drew).trans hC7 (fun _ _ h => h))
  have k2 : w7.cell? ⟨p, 2, none⟩ = some (.int .i64 len) := C7.out.cell C6.c2 C6.pM
  have k0 : Hid (w7.cell? ⟨p, 0, none⟩ = some (.bool u)) := C7.out.cell C6.c0 C6.pM
  have k1' : Hid (w7.cell? ⟨p, 1, none⟩ = some (.map (some M))) := C7.out.cell C6.c1 C6.pM
  have kf : ∀ o, w7.frozen? ⟨p, o, none⟩ = false := fun o => (C7.out.frozen (p := ⟨p, o, none⟩) (World.block_lt_of_cell? _ ⟨p, 0, none⟩ C6.c0) C6.pM).trans (C6.fz o)
  have kf2 := kf 2
  have HKF := hide kf
  have M7 := hide hm7
  have HC7 := hide hc7
  have hpM := hide C6.pM
  clear hm7 hc7 hC7 C6 kf hW6
  go_region
  all_goals
    clear hrun Z0 Z1 k1
    go_wp2
    go_ret
    have hsome : c7 = c + 1 := by rw [HC7.out, hS.out]; rfl
    have hMl : M < w.heap.size := HLT.out M (.inr (.inr (.inl rfl)))
    have hpl : p < w.heap.size := HLT.out p (.inr (.inl rfl))
    have g5 := HG5.out
    have g4 := hG5.out
    have gw := hGw.out
    have w45 := HC6.out.size
    have w67 := C7.out.size
    have hc8 : Chg (fun y => y = p) w7 (w7.setCell ⟨p, 2, none⟩ (.int .i64 ((len : Int) + 1))) := (Chg.refl _ w7).set (C := fun y => y = p) (p := ⟨p, 2, none⟩) (fun _ => rfl) _
    have w78 := hc8.size
    have hcc : Chg (fun y => y = M ∨ y = p ∨ (T m ≠ [] ∧ y = bl m)) w (w7.setCell ⟨p, 2, none⟩ (.int .i64 ((len : Int) + 1))) :=
      ((Chg.of_up (C := fun y => y = M ∨ y = p ∨ (T m ≠ [] ∧ y = bl m)) HU6.out).trans C7.out (fun y _ h => .inl h)).trans hc8 (fun y _ h => .inr (.inl h))
    refine ⟨rfl, idx_put (K' := fun y => K y ∨ (w.heap.size ≤ y ∧ y < w4.heap.size)) (a := a') (n := n) (c := n) (v := .slice (some ⟨g, 0, none⟩) 1 cg) (g := g) H0.out HO.out HG.out HM.out (by simp) (List.pairwise_singleton _ _) (by simp) hcc ?_ (fun y h => .inl h) (fun y h => h.imp id (fun h => ⟨h.1, by omega⟩)) ?_ ?_ rfl (.inr ⟨by omega, by omega, fun h => ?_⟩)⟩
    · rw [hsk.out, ← hsome]
      refine ⟨(World.cell?_setCell_other _ _ _ _ (by simp)).trans k0.out, (World.cell?_setCell_other _ _ _ _ (by simp)).trans k1'.out, ?_, fun o => by rw [World.frozen?_setCell]; exact HKF.out o, M7.out.chg hc8 (fun h => hpM.out h.symm), hpM.out⟩
      rw [World.cell?_setCell_same _ _ _ k2]
      simp
    · refine (((ValsO.chg (O := fun y => G + 1 ≤ y ∧ y < w4.heap.size) ⟨hN5.out.1, ?_⟩ HC6.out (fun y h1 h2 => by omega)).chg C7.out (fun y h1 h2 => by omega)).chg hc8 (fun y h1 h2 => by omega)).mono (fun y h => .inr ⟨by omega, h.2⟩)
      rcases hN5.out.2 with h | ⟨q, e, h1, h2, _⟩
      · exact .inl h
      · exact (hN5b.out q e).imp id (fun h => ⟨q, 0, e, h1, h⟩)
    · exact OwnG.chg (OwnG.chg (OwnG.chg hO5.out HC6.out (fun y hy h => by have hy : g = y := Option.some.inj hy; omega)) C7.out (fun y hy h => by have hy : g = y := Option.some.inj hy; omega)) hc8 (fun y hy h => by have hy : g = y := Option.some.inj hy; omega)
    · rcases h with h | h
      · have := HLT.out g (.inl h); omega
      · omega

end Go.Proofs.Ytofpakpbbpcalaa
