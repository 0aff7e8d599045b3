/-
  nodes of a counted tree of whole numbers, as its text runs; joined and halves, of what a node has.
-/
import Derived.Test.YtcaccbjolgjmkaaTrHvI
namespace Go.Proofs.Ytcaccbjolgjmkaa
open Go.ChangeShapes Go.WideShapes Go.ChangeAt Go.RowKit
set_option linter.unusedVariables false
set_option maxRecDepth 100000
attribute [local go_sem ↓] Go.wp_at_zero Go.wp_at_succ

theorem joinedI_calls (X : Nat → Prop) (h : Nat) (ve vb ue ub : Value) (xs ys : List Int) (s t : Nat) (w : World) (hXo : ∀ y, X y → y < w.heap.size) (h1 : Ld (Value.int .i64) X w h ve vb xs s) (h2 : Ld (Value.int .i64) X w h ue ub ys t) (hx : xs.length + ys.length ≤ 1000000) (hk : s + t ≤ 1000000) :
    Calls Try.prog 60 #[.agg #[ve, vb], .agg #[ue, ub]] w fun e w' => ∃ v u, e = .returned (.agg #[v, u]) ∧ Ld (Value.int .i64) X w' h v u (xs ++ ys) (s + t) ∧ Up w w' := by
  have key : ∀ {w' : World} {v : Value} {g : Nat} {base : Nat} {e : TypeId} {β : Type} {enc : β → Value} {l : List β}, Own e enc w' w.heap.size v l → v.ownBlock = some g → ¬ X g := fun ho hg hx => by
    have := (ho.lt _ hg).1; have := hXo _ hx; omega
  cases h with
  | zero =>
    obtain ⟨r1, e1, rfl⟩ := h1
    obtain ⟨r2, e2, rfl⟩ := h2
    refine (joinedI_walk X ve vb ue ub xs ys [] [] w r1 r2 e1.rd e2.rd hx (by simp)).mono ?_
    rintro e w' ⟨v, u, rfl, ho, hp, hu⟩
    exact ⟨v, u, rfl, ⟨ho.rd (fun g hg hx => by have := (ho.lt _ hg).1; have := hXo _ hx; omega), (hp.rd (X := X) (fun g hg hx => by have := (hp.lt _ hg).1; have := hXo _ hx; omega)).emp, by simp⟩, hu⟩
  | succ h =>
    obtain ⟨e1, L1, r1, k1, rfl, rfl⟩ := h1
    obtain ⟨e2, L2, r2, k2, rfl, rfl⟩ := h2
    refine (joinedI_walk X ve vb ue ub [] [] (L1.map (·.1)) (L2.map (·.1)) w e1.rd e2.rd r1 r2 (by simp) (by simpa using hk)).mono ?_
    rintro e w' ⟨v, u, rfl, ho, hp, hu⟩
    refine ⟨v, u, rfl, ⟨(ho.rd (X := X) (fun g hg hx => by have := (ho.lt _ hg).1; have := hXo _ hx; omega)).emp, L1 ++ L2, ?_, fun q hq => ?_, by simp, by simp⟩, hu⟩
    · rw [List.map_append]
      exact hp.rd (fun g hg hx => by have := (hp.lt _ hg).1; have := hXo _ hx; omega)
    · rcases List.mem_append.1 hq with hq | hq
      · exact (k1.chg (Chg.of_up hu)) q hq
      · exact (k2.chg (Chg.of_up hu)) q hq

/-- What halves tells. -/
def HalvesPostI (X : Nat → Prop) (h : Nat) (xs : List Int) (s : Nat) (w : World) (e : Ending) (w' : World) : Prop :=
  ∃ v1 u1 v2 u2 ys zs, e = .returned (.tuple #[.agg #[v1, u1], .agg #[v2, u2]]) ∧ Ld (Value.int .i64) X w' h v1 u1 ys (s / 2) ∧ Ld (Value.int .i64) X w' h v2 u2 zs (s - s / 2) ∧ xs = ys ++ zs ∧ Up w w'
theorem halvesI_calls (X : Nat → Prop) (h : Nat) (ve vb : Value) (xs : List Int) (s : Nat) (w : World) (hXo : ∀ y, X y → y < w.heap.size) (h1 : Ld (Value.int .i64) X w h ve vb xs s) (hx : xs.length ≤ 1000000) (hk : s ≤ 1000000) :
    Calls Try.prog 63 #[.agg #[ve, vb]] w fun e w' => HalvesPostI X h xs s w e w' := by
  cases h with
  | zero =>
    obtain ⟨r1, e1, rfl⟩ := h1
    refine (halvesI_walk X ve vb xs [] w r1 e1.rd hx (by simp)).mono ?_
    rintro e w' ⟨v1, u1, v2, u2, rfl, ho1, hp1, ho2, hp2, hu⟩
    refine ⟨v1, u1, v2, u2, _, _, rfl, ⟨ho1.rd (fun g hg hx => by have := (ho1.lt _ hg).1; have := hXo _ hx; omega), (hp1.rd (X := X) (fun g hg hx => by have := (hp1.lt _ hg).1; have := hXo _ hx; omega)).emp, ?_⟩, ⟨ho2.rd (fun g hg hx => by have := (ho2.lt _ hg).1; have := hXo _ hx; omega), (hp2.rd (X := X) (fun g hg hx => by have := (hp2.lt _ hg).1; have := hXo _ hx; omega)).emp, ?_⟩, (List.take_append_drop _ _).symm, hu⟩
    · rw [List.length_take]; omega
    · rw [List.length_drop]
  | succ h =>
    obtain ⟨e1, L, r1, k1, rfl, rfl⟩ := h1
    refine (halvesI_walk X ve vb [] (L.map (·.1)) w e1.rd r1 (by simp) (by simpa using hk)).mono ?_
    rintro e w' ⟨v1, u1, v2, u2, rfl, ho1, hp1, ho2, hp2, hu⟩
    rw [List.length_map] at hp1 hp2
    refine ⟨v1, u1, v2, u2, (L.take (L.length / 2)).flatMap (·.2), (L.drop (L.length / 2)).flatMap (·.2), rfl, ⟨(ho1.rd (X := X) (fun g hg hx => by have := (ho1.lt _ hg).1; have := hXo _ hx; omega)).emp, L.take (L.length / 2), ?_, fun q hq => ?_, rfl, ?_⟩, ⟨(ho2.rd (X := X) (fun g hg hx => by have := (ho2.lt _ hg).1; have := hXo _ hx; omega)).emp, L.drop (L.length / 2), ?_, fun q hq => ?_, rfl, ?_⟩, ?_, hu⟩
    · rw [List.map_take]
      exact hp1.rd (fun g hg hx => by have := (hp1.lt _ hg).1; have := hXo _ hx; omega)
    · exact (k1.chg (Chg.of_up hu)) q (List.mem_of_mem_take hq)
    · rw [List.length_take]; omega
    · rw [List.map_drop]
      exact hp2.rd (fun g hg hx => by have := (hp2.lt _ hg).1; have := hXo _ hx; omega)
    · exact (k1.chg (Chg.of_up hu)) q (List.mem_of_mem_drop hq)
    · rw [List.length_drop]
    · rw [← List.flatMap_append, List.take_append_drop]

/-- What nodes tells: one node, or two. -/
def NodesPostI (X : Nat → Prop) (T : Nat) (tv : Value) (n h : Nat) (xs : List Int) (s : Nat) (w : World) (e : Ending) (w' : World) : Prop :=
  ∃ (v : Value) (L : List (Nat × List Int)), e = .returned v ∧ Own 61 pE w' w.heap.size v (L.map (·.1)) ∧ (∀ q ∈ L, ∃ t, Nd (Value.int .i64) X w' h q.1 q.2 t ∧ t ≤ 8 ∧ (4 ≤ s → 4 ≤ t) ∧ (s ≤ 8 → t = s)) ∧ L.flatMap (·.2) = xs ∧ (s ≤ 8 → L.length = 1) ∧ (8 < s → L.length = 2) ∧ TrC w' T tv (n + L.length) ∧ Chg (fun y => y = T) w w'
set_option maxHeartbeats 2000000 in
theorem nodesI_one (X : Nat → Prop) (T n : Nat) (tv : Value) (h : Nat) (ve vb : Value) (xs : List Int) (s : Nat) (w : World) (hT : TrC w T tv n) (hX : X T) (hXo : ∀ y, X y → y < w.heap.size) (hl : Ld (Value.int .i64) X w h ve vb xs s) (hs : s ≤ 8) (hbig : xs.length ≤ 1000000) (hn : n ≤ 100000000) :
    Calls Try.prog 51 #[.pointer (some ⟨T, 0, none⟩), .agg #[ve, vb]] w fun e w' => NodesPostI X T tv n h xs s w e w' := by
  have hX1 := hX
  have HT := hide hT
  have HO := hide hXo
  have HL := hide hl
  have hTl : T < w.heap.size := World.block_lt_of_cell? w _ hT.c0
  clear hT hXo hl
  obtain ⟨ae, ne, ce, ab, nb, cb, rfl, rfl, -, -, -, -, -⟩ := HL.out.slices
  have hd : decide ((s : Int) ≤ 8) = true := decide_eq_true (by omega)
  have hd' : (s : Int) ≤ 8 := by omega
  obtain ⟨W, hW⟩ : ∃ W, W = w.alloc (.cells #[.slice ae ne ce, .slice ab nb cb] 64) := ⟨_, rfl⟩
  have uW : Hid (Up w W) := by rw [hW]; exact (Up.refl _).alloc _
  have l0 : W.cell? ⟨w.heap.size, 0, none⟩ = some (.slice ae ne ce) := by rw [hW]; go_simp
  have l1 : W.cell? ⟨w.heap.size, 1, none⟩ = some (.slice ab nb cb) := by rw [hW]; go_simp
  have hW' := hW.symm
  clear hW
  go_enter Try.func51, Try.ntmps51
  go_wp2_with (go_at_call 59; refine (sizeI_calls X h _ _ xs s _ (HL.out.chg (Chg.of_up uW.out)) (by omega)).mono ?_; rintro _ w1 ⟨rfl, hu1⟩; replace l0 := hu1.cell l0; replace l1 := hu1.cell l1; have u1 := hide (uW.out.trans hu1); clear hu1)
  refine (writeI_calls X T n tv h _ _ xs s _ (HT.out.up u1.out) hX (fun y hy => Nat.lt_of_lt_of_le (HO.out y hy) u1.out.size) (HL.out.chg (Chg.of_up u1.out)) (by omega) hbig (by omega)).mono ?_
  rintro _ w2 ⟨b, rfl, hnd, htc, hch⟩
  have HN := hide hnd
  have HC := hide htc
  have HG := hide hch
  clear hnd htc hch l0 l1
  have HR := hide (Own.new1 (e := 61) (enc := pE) w2 b)
  unfold pE
  go_wp2
  go_ret
  have hu2 : Up w2 (w2.alloc (.cells #[pE b] 61)) := (Up.refl _).alloc _
  have hcw : Chg (fun y => y = T) w w2 := (Chg.of_up u1.out).trans HG.out (fun _ _ h => h)
  refine ⟨_, [(b, xs)], rfl, HR.out.base hcw.size, fun q hq => ?_, by simp, fun _ => rfl, fun h => absurd h (by omega), HC.out.up hu2, hcw.andUp hu2⟩
  obtain rfl := List.mem_singleton.1 hq
  exact ⟨s, HN.out.chg (Chg.of_up hu2), hs, fun h => h, fun _ => rfl⟩
set_option maxHeartbeats 2000000 in
theorem nodesI_two (X : Nat → Prop) (T n : Nat) (tv : Value) (h : Nat) (ve vb : Value) (xs : List Int) (s : Nat) (w : World) (hT : TrC w T tv n) (hX : X T) (hXo : ∀ y, X y → y < w.heap.size) (hl : Ld (Value.int .i64) X w h ve vb xs s) (hs : 8 < s) (hs2 : s ≤ 16) (hbig : xs.length ≤ 1000000) (hn : n ≤ 100000000) :
    Calls Try.prog 51 #[.pointer (some ⟨T, 0, none⟩), .agg #[ve, vb]] w fun e w' => NodesPostI X T tv n h xs s w e w' := by
  have HT := hide hT
  have HO := hide hXo
  have HL := hide hl
  have hTl : T < w.heap.size := World.block_lt_of_cell? w _ hT.c0
  clear hT hXo hl
  obtain ⟨ae, ne, ce, ab, nb, cb, rfl, rfl, -, -, -, -, -⟩ := HL.out.slices
  have hd : decide ((s : Int) ≤ 8) = false := decide_eq_false (by omega)
  have hd' : ¬ (s : Int) ≤ 8 := by omega
  obtain ⟨W, hW⟩ : ∃ W, W = w.alloc (.cells #[.slice ae ne ce, .slice ab nb cb] 64) := ⟨_, rfl⟩
  have uW : Hid (Up w W) := by rw [hW]; exact (Up.refl _).alloc _
  have l0 : W.cell? ⟨w.heap.size, 0, none⟩ = some (.slice ae ne ce) := by rw [hW]; go_simp
  have l1 : W.cell? ⟨w.heap.size, 1, none⟩ = some (.slice ab nb cb) := by rw [hW]; go_simp
  have hW' := hW.symm
  clear hW
  go_enter Try.func51, Try.ntmps51
  go_wp2_with (go_at_call 59; refine (sizeI_calls X h _ _ xs s _ (HL.out.chg (Chg.of_up uW.out)) (by omega)).mono ?_; rintro _ w1 ⟨rfl, hu1⟩; replace l0 := hu1.cell l0; replace l1 := hu1.cell l1; have u1 := hide (uW.out.trans hu1); clear hu1)
  refine (halvesI_calls X h _ _ xs s _ (fun y hy => Nat.lt_of_lt_of_le (HO.out y hy) u1.out.size) (HL.out.chg (Chg.of_up u1.out)) hbig (by omega)).mono ?_
  rintro _ w2 ⟨v1, q1, v2, q2, ys, zs, rfl, hl1, hl2, hxs, hu2⟩
  have u2 := hide (u1.out.trans hu2)
  obtain ⟨b1, m1, d1, b2, m2, d2, rfl, rfl, -, -, -, -, -⟩ := hl1.slices
  obtain ⟨b3, m3, d3, b4, m4, d4, rfl, rfl, -, -, -, -, -⟩ := hl2.slices
  have HL1 := hide hl1
  have HL2 := hide hl2
  have HX := hide hxs
  clear hl1 hl2 hxs hu2 l0 l1
  have hyl : ys.length ≤ 1000000 := by have := congrArg List.length HX.out; rw [List.length_append] at this; omega
  have hzl : zs.length ≤ 1000000 := by have := congrArg List.length HX.out; rw [List.length_append] at this; omega
  obtain ⟨W2, hW2⟩ : ∃ W2, W2 = (w2.alloc (.cells #[.slice b1 m1 d1, .slice b2 m2 d2] 64)).alloc (.cells #[.slice b3 m3 d3, .slice b4 m4 d4] 64) := ⟨_, rfl⟩
  have uA : Hid (Up w2 W2) := by rw [hW2]; exact ((Up.refl _).alloc _).alloc _
  have r0 : W2.cell? ⟨w2.heap.size, 0, none⟩ = some (.slice b1 m1 d1) := by rw [hW2]; go_simp
  have r1 : W2.cell? ⟨w2.heap.size, 1, none⟩ = some (.slice b2 m2 d2) := by rw [hW2]; go_simp
  have r2 : W2.cell? ⟨w2.heap.size + 1, 0, none⟩ = some (.slice b3 m3 d3) := by rw [hW2]; go_simp
  have r3 : W2.cell? ⟨w2.heap.size + 1, 1, none⟩ = some (.slice b4 m4 d4) := by rw [hW2]; go_simp
  have hW2' := hW2.symm
  clear hW2
  go_wp2_with fail
  clear hW2'
  have hT2 : T < w2.heap.size := Nat.lt_of_lt_of_le hTl u2.out.size
  have HK : Hid (∀ w', Chg (fun y => y = T) W2 w' → Chg (fun y => y = T) W2 w' ∧ w'.cell? ⟨w2.heap.size, 0, none⟩ = some (.slice b1 m1 d1) ∧ w'.cell? ⟨w2.heap.size, 1, none⟩ = some (.slice b2 m2 d2) ∧ w'.cell? ⟨w2.heap.size + 1, 0, none⟩ = some (.slice b3 m3 d3) ∧ w'.cell? ⟨w2.heap.size + 1, 1, none⟩ = some (.slice b4 m4 d4)) :=
    fun w' h => ⟨h, h.cell r0 (by simp; omega), h.cell r1 (by simp; omega), h.cell r2 (by simp; omega), h.cell r3 (by simp; omega)⟩
  have hc0 : Chg (fun y => y = T) W2 W2 := Chg.refl _ _
  have hT0 : Hid (TrC W2 T tv n) := HT.out.up (u2.out.trans uA.out)
  have HO2 : Hid (∀ w', Chg (fun y => y = T) W2 w' → ∀ y, X y → y < w'.heap.size) := fun w' h y hy => Nat.lt_of_lt_of_le (HO.out y hy) (Nat.le_trans (u2.out.trans uA.out).size h.size)
  have HX2 : Hid (∀ w', Chg (fun y => y = T) W2 w' → Chg X w2 w') := fun w' h => (Chg.of_up uA.out).trans h (fun y _ e => by rw [show y = T from e]; exact hX)
  clear r0 r1 r2 r3
  have tok1 : True := trivial
  have tok2 : True := trivial
  go_region_held3 (fun w' => Chg (fun y => y = T) W2 w' ∧ w'.cell? ⟨w2.heap.size, 0, none⟩ = some (.slice b1 m1 d1) ∧ w'.cell? ⟨w2.heap.size, 1, none⟩ = some (.slice b2 m2 d2) ∧ w'.cell? ⟨w2.heap.size + 1, 0, none⟩ = some (.slice b3 m3 d3) ∧ w'.cell? ⟨w2.heap.size + 1, 1, none⟩ = some (.slice b4 m4 d4)) (exact HK.out _ (by repeat' (with_reducible first | assumption | apply Chg.alloc | apply Chg.drew)))
    (first
      | (clear tok1; go_at_call 62; refine (writeI_calls X T n tv h _ _ ys (s / 2) _ (hT0.out.up (by repeat' (with_reducible first | assumption | exact Up.refl _ | apply Up.alloc | apply Up.drew))) hX (HO2.out _ (by repeat' (with_reducible first | assumption | apply Chg.alloc | apply Chg.drew))) (HL1.out.chg (HX2.out _ (by repeat' (with_reducible first | assumption | apply Chg.alloc | apply Chg.drew)))) (by omega) hyl (by omega)).mono ?_; rintro _ w5 ⟨k5, rfl, hn5, ht5, hc5⟩; have hk5 : Chg (fun y => y = T) W2 w5 := Chg.trans (by repeat' (with_reducible first | assumption | apply Chg.alloc | apply Chg.drew)) hc5 (fun _ _ h => h); replace hn5 := hide hn5; replace ht5 := hide ht5; clear hc5; unfold pE)
      | (clear tok2; go_at_call 62; refine (writeI_calls X T (n + 1) tv h _ _ zs (s - s / 2) _ (ht5.out.up (by repeat' (with_reducible first | assumption | exact Up.refl _ | apply Up.alloc | apply Up.drew))) hX (HO2.out _ (by repeat' (with_reducible first | assumption | apply Chg.alloc | apply Chg.drew))) (HL2.out.chg (HX2.out _ (by repeat' (with_reducible first | assumption | apply Chg.alloc | apply Chg.drew)))) (by omega) hzl (by omega)).mono ?_; rintro _ w6 ⟨k6, rfl, hn6, ht6, hc6⟩; have hk6 : Chg (fun y => y = T) W2 w6 := Chg.trans (by repeat' (with_reducible first | assumption | apply Chg.alloc | apply Chg.drew)) hc6 (fun _ _ h => h); have hj6 : Chg (fun y => y = T) w5 w6 := Chg.trans (Chg.of_up (C := fun y => y = T) (by repeat' (with_reducible first | assumption | exact Up.refl _ | apply Up.alloc | apply Up.drew))) hc6 (fun _ _ h => h); replace hn6 := hide hn6; replace ht6 := hide ht6; clear hc6; unfold pE))
  have HR := hide (Own.new2 (e := 61) (enc := pE) w6 k5 k6)
  have HK6 := hide hk6
  have HJ6 := hide hj6
  have HU := hide ((Up.refl w6).alloc (.cells #[pE k5, pE k6] 61))
  clear hk5 hk6 hj6 hc0
  go_wp2
  go_ret
  have hcw : Chg (fun y => y = T) w w6 := (Chg.of_up (u2.out.trans uA.out)).trans HK6.out (fun _ _ h => h)
  have hXT : ∀ y, y = T → X y := fun y e => by rw [e]; exact hX
  refine ⟨_, [(k5, ys), (k6, zs)], rfl, HR.out.base hcw.size, fun q hq => ?_, by simp [HX.out], fun h => absurd h (by omega), fun _ => rfl, ht6.out.up HU.out, hcw.andUp HU.out⟩
  rcases List.mem_cons.1 hq with rfl | hq
  · exact ⟨s / 2, (hn5.out.chg (HJ6.out.mono (fun y _ e => hXT y e))).chg (Chg.of_up HU.out), by omega, fun _ => by omega, fun h => absurd h (by omega)⟩
  · obtain rfl := List.mem_singleton.1 hq
    exact ⟨s - s / 2, hn6.out.chg (Chg.of_up HU.out), by omega, fun _ => by omega, fun h => absurd h (by omega)⟩
theorem nodesI_calls (X : Nat → Prop) (T n : Nat) (tv : Value) (h : Nat) (ve vb : Value) (xs : List Int) (s : Nat) (w : World) (hT : TrC w T tv n) (hX : X T) (hXo : ∀ y, X y → y < w.heap.size) (hl : Ld (Value.int .i64) X w h ve vb xs s) (hs : s ≤ 16) (hbig : xs.length ≤ 1000000) (hn : n ≤ 100000000) :
    Calls Try.prog 51 #[.pointer (some ⟨T, 0, none⟩), .agg #[ve, vb]] w fun e w' => NodesPostI X T tv n h xs s w e w' := by
  by_cases h8 : s ≤ 8
  · exact nodesI_one X T n tv h ve vb xs s w hT hX hXo hl h8 hbig hn
  · exact nodesI_two X T n tv h ve vb xs s w hT hX hXo hl (by omega) hs hbig hn
end Go.Proofs.Ytcaccbjolgjmkaa
