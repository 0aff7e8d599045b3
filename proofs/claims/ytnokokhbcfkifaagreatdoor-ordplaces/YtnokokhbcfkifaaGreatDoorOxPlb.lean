/-
  OrdPlaces: the index, what All told, and the two rows that grow beside it.
-/
import Derived.Test.YtnokokhbcfkifaaGreatDoorOxGro
namespace Go.Proofs.YtnokokhbcfkifaaGreatDoor
open Go.ChangeShapes Go.WideShapes Go.ChangeAt Go.RowKit
set_option linter.unusedVariables false
set_option maxRecDepth 100000

structure PlB (mb mx nx X T B : Nat) (w : World) (va : Value) (L5 L : List EP) (A : List Int) (G H : List EP) (atv gov : Value) (N : Nat) (wr : World) : Prop where
  ix : ∃ (Y : Nat → Prop) (hh n : Nat), IxW Y (some ⟨mb, 0, none⟩) 2 mx nx X T false L hh n 0 0 0 0 wr ∧ n ≤ N ∧ (∀ y, Y y → w.heap.size ≤ y) ∧ (∀ g, atv.ownBlock = some g → Y g) ∧ (∀ g, gov.ownBlock = some g → Y g) ∧ (∀ p ∈ H, KeyC (XT T Y) wr p.1.a p.1.n p.1.c p.2) ∧ (∀ p ∈ L5, KeyC (XT T Y) wr p.1.a p.1.n p.1.c p.2) ∧ RdV eC (XT T Y) wr va (L5.map (·.1))
  at_ : Own 3 (Value.int .i64) wr B atv A
  go : OwnV 51 eC wr B gov (G.map (·.1))
  up : Up w wr
  far : mb < B ∧ mx < B ∧ nx < B ∧ 0 < B ∧ w.heap.size ≤ B ∧ B ≤ wr.heap.size ∧ w.heap.size ≤ T ∧ T < B
variable {mb mx nx X T B : Nat} {w wr wy : World} {va : Value} {L5 L : List EP} {A : List Int} {G H : List EP} {atv gov : Value} {N : Nat}
theorem PlB.upw (h : PlB mb mx nx X T B w va L5 L A G H atv gov N wr) (hu : Up wr wy) : PlB mb mx nx X T B w va L5 L A G H atv gov N wy := by
  obtain ⟨Y, hh, n, h1, h2, h3, h4, h5, h6, h7, h8⟩ := h.ix
  obtain ⟨f1, f2, f3, f4, f5, f6, f7⟩ := h.far
  exact ⟨⟨Y, hh, n, h1.up hu, h2, h3, h4, h5, fun p hp => (h6 p hp).up hu, fun p hp => (h7 p hp).up hu, h8.up hu⟩, h.at_.up hu, h.go.up hu, h.up.trans hu, f1, f2, f3, f4, f5, Nat.le_trans f6 hu.size, f7⟩
theorem own_someI {α : Type} {e : TypeId} {enc : α → Value} {w : World} {base : Nat} {v : Value} {l : List α} (h : Own e enc w base v l) {g : Nat} (hv : v.ownBlock = some g) : ∃ cur, w.heap[g]? = some (.cells cur e (0, 0)) := by
  rcases h.2 with ⟨rfl, _⟩ | ⟨g', cap, cur, rfl, _, h3, _⟩
  · cases hv
  · cases hv; exact ⟨cur, h3⟩
theorem own_someE {α : Type} {e : TypeId} {cs : α → List Value} {w : World} {base : Nat} {v : Value} {l : List α} (h : OwnV e cs w base v l) {g : Nat} (hv : v.ownBlock = some g) : ∃ cur, w.heap[g]? = some (.cells cur e (0, 0)) := by
  rcases h.2 with ⟨rfl, _⟩ | ⟨g', cap, cur, rfl, _, h3, _⟩
  · cases hv
  · cases hv; exact ⟨cur, h3⟩
theorem keyC_new {C D : Nat → Prop} {w w' : World} {a : Option Addr} {n c : Nat} {m : List VT} (h : KeyC C w a n c m) (hc : Chg C w w') (hD : ∀ y, y < w.heap.size → D y → C y) : KeyC D w' a n c m :=
  ⟨(h.chg hc).k, fun g hg e => h.far g hg (hD g (h.lt g hg) e), (h.chg hc).lt, h.cap, h.top⟩
theorem PlB.grow (h : PlB mb mx nx X T B w va L5 L A G H atv gov N wr) {row : Option Nat} (hg : wr.grownBy wy row) (hrow : ∀ g, row = some g → B ≤ g) (hY : ∀ (Y : Nat → Prop), (∀ g, atv.ownBlock = some g → Y g) → (∀ g, gov.ownBlock = some g → Y g) → ∀ g, row = some g → Y g) {A' : List Int} {G' : List EP} {atv' gov' : Value} (ha : Own 3 (Value.int .i64) wy B atv' A') (hgo : OwnV 51 eC wy B gov' (G'.map (·.1))) (hb1 : atv'.ownBlock = atv.ownBlock ∨ atv'.ownBlock = some wr.heap.size) (hb2 : gov'.ownBlock = gov.ownBlock ∨ gov'.ownBlock = some wr.heap.size) : PlB mb mx nx X T B w va L5 L A' G' H atv' gov' N wy := by
  obtain ⟨Y, hh, n, h1, h2, h3, h4, h5, h6, h7, h8⟩ := h.ix
  obtain ⟨f1, f2, f3, f4, f5, f6, f7, f8⟩ := h.far
  have hrY := hY Y h4 h5
  have hc := grown_chgR hg
  have hs := h.up.size
  have hcY : Chg (XT T Y) wr wy := hc.mono (fun y _ e => .inr (hrY y e))
  have hnew : ∀ y, y < wr.heap.size → XT T (fun y => Y y ∨ (wr.heap.size ≤ y ∧ y < wy.heap.size)) y → XT T Y y := fun y hy e => by
    rcases e with e | e | e
    · exact .inl e
    · exact .inr e
    · omega
  refine ⟨⟨_, hh, n, h1.grow hg (fun g e => ⟨hrY g e, fun ⟨p, hp, hm⟩ => by
      cases hp
      have := hrow g e
      have hm' : g = mb := hm
      omega, by have := hrow g e; omega, by have := hrow g e; omega, by have := hrow g e; omega⟩), h2, fun y e => ?_, fun g e => ?_, fun g e => ?_, fun p hp => keyC_new (h6 p hp) hcY hnew, fun p hp => keyC_new (h7 p hp) hcY hnew, (h8.mono (fun y hy e => hnew y hy e)).chg (hc.mono (fun y _ e => .inr (.inl (hrY y e))))⟩, ha, hgo, ((Chg.of_up (C := fun y => row = some y) h.up).trans hc (fun _ _ h => h)).up (fun x hx e => by have := hrow x e; omega), f1, f2, f3, f4, f5, Nat.le_trans f6 hg.size, f7, f8⟩
  · rcases e with e | e
    · exact h3 y e
    · omega
  · rcases hb1 with e1 | e1
    · exact .inl (h4 g (by rw [← e1]; exact e))
    · rw [e1] at e
      cases e
      exact .inr ⟨Nat.le_refl _, (ha.lt _ e1).2⟩
  · rcases hb2 with e1 | e1
    · exact .inl (h5 g (by rw [← e1]; exact e))
    · rw [e1] at e
      cases e
      exact .inr ⟨Nat.le_refl _, (hgo.lt _ e1).2⟩
theorem PlB.at_grow (h : PlB mb mx nx X T B w va L5 L A G H atv gov N wr) {v' : Value} {A' : List Int} (ho : Own 3 (Value.int .i64) wy B v' A') (hg : wr.grownBy wy atv.ownBlock) (hb : v'.ownBlock = atv.ownBlock ∨ v'.ownBlock = some wr.heap.size) : PlB mb mx nx X T B w va L5 L A' G H v' gov N wy :=
  h.grow hg (fun g e => (h.at_.lt g e).1) (fun Y y1 y2 g e => y1 g e) ho (h.go.chg (grown_chgR hg) (fun g e1 e2 => by
    obtain ⟨c1, q1⟩ := own_someE h.go e1
    obtain ⟨c2, q2⟩ := own_someI h.at_ e2
    rw [q1] at q2
    cases q2)) hb (.inl rfl)
theorem PlB.go_grow (h : PlB mb mx nx X T B w va L5 L A G H atv gov N wr) {v' : Value} {G' : List EP} (ho : OwnV 51 eC wy B v' (G'.map (·.1))) (hg : wr.grownBy wy gov.ownBlock) (hb : v'.ownBlock = gov.ownBlock ∨ v'.ownBlock = some wr.heap.size) : PlB mb mx nx X T B w va L5 L A G' H atv v' N wy :=
  h.grow hg (fun g e => (h.go.lt g e).1) (fun Y y1 y2 g e => y2 g e) (h.at_.chg (grown_chgR hg) (fun g e1 e2 => by
    obtain ⟨c1, q1⟩ := own_someI h.at_ e1
    obtain ⟨c2, q2⟩ := own_someE h.go e2
    rw [q1] at q2
    cases q2)) ho (.inl rfl) hb
/-- The tree turned. -/
theorem PlB.turn {L' : List EP} {H' : List EP} (h : PlB mb mx nx X T B w va L5 L A G H atv gov N wr) (hc : Chg (fun y => y = T) wr wy) (hix : ∀ (Y : Nat → Prop) (hh n : Nat), IxW Y (some ⟨mb, 0, none⟩) 2 mx nx X T false L hh n 0 0 0 0 wr → n ≤ N → ∃ hh' n', IxW Y (some ⟨mb, 0, none⟩) 2 mx nx X T false L' hh' n' 0 0 0 0 wy ∧ n' ≤ n + 19) (hH : ∀ p ∈ H', p ∈ H ∨ p ∈ L) : PlB mb mx nx X T B w va L5 L' A G H' atv gov (N + 19) wy := by
  obtain ⟨Y, hh, n, h1, h2, h3, h4, h5, h6, h7, h8⟩ := h.ix
  obtain ⟨f1, f2, f3, f4, f5, f6, f7, f8⟩ := h.far
  obtain ⟨hh', n', q1, q2⟩ := hix Y hh n h1 h2
  have hcY : Chg (XT T Y) wr wy := hc.mono (fun y _ e => .inl e)
  exact ⟨⟨Y, hh', n', q1, by omega, h3, h4, h5, fun p hp => (hH p hp).elim (fun e => (h6 p e).chg hcY) (fun e => (h1.ke p e).chg hcY), fun p hp => (h7 p hp).chg hcY, h8.chg hcY⟩, h.at_.chg hc (fun g e e' => by have := (h.at_.lt g e).1; have e'' : g = T := e'; omega), h.go.chg hc (fun g e e' => by have := (h.go.lt g e).1; have e'' : g = T := e'; omega), ((Chg.of_up (C := fun y => y = T) h.up).trans hc (fun _ _ h => h)).up (fun x hx e => by have e'' : x = T := e; omega), f1, f2, f3, f4, f5, Nat.le_trans f6 hc.size, f7, f8⟩
end Go.Proofs.YtnokokhbcfkifaaGreatDoor
