/-
  A store of rows as it lies in memory (Sto): its cells, its slots, its map, its free slots; what stays when other memory turns. No function of the program is walked here.
-/
import Derived.Test.YtaodekbpjkcpeaaRowFre
import Derived.Test.YtaodekbpjkcpeaaRowMap
import Derived.Test.YtaodekbpjkcpeaaSchClone
namespace Go.Proofs.Ytaodekbpjkcpeaa
open Go.ChangeShapes Go.WideShapes Go.ChangeAt Go.RowKit
set_option linter.unusedVariables false

/-- A version and values. -/
abbrev RD := Int × List VT
def Small (m : List VT) : Prop := m.length ≤ 12 ∧ ∀ i, (m.getD i zeroT).2.2.1.size ≤ 200
theorem small_nil : Small [] := ⟨by simp, fun i => by simp [zeroT]⟩

theorem At.chg {C : Nat → Prop} {w w' : World} {b off : Nat} {v : VT} (h : At w b off v) (hc : Chg C w w') (hb : ¬ C b) : At w' b off v :=
  ⟨hc.cell h.1 hb, hc.cell h.2.1 hb, hc.cell h.2.2.1 hb, hc.cell h.2.2.2 hb⟩
/-- A row of values whose block is one of O. -/
def ValsO (O : Nat → Prop) (w : World) (a : Option Addr) (n : Nat) (m : List VT) : Prop := Vals w a n m ∧ (n = 0 ∨ ∃ g o, a = some ⟨g, o, none⟩ ∧ O g)
theorem ValsO.chg {O C : Nat → Prop} {w w' : World} {a : Option Addr} {n : Nat} {m : List VT} (h : ValsO O w a n m) (hc : Chg C w w') (hC : ∀ x, O x → ¬ C x) : ValsO O w' a n m := by
  obtain ⟨⟨h1, h2, h3⟩, h4⟩ := h
  refine ⟨⟨h1, h2, ?_⟩, h4⟩
  rcases h3 with h3 | ⟨b, off, rfl, hx⟩
  · exact .inl h3
  · rcases h4 with h4 | ⟨g, o, e, hg⟩
    · exact .inl h4
    · cases e
      exact .inr ⟨b, off, rfl, fun i hi => (hx i hi).chg hc (hC b hg)⟩
theorem ValsO.mono {O O' : Nat → Prop} {w : World} {a : Option Addr} {n : Nat} {m : List VT} (h : ValsO O w a n m) (hO : ∀ x, O x → O' x) : ValsO O' w a n m :=
  ⟨h.1, h.2.imp id (fun ⟨g, o, e, hg⟩ => ⟨g, o, e, hO g hg⟩)⟩

/-- A row at its slot. -/
structure RowIn (O : Nat → Prop) (w : World) (S i : Nat) (x ver : Int) (m : List VT) : Prop where
  id : w.cell? ⟨S, i * 3, none⟩ = some (.int .i64 x)
  ver : w.cell? ⟨S, i * 3 + 1, none⟩ = some (.int .i64 ver)
  vals : ∃ a n c, w.cell? ⟨S, i * 3 + 2, none⟩ = some (.slice a n c) ∧ ValsO O w a n m

theorem RowIn.chg {V C : Nat → Prop} {w w' : World} {S i : Nat} {x ver : Int} {m : List VT} (h : RowIn V w S i x ver m) (hc : Chg C w w') (hS : ¬ C S) (hV : ∀ y, V y → ¬ C y) : RowIn V w' S i x ver m := by
  obtain ⟨h1, h2, a, n, c, h3, h4⟩ := h
  exact ⟨hc.cell h1 hS, hc.cell h2 hS, a, n, c, hc.cell h3 hS, h4.chg hc hV⟩
theorem RowIn.mono {V V' : Nat → Prop} {w : World} {S i : Nat} {x ver : Int} {m : List VT} (h : RowIn V w S i x ver m) (hV : ∀ y, V y → V' y) : RowIn V' w S i x ver m := by
  obtain ⟨h1, h2, a, n, c, h3, h4⟩ := h
  exact ⟨h1, h2, a, n, c, h3, h4.mono hV⟩
theorem chg_s3 (w : World) (b o : Nat) (v0 v1 v2 : Value) : Chg (fun y => y = b) w (set3 w b o v0 v1 v2) := chg_set3 (Chg.refl _ w) rfl
theorem RowIn.other {V : Nat → Prop} {w : World} {S i j : Nat} {x ver : Int} {m : List VT} {v0 v1 v2 : Value} (h : RowIn V w S i x ver m) (hij : i ≠ j) (hV : ∀ y, V y → ¬ y = S) : RowIn V (set3 w S (j * 3) v0 v1 v2) S i x ver m := by
  obtain ⟨h1, h2, a, n, c, h3, h4⟩ := h
  refine ⟨?_, ?_, a, n, c, ?_, h4.chg (chg_s3 w S (j * 3) v0 v1 v2) hV⟩
  · rw [cell_set3_other (by simp only; omega)]; exact h1
  · rw [cell_set3_other (by simp only; omega)]; exact h2
  · rw [cell_set3_other (by simp only; omega)]; exact h3
theorem set3_cells {w : World} {b o : Nat} {v0 v1 v2 u0 u1 u2 : Value} (h0 : w.cell? ⟨b, o, none⟩ = some u0) (h1 : w.cell? ⟨b, o + 1, none⟩ = some u1) (h2 : w.cell? ⟨b, o + 2, none⟩ = some u2) :
    (set3 w b o v0 v1 v2).cell? ⟨b, o, none⟩ = some v0 ∧ (set3 w b o v0 v1 v2).cell? ⟨b, o + 1, none⟩ = some v1 ∧ (set3 w b o v0 v1 v2).cell? ⟨b, o + 2, none⟩ = some v2 := by
  unfold set3
  refine ⟨?_, ?_, ?_⟩
  · rw [World.cell?_setCell_other _ _ _ _ (addr_ne (by omega)), World.cell?_setCell_other _ _ _ _ (addr_ne (by omega))]
    exact World.cell?_setCell_same _ _ _ h0
  · rw [World.cell?_setCell_other _ _ _ _ (addr_ne (by omega))]
    exact World.cell?_setCell_same _ _ _ ((World.cell?_setCell_other _ _ _ _ (addr_ne (by omega))).trans h1)
  · exact World.cell?_setCell_same _ _ _ ((World.cell?_setCell_other _ _ _ _ (addr_ne (by omega))).trans ((World.cell?_setCell_other _ _ _ _ (addr_ne (by omega))).trans h2))

/-- The blocks that a store's calls write. -/
def core (p S M b : Nat) : Nat → Prop := fun x => x = p ∨ x = S ∨ x = M ∨ x = b
/-- A store's memory but for its rows: S its slots, M its map, b its free slots' array; f: where each number lies; xs: the free slots; V: the blocks of its rows. -/
structure StoC (V : Nat → Prop) (p S M b : Nat) (w : World) (n : Nat) (next wr : Int) (cnt : Nat) (f : Int → Option Nat) (xs : List Int) : Prop where
  free : StF (fun o => w.cell? ⟨p, o, none⟩) p b w xs
  c0 : w.cell? ⟨p, 0, none⟩ = some (.slice (some ⟨S, 0, none⟩) n n)
  c1 : w.cell? ⟨p, 1, none⟩ = some (.map (some M))
  c3 : w.cell? ⟨p, 3, none⟩ = some (.int .i64 next)
  c4 : w.cell? ⟨p, 4, none⟩ = some (.int .i64 wr)
  fs : ∀ o, w.frozen? ⟨S, o, none⟩ = false
  room : ∀ o, o < n * 3 → ∃ v, w.cell? ⟨S, o, none⟩ = some v
  map : MapAt w M f cnt
  lt : ∀ x, V x ∨ core p S M b x → x < w.heap.size
  apart : ∀ x, V x → ¬ core p S M b x
  pS : ¬ p = S
  pM : ¬ p = M
  SM : ¬ S = M
  bS : ¬ b = S
  bM : ¬ b = M
theorem StoC.p_lt {V : Nat → Prop} {p S M b : Nat} {w : World} {n : Nat} {next wr : Int} {cnt : Nat} {f : Int → Option Nat} {xs : List Int} (h : StoC V p S M b w n next wr cnt f xs) : p < w.heap.size := h.lt p (.inr (.inl rfl))
theorem StoC.S_lt {V : Nat → Prop} {p S M b : Nat} {w : World} {n : Nat} {next wr : Int} {cnt : Nat} {f : Int → Option Nat} {xs : List Int} (h : StoC V p S M b w n next wr cnt f xs) : S < w.heap.size := h.lt S (.inr (.inr (.inl rfl)))
theorem StF.cells {cp : Nat → Option Value} {p b : Nat} {w : World} {xs : List Int} (h : StF cp p b w xs) : StF (fun o => w.cell? ⟨p, o, none⟩) p b w xs := ⟨h.cell, fun _ _ => rfl, h.frozen, h.small⟩
/-- Other memory turns. -/
theorem StoC.chg {V C : Nat → Prop} {p S M b : Nat} {w w' : World} {n : Nat} {next wr : Int} {cnt : Nat} {f : Int → Option Nat} {xs : List Int} (h : StoC V p S M b w n next wr cnt f xs) (hc : Chg C w w') (hC : ∀ x, core p S M b x → ¬ C x) : StoC V p S M b w' n next wr cnt f xs := by
  have hp := hC p (.inl rfl)
  have hS := hC S (.inr (.inl rfl))
  have hM := hC M (.inr (.inr (.inl rfl)))
  have hb := hC b (.inr (.inr (.inr rfl)))
  exact ⟨(h.free.chg hc hp hb).cells, hc.cell h.c0 hp, hc.cell h.c1 hp, hc.cell h.c3 hp, hc.cell h.c4 hp, fun o => (hc.frozen (p := ⟨S, o, none⟩) h.S_lt hS).trans (h.fs o), fun o ho => by obtain ⟨v, hv⟩ := h.room o ho; exact ⟨v, hc.cell hv hS⟩,
    h.map.chg hc hM, fun x hx => Nat.lt_of_lt_of_le (h.lt x hx) hc.size, h.apart, h.pS, h.pM, h.SM, h.bS, h.bM⟩
/-- The free slots turn; the store's other cells stay. -/
theorem StoC.refree {V : Nat → Prop} {p S M b b' : Nat} {w w' : World} {n : Nat} {next wr : Int} {cnt : Nat} {f : Int → Option Nat} {xs xs' : List Int} (h : StoC V p S M b w n next wr cnt f xs) (hf : StF (fun o => w.cell? ⟨p, o, none⟩) p b' w' xs') (hc : Chg (PB p b) w w') (hb : b' = b ∨ w.heap.size ≤ b' ∧ 0 < xs'.length) : StoC V p S M b' w' n next wr cnt f xs' := by
  have hS : ¬ PB p b S := fun e => e.elim (fun e => h.pS e.symm) (fun e => h.bS e.symm)
  have hM : ¬ PB p b M := fun e => e.elim (fun e => h.pM e.symm) (fun e => h.bM e.symm)
  have hMl := h.map.lt
  have hSl := h.S_lt
  have hbl : b' < w'.heap.size := by
    rcases hb with rfl | hb
    · exact Nat.lt_of_lt_of_le (h.lt b' (.inr (.inr (.inr (.inr rfl))))) hc.size
    · obtain ⟨cap, _, _, _, _, hl, _⟩ := hf.form hb.2
      exact hl
  refine ⟨hf.cells, (hf.rest 0 (by decide)).trans h.c0, (hf.rest 1 (by decide)).trans h.c1, (hf.rest 3 (by decide)).trans h.c3, (hf.rest 4 (by decide)).trans h.c4, fun o => (hc.frozen (p := ⟨S, o, none⟩) h.S_lt hS).trans (h.fs o), fun o ho => by obtain ⟨v, hv⟩ := h.room o ho; exact ⟨v, hc.cell hv hS⟩,
    h.map.chg hc hM, fun x hx => ?_, fun x hx hn => ?_, h.pS, h.pM, h.SM, ?_, ?_⟩
  · rcases hx with hx | rfl | rfl | rfl | rfl
    · exact Nat.lt_of_lt_of_le (h.lt x (.inl hx)) hc.size
    · exact Nat.lt_of_lt_of_le h.p_lt hc.size
    · exact Nat.lt_of_lt_of_le h.S_lt hc.size
    · exact Nat.lt_of_lt_of_le hMl hc.size
    · exact hbl
  · have h1 := h.lt x (.inl hx)
    have h2 := h.apart x hx
    rcases hn with rfl | rfl | rfl | rfl
    · exact h2 (.inl rfl)
    · exact h2 (.inr (.inl rfl))
    · exact h2 (.inr (.inr (.inl rfl)))
    · rcases hb with rfl | hb
      · exact h2 (.inr (.inr (.inr rfl)))
      · omega
  · rcases hb with rfl | hb
    · exact h.bS
    · omega
  · rcases hb with rfl | hb
    · exact h.bM
    · omega
/-- The map turns. -/
theorem StoC.remap {V : Nat → Prop} {p S M b : Nat} {w w' : World} {n : Nat} {next wr : Int} {cnt cnt' : Nat} {f f' : Int → Option Nat} {xs : List Int} (h : StoC V p S M b w n next wr cnt f xs) (hm : MapAt w' M f' cnt') (hc : Chg (fun y => y = M) w w') : StoC V p S M b w' n next wr cnt' f' xs := by
  have hp : ¬ p = M := h.pM
  have hS : ¬ S = M := h.SM
  have hb : ¬ b = M := h.bM
  exact ⟨(h.free.chg hc hp hb).cells, hc.cell h.c0 hp, hc.cell h.c1 hp, hc.cell h.c3 hp, hc.cell h.c4 hp, fun o => (hc.frozen (p := ⟨S, o, none⟩) h.S_lt hS).trans (h.fs o), fun o ho => by obtain ⟨v, hv⟩ := h.room o ho; exact ⟨v, hc.cell hv hS⟩,
    hm, fun x hx => Nat.lt_of_lt_of_le (h.lt x hx) hc.size, h.apart, h.pS, h.pM, h.SM, h.bS, h.bM⟩
/-- A slot is written. -/
theorem StoC.slot {V : Nat → Prop} {p S M b : Nat} {w : World} {n : Nat} {next wr : Int} {cnt : Nat} {f : Int → Option Nat} {xs : List Int} (h : StoC V p S M b w n next wr cnt f xs) {i : Nat} (hi : i < n) (v0 v1 v2 : Value) : StoC V p S M b (set3 w S (i * 3) v0 v1 v2) n next wr cnt f xs := by
  have hc := chg_s3 w S (i * 3) v0 v1 v2
  have hp : ¬ p = S := h.pS
  have hM : ¬ M = S := fun e => h.SM e.symm
  have hb : ¬ b = S := h.bS
  refine ⟨(h.free.chg hc hp hb).cells, hc.cell h.c0 hp, hc.cell h.c1 hp, hc.cell h.c3 hp, hc.cell h.c4 hp, fun o => by rw [frozen_set3]; exact h.fs o, fun o ho => ?_, h.map.chg hc hM, fun x hx => Nat.lt_of_lt_of_le (h.lt x hx) hc.size, h.apart, h.pS, h.pM, h.SM, h.bS, h.bM⟩
  obtain ⟨u0, h0⟩ := h.room (i * 3) (by omega)
  obtain ⟨u1, h1⟩ := h.room (i * 3 + 1) (by omega)
  obtain ⟨u2, h2⟩ := h.room (i * 3 + 2) (by omega)
  obtain ⟨g0, g1, g2⟩ := set3_cells (v0 := v0) (v1 := v1) (v2 := v2) h0 h1 h2
  by_cases e0 : o = i * 3
  · subst e0; exact ⟨_, g0⟩
  · by_cases e1 : o = i * 3 + 1
    · subst e1; exact ⟨_, g1⟩
    · by_cases e2 : o = i * 3 + 2
      · subst e2; exact ⟨_, g2⟩
      · obtain ⟨v, hv⟩ := h.room o ho
        exact ⟨v, by rw [cell_set3_other (by simp only; omega)]; exact hv⟩
theorem StF.setp {cp : Nat → Option Value} {p b : Nat} {w : World} {xs : List Int} (h : StF cp p b w xs) {o : Nat} (ho : o ≠ 2) (v : Value) : StF (fun q => (w.setCell ⟨p, o, none⟩ v).cell? ⟨p, q, none⟩) p b (w.setCell ⟨p, o, none⟩ v) xs := by
  obtain ⟨u, hc, hown, hg⟩ := h.cell
  have hch : Chg (fun y => y = p) w (w.setCell ⟨p, o, none⟩ v) := (Chg.refl _ w).set (C := fun y => y = p) (p := ⟨p, o, none⟩) (fun _ => rfl) _
  exact ⟨⟨u, by rw [World.cell?_setCell_other _ _ _ _ (addr_ne ho)]; exact hc, OwnG.chg hown hch (fun y hy (e : y = p) => by omega), hg⟩, fun _ _ => rfl, fun q => by rw [World.frozen?_setCell]; exact h.frozen q, h.small⟩
/-- What was written is counted. -/
theorem StoC.count {V : Nat → Prop} {p S M b : Nat} {w : World} {n : Nat} {next wr : Int} {cnt : Nat} {f : Int → Option Nat} {xs : List Int} (h : StoC V p S M b w n next wr cnt f xs) (wr' : Int) : StoC V p S M b (w.setCell ⟨p, 4, none⟩ (.int .i64 wr')) n next wr' cnt f xs := by
  have hc : Chg (fun y => y = p) w (w.setCell ⟨p, 4, none⟩ (.int .i64 wr')) := (Chg.refl _ w).set (C := fun y => y = p) (p := ⟨p, 4, none⟩) (fun _ => rfl) _
  have hS : ¬ S = p := fun e => h.pS e.symm
  have hM : ¬ M = p := fun e => h.pM e.symm
  have ho : ∀ o, o ≠ 4 → (w.setCell ⟨p, 4, none⟩ (.int .i64 wr')).cell? ⟨p, o, none⟩ = w.cell? ⟨p, o, none⟩ := fun o hn => World.cell?_setCell_other _ _ _ _ (addr_ne (fun e => hn e.symm))
  exact ⟨h.free.setp (by decide) _, (ho 0 (by decide)).trans h.c0, (ho 1 (by decide)).trans h.c1, (ho 3 (by decide)).trans h.c3, World.cell?_setCell_same _ _ _ h.c4, fun o => (hc.frozen (p := ⟨S, o, none⟩) h.S_lt hS).trans (h.fs o), fun o ho => by obtain ⟨v, hv⟩ := h.room o ho; exact ⟨v, hc.cell hv hS⟩,
    h.map.chg hc hM, fun x hx => Nat.lt_of_lt_of_le (h.lt x hx) hc.size, h.apart, h.pS, h.pM, h.SM, h.bS, h.bM⟩
/-- The next number is another. -/
theorem StoC.renext {V : Nat → Prop} {p S M b : Nat} {w : World} {n : Nat} {next wr : Int} {cnt : Nat} {f : Int → Option Nat} {xs : List Int} (h : StoC V p S M b w n next wr cnt f xs) (nx' : Int) : StoC V p S M b (w.setCell ⟨p, 3, none⟩ (.int .i64 nx')) n nx' wr cnt f xs := by
  have hc : Chg (fun y => y = p) w (w.setCell ⟨p, 3, none⟩ (.int .i64 nx')) := (Chg.refl _ w).set (C := fun y => y = p) (p := ⟨p, 3, none⟩) (fun _ => rfl) _
  have hS : ¬ S = p := fun e => h.pS e.symm
  have hM : ¬ M = p := fun e => h.pM e.symm
  have ho : ∀ o, o ≠ 3 → (w.setCell ⟨p, 3, none⟩ (.int .i64 nx')).cell? ⟨p, o, none⟩ = w.cell? ⟨p, o, none⟩ := fun o hn => World.cell?_setCell_other _ _ _ _ (addr_ne (fun e => hn e.symm))
  exact ⟨h.free.setp (by decide) _, (ho 0 (by decide)).trans h.c0, (ho 1 (by decide)).trans h.c1, World.cell?_setCell_same _ _ _ h.c3, (ho 4 (by decide)).trans h.c4, fun o => (hc.frozen (p := ⟨S, o, none⟩) h.S_lt hS).trans (h.fs o), fun o ho => by obtain ⟨v, hv⟩ := h.room o ho; exact ⟨v, hc.cell hv hS⟩,
    h.map.chg hc hM, fun x hx => Nat.lt_of_lt_of_le (h.lt x hx) hc.size, h.apart, h.pS, h.pM, h.SM, h.bS, h.bM⟩
/-- New blocks are taken for rows. -/
theorem StoC.grow {V : Nat → Prop} {p S M b : Nat} {w : World} {n : Nat} {next wr : Int} {cnt : Nat} {f : Int → Option Nat} {xs : List Int} (h : StoC V p S M b w n next wr cnt f xs) {V' : Nat → Prop} (hV : ∀ x, V' x → V x ∨ (x < w.heap.size ∧ ¬ core p S M b x)) : StoC V' p S M b w n next wr cnt f xs :=
  ⟨h.free, h.c0, h.c1, h.c3, h.c4, h.fs, h.room, h.map, fun x hx => by rcases hx with hx | hx; rcases hV x hx with h1 | h1; exact h.lt x (.inl h1); exact h1.1; exact h.lt x (.inr hx), fun x hx => by rcases hV x hx with h1 | h1; exact h.apart x h1; exact h1.2, h.pS, h.pM, h.SM, h.bS, h.bM⟩

/-- The rows at their slots. -/
def StoR (V : Nat → Prop) (w : World) (S : Nat) (f : Int → Option Nat) (R : Int → Option RD) : Prop := ∀ x s, f x = some s → ∃ d, R x = some d ∧ Small d.2 ∧ RowIn V w S s x d.1 d.2
theorem StoR.chg {V C : Nat → Prop} {w w' : World} {S : Nat} {f : Int → Option Nat} {R : Int → Option RD} (h : StoR V w S f R) (hc : Chg C w w') (hS : ¬ C S) (hV : ∀ y, V y → ¬ C y) : StoR V w' S f R :=
  fun x s hx => by obtain ⟨d, h1, h2, h3⟩ := h x s hx; exact ⟨d, h1, h2, h3.chg hc hS hV⟩
theorem StoR.mono {V V' : Nat → Prop} {w : World} {S : Nat} {f : Int → Option Nat} {R : Int → Option RD} (h : StoR V w S f R) (hV : ∀ y, V y → V' y) : StoR V' w S f R :=
  fun x s hx => by obtain ⟨d, h1, h2, h3⟩ := h x s hx; exact ⟨d, h1, h2, h3.mono hV⟩
/-- What holds of the numbers. -/
structure StoP (n : Nat) (next : Int) (R : Int → Option RD) (cnt : Nat) (f : Int → Option Nat) (xs : List Int) : Prop where
  many : cnt + xs.length = n
  most : n ≤ 200
  nodup : xs.Nodup
  inn : ∀ s ∈ xs, 0 ≤ s ∧ s < n
  non : ∀ x, f x = none ↔ R x = none
  slots : ∀ x s, f x = some s → s < n ∧ (s : Int) ∉ xs
  inj : ∀ x y s, f x = some s → f y = some s → x = y
  ids : ∀ x d, R x = some d → 1 ≤ x ∧ x < next
  nx : 1 ≤ next ∧ next ≤ 4611686018428387904
/-- A store: its block, the blocks that it has, how many rows it may have, its next number, what is above all numbers, what was written, its rows, how many. -/
def StoL (p : Nat) (O : Nat → Prop) (w : World) (n : Nat) (next lim wr : Int) (R : Int → Option RD) (cnt : Nat) : Prop :=
  (∀ x, O x → x < w.heap.size) ∧ ∃ V S M b f xs, StoC V p S M b w n next wr cnt f xs ∧ StoR V w S f R ∧ StoP n lim R cnt f xs ∧ ∀ x, V x ∨ core p S M b x → O x
abbrev Sto (p : Nat) (O : Nat → Prop) (w : World) (n : Nat) (next wr : Int) (R : Int → Option RD) (cnt : Nat) : Prop := StoL p O w n next next wr R cnt
theorem StoL.chg {p : Nat} {O C : Nat → Prop} {w w' : World} {n : Nat} {next lim wr : Int} {R : Int → Option RD} {cnt : Nat} (h : StoL p O w n next lim wr R cnt) (hc : Chg C w w') (hC : ∀ x, O x → ¬ C x) : StoL p O w' n next lim wr R cnt := by
  obtain ⟨h0, V, S, M, b, f, xs, h1, h2, h3, h4⟩ := h
  exact ⟨fun x hx => Nat.lt_of_lt_of_le (h0 x hx) hc.size, V, S, M, b, f, xs, h1.chg hc (fun x hx => hC x (h4 x (.inr hx))), h2.chg hc (hC S (h4 S (.inr (.inr (.inl rfl))))) (fun y hy => hC y (h4 y (.inl hy))), h3, h4⟩
theorem StoL.up {p : Nat} {O : Nat → Prop} {w w' : World} {n : Nat} {next lim wr : Int} {R : Int → Option RD} {cnt : Nat} (h : StoL p O w n next lim wr R cnt) (hu : Up w w') : StoL p O w' n next lim wr R cnt := h.chg (Chg.of_up (C := fun _ => False) hu) (fun _ _ h => h)

end Go.Proofs.Ytaodekbpjkcpeaa
