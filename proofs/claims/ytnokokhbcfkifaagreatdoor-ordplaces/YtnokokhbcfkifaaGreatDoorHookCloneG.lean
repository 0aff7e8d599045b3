/-
  strings.Clone (SchClone imports this; SchCopy has the same beside what stage 5 asked for: never import both).
  What rialtohelp.Copy answers of every row of values: a row of its own with the same values; and rows of values that a call owns.
  strings.Clone and schema.Copy, alone (SchCopy has the same beside what stage 5 asked for: never import both).
-/
import Derived.Test.YtnokokhbcfkifaaGreatDoorShelf
import Derived.Test.YtnokokhbcfkifaaGreatDoorQuietUp
import Derived.WalkKit
import Derived.ProofKit
import Derived.Deep.DrawnRows
import Derived.Test.YtnokokhbcfkifaaGreatDoorValCmpG
import Derived.OwnWalk
namespace Go.Proofs.YtnokokhbcfkifaaGreatDoor
open Go.RowKit
attribute [local go_sem ↓] Go.wp_at_zero Go.wp_at_succ

theorem clone_calls (s : ByteArray) (w : World) (hs : s.size ≤ 281474976710656) : Calls Tryz.prog 61 #[.string s] w fun e w' => e = .returned (.string s) ∧ Up w w' := by
  go_enter Tryz.func61, Tryz.ntmps61
  go_wp2_with fail
  go_at_call 84
  refine (Go.Proofs.Tryz.stringslite_Clone s _ hs).mono ?_
  rintro _ w1 ⟨rfl, hu1⟩
  replace hu1 : Hid (Up w w1) := hu1
  go_wp2
  go_ret
  exact ⟨rfl, hu1.out⟩

end Go.Proofs.YtnokokhbcfkifaaGreatDoor

namespace Go.Proofs.YtnokokhbcfkifaaGreatDoor
open Go.ChangeShapes Go.WideShapes Go.ChangeAt Go.RowKit
attribute [local go_sem ↓] Go.wp_at_zero Go.wp_at_succ
attribute [local go_sem] run_store_float

/-- A row's cells. -/
def cellsT (v : VT) : List Value := [.int .i64 v.1, .int .i64 v.2.1, .string v.2.2.1, .float .f64 v.2.2.2]
def flat : List VT → List Value
  | [] => []
  | v :: l => cellsT v ++ flat l
theorem flat_length (l : List VT) : (flat l).length = l.length * 4 := by
  induction l with
  | nil => rfl
  | cons v l ih => simp only [flat, List.length_append, ih, List.length_cons, cellsT, List.length_nil]; omega
theorem flat_append (l m : List VT) : flat (l ++ m) = flat l ++ flat m := by
  induction l with
  | nil => rfl
  | cons v l ih => simp only [flat, List.cons_append, ih, List.append_assoc]
theorem flat_get (l : List VT) : ∀ (i j : Nat), i < l.length → j < 4 → (flat l)[i * 4 + j]? = (cellsT (l.getD i zeroT))[j]? := by
  induction l with
  | nil => intro i j hi; simp at hi
  | cons v l ih =>
    intro i j hi hj
    cases i with
    | zero =>
      rw [Nat.zero_mul, Nat.zero_add]
      show (cellsT v ++ flat l)[j]? = _
      rw [List.getElem?_append_left (by simp [cellsT]; omega)]
      rfl
    | succ i =>
      show (cellsT v ++ flat l)[(i + 1) * 4 + j]? = _
      rw [List.getElem?_append_right (by simp [cellsT]; omega)]
      have e : (i + 1) * 4 + j - (cellsT v).length = i * 4 + j := by simp [cellsT]; omega
      rw [e, ih i j (by simpa using hi) hj]
      rfl
theorem flat_one (l : List VT) : ∀ u ∈ flat l, u.oneCell' = true := by
  induction l with
  | nil => intro u hu; cases hu
  | cons v l ih =>
    intro u hu
    rcases List.mem_append.1 hu with h | h
    · simp only [cellsT, List.mem_cons, List.not_mem_nil, or_false] at h
      rcases h with rfl | rfl | rfl | rfl <;> rfl
    · exact ih u h

theorem at_get {w : World} {b off : Nat} {v : VT} (h : At w b off v) (j : Nat) (hj : j < 4) : w.cell? ⟨b, off + j, none⟩ = (cellsT v)[j]? := by
  match j, hj with
  | 0, _ => exact h.1
  | 1, _ => exact h.2.1
  | 2, _ => exact h.2.2.1
  | 3, _ => exact h.2.2.2

theorem row_news {w : World} {b off : Nat} {l : List VT} (h : ∀ i, i < l.length → At w b (off + i * 4) (l.getD i zeroT)) (j : Nat) (u : Value) (hj : (flat l)[j]? = some u) :
    w.cell? ((⟨b, off, none⟩ : Addr).add j) = some u := by
  rw [add_plain]
  have hlt : j < (flat l).length := by
    by_cases x : j < (flat l).length
    · exact x
    · rw [List.getElem?_eq_none (by omega)] at hj; cases hj
  rw [flat_length] at hlt
  have e : j = j / 4 * 4 + j % 4 := by omega
  have h1 := flat_get l (j / 4) (j % 4) (by omega) (by omega)
  rw [← e] at h1
  have h2 := at_get (h (j / 4) (by omega)) (j % 4) (by omega)
  rw [show off + j / 4 * 4 + j % 4 = off + j by omega] at h2
  rw [h2, ← h1, hj]

/-- A row that the call owns is a row of values. -/
theorem owns_vals {w : World} {base n : Nat} {v : Value} {l : List VT} (h : w.ownsRow base 77 4 v n (flat l)) (hf : ∀ i, Fits (l.getD i zeroT)) :
    ∃ a cap, v = .slice a n cap ∧ n ≤ cap ∧ cap ≤ maxLen ∧ l.length = n ∧ Vals w a n l ∧ ∀ k, v.ownBlock = some k → base ≤ k := by
  have hlen : l.length = n := by have := h.1; rw [flat_length] at this; omega
  have hlt := h.lt
  rcases h.2 with ⟨rfl, rfl⟩ | ⟨g, cap, cur, rfl, hb, hg, hc, hm, hs, ht⟩
  · exact ⟨none, 0, rfl, Nat.le_refl _, Nat.zero_le _, hlen, ⟨hlen, hf, .inl rfl⟩, fun k hk => (hlt k hk).1⟩
  · refine ⟨some ⟨g, 0, none⟩, cap, rfl, hc, hm, hlen, ⟨hlen, hf, ?_⟩, fun k hk => (hlt k hk).1⟩
    refine .inr ⟨g, 0, rfl, fun i hi => ?_⟩
    have key : ∀ j, j < 4 → w.cell? ⟨g, 0 + i * 4 + j, none⟩ = (cellsT (l.getD i zeroT))[j]? := by
      intro j hj
      rw [show 0 + i * 4 + j = i * 4 + j by omega, h.cellAt (i * 4 + j) (by omega)]
      exact flat_get l i j (by omega) hj
    exact ⟨key 0 (by omega), key 1 (by omega), key 2 (by omega), key 3 (by omega)⟩

theorem info_value : (Tryz.prog.info? 77).map (fun i => (i.zero, i.size, i.bytes)) = some (some (.agg #[.int .i64 0, .int .i64 0, .string ⟨#[]⟩, .float .f64 0]), 4, 40) := by kernel_rfl

theorem copy_nil (c : Nat) (w : World) :
    Calls Tryz.prog 16 #[.slice none 0 c] w fun e w' => e = .returned (.slice none 0 0) ∧ w' = w := by
  go_enter Tryz.func16, Tryz.ntmps16
  go_wp2
  go_ret
  exact ⟨rfl, rfl⟩

theorem copy_some (x : Addr) (n c : Nat) (l : List VT) (w : World) (hn : n ≤ 1000) (hl : l.length = n) (hnews : ∀ j u, (flat l)[j]? = some u → w.cell? (x.add j) = some u) :
    Calls Tryz.prog 16 #[.slice (some x) n c] w fun e w' => ∃ v, e = .returned v ∧ w'.ownsRow w.heap.size 77 4 v n (flat l) ∧ Up w w' := by
  obtain ⟨i0, hi, hz0, hz1, hz2⟩ := info_parts info_value
  have H := hide hnews
  clear hnews
  go_enter Tryz.func16, Tryz.ntmps16
  go_wp2_with (at_builtin; refine wpList_append_own _ rfl _ _ 37 rfl w.heap.size 77 i0 (.agg #[.int .i64 0, .int .i64 0, .string ⟨#[]⟩, .float .f64 0]) 4 40 Tryz.underlying37 hi hz0 hz1 hz2 rfl (by decide) _ _ _ rfl (World.ownsRow_nil _ _ _ _) x n c (flat l) rfl (by rw [flat_length, hl]) H.out (flat_one l) (by unfold maxLen; omega) (by omega) (Nat.le_refl _) ?_)
  intro v' w1 hown hgrow _
  replace hown := hide hown
  replace hgrow := hide hgrow
  go_wp2
  go_ret
  exact ⟨_, rfl, hown.out, (Below.refl _ _).grown hgrow.out (Nat.le_refl _) (fun k hk => by cases hk)⟩

theorem copy_calls (a : Option Addr) (n c : Nat) (l : List VT) (w : World) (hn : n ≤ 1000) (hv : Vals w a n l) (ha : a = none → n = 0) :
    Calls Tryz.prog 16 #[.slice a n c] w fun e w' => ∃ v, e = .returned v ∧ w'.ownsRow w.heap.size 77 4 v n (flat l) ∧ Up w w' := by
  obtain ⟨hl, _, h⟩ := hv
  cases a with
  | none =>
    obtain rfl : n = 0 := ha rfl
    obtain rfl : l = [] := List.length_eq_zero_iff.1 hl
    refine (copy_nil c w).mono ?_
    rintro _ w1 ⟨rfl, rfl⟩
    exact ⟨_, rfl, World.ownsRow_nil _ _ _ _, Up.refl _⟩
  | some x =>
    refine copy_some x n c l w hn hl ?_
    rcases h with rfl | ⟨b, off, hx, hx2⟩
    · obtain rfl : l = [] := List.length_eq_zero_iff.1 hl
      intro j u hj
      simp [flat] at hj
    · obtain rfl : x = ⟨b, off, none⟩ := by simpa using hx
      exact row_news (fun i hi => hx2 i (by omega))

end Go.Proofs.YtnokokhbcfkifaaGreatDoor

namespace Go.Proofs.YtnokokhbcfkifaaGreatDoor
open Go.ChangeShapes Go.WideShapes Go.ChangeAt Go.RowKit
attribute [local go_sem ↓] Go.wp_at_zero Go.wp_at_succ
attribute [local go_sem] run_store_float

/-- A row in a new block that may be written into. -/
def NewRow (B : Nat) (w : World) (a : Option Addr) (n : Nat) (m : List VT) : Prop := Vals w a n m ∧ (n = 0 ∨ ∃ G, a = some ⟨G, 0, none⟩ ∧ B ≤ G ∧ G < w.heap.size ∧ ∀ i, w.frozen? ⟨G, i, none⟩ = false)

/-- The row that Copy fills: so many of its values are there, every cell of it is. -/
def Half (w : World) (g n k : Nat) (m : List VT) : Prop := (∀ i, i < k → At w g (i * 4) (m.getD i zeroT)) ∧ (∀ i, i < n * 4 → ∃ v, w.cell? ⟨g, i, none⟩ = some v) ∧ ∀ i, w.frozen? ⟨g, i, none⟩ = false
theorem Half.up {w w' : World} {g n k : Nat} {m : List VT} (h : Half w g n k m) (hu : Up w w') (hg : g < w.heap.size) : Half w' g n k m :=
  ⟨fun i hi => (h.1 i hi).up hu, fun i hi => by obtain ⟨v, hv⟩ := h.2.1 i hi; exact ⟨v, hu.cell hv⟩, fun i => (hu.frozen (p := ⟨g, i, none⟩) hg).trans (h.2.2 i)⟩
theorem Half.set {w : World} {g n k : Nat} {m : List VT} (h : Half w g n k m) (i : Nat) (hi : k * 4 ≤ i) (hn : i < n * 4) (u : Value) : Half (w.setCell ⟨g, i, none⟩ u) g n k m := by
  have ho : ∀ j, j ≠ i → (w.setCell ⟨g, i, none⟩ u).cell? ⟨g, j, none⟩ = w.cell? ⟨g, j, none⟩ := fun j hj => World.cell?_setCell_other _ _ _ _ (by intro e; cases e; exact hj rfl)
  refine ⟨fun j hj => ?_, fun j hj => ?_, fun j => by rw [World.frozen?_setCell]; exact h.2.2 j⟩
  · obtain ⟨h0, h1, h2, h3⟩ := h.1 j hj
    exact ⟨(ho _ (by omega)).trans h0, (ho _ (by omega)).trans h1, (ho _ (by omega)).trans h2, (ho _ (by omega)).trans h3⟩
  · by_cases hji : j = i
    · subst hji
      obtain ⟨v, hv⟩ := h.2.1 j hj
      exact ⟨u, World.cell?_setCell_same _ _ _ hv⟩
    · rw [ho j hji]; exact h.2.1 j hj
theorem Half.other {w : World} {g n k : Nat} {m : List VT} (h : Half w g n k m) (a : Addr) (ha : a.block ≠ g) (u : Value) : Half (w.setCell a u) g n k m := by
  have ho : ∀ j, (w.setCell a u).cell? ⟨g, j, none⟩ = w.cell? ⟨g, j, none⟩ := fun j => World.cell?_setCell_other _ _ _ _ (by intro e; subst e; exact ha rfl)
  refine ⟨fun j hj => ?_, fun j hj => by rw [ho]; exact h.2.1 j hj, fun j => by rw [World.frozen?_setCell]; exact h.2.2 j⟩
  obtain ⟨h0, h1, h2, h3⟩ := h.1 j hj
  exact ⟨(ho _).trans h0, (ho _).trans h1, (ho _).trans h2, (ho _).trans h3⟩

set_option maxRecDepth 20000 in
set_option maxHeartbeats 4000000 in
theorem scopy_some (b off n c : Nat) (m : List VT) (w : World) (hn : n ≤ 12) (hm : m.length = n) (hx : ∀ i, i < n → At w b (off + i * 4) (m.getD i zeroT)) (hft : ∀ i, Fits (m.getD i zeroT)) (hs : ∀ i, (m.getD i zeroT).2.2.1.size ≤ 200) :
    Calls Tryz.prog 122 #[.slice (some ⟨b, off, none⟩) n c] w fun e w' => ∃ a', e = .returned (.slice a' n n) ∧ NewRow w.heap.size w' a' n m ∧ Up w w' := by
  obtain ⟨i0, hi, hz0, hz1, hz2⟩ := info_parts info_value
  obtain ⟨M, hM⟩ : ∃ M, M = madeCells (Value.agg #[.int .i64 0, .int .i64 0, .string ⟨#[]⟩, .float .f64 0]).cells (((n : Nat) : Int).toNat * i0.size) := ⟨_, rfl⟩
  have hMs : M.size = n * 4 := by rw [hM, size_madeCells, hz1]; simp
  have hmk : ∀ W : World, (Instr.makeSlice 37 (.int .i64 (n : Int)) (.int .i64 (n : Int))).run Tryz.prog W = .ok (.slice (some ⟨W.heap.size, 0, none⟩) n n) (W.alloc (.cells M 77)) := fun W => by
    have h := run_make (P := Tryz.prog) W 37 77 i0 (.agg #[.int .i64 0, .int .i64 0, .string ⟨#[]⟩, .float .f64 0]) Tryz.underlying37 hi hz0 .i64 .i64 (n : Int) (n : Int) (by omega) (by omega) (by rw [hz2]; omega) (by omega)
    rw [← hM] at h
    simpa using h
  clear hM
  have hhalf : Hid (Half (w.alloc (.cells M 77)) w.heap.size n 0 m) := by
    refine ⟨fun i hi => absurd hi (Nat.not_lt_zero i), fun i hi => ⟨M[i]'(by omega), ?_⟩, fun i => by simp⟩
    simp [hMs, hi]
  have hN : n ≤ 2 ^ 63 - 1 := by omega
  have HM := hide hm
  have HX := hide hx
  have HS := hide hs
  have HFT := hide hft
  clear hm hx hs hft
  go_enter Tryz.func122, Tryz.ntmps122
  go_wp2_with fail
  clear hmk hMs hi hz0 hz1 hz2
  have hu0 : Hid (Up w (w.alloc (.cells M 77))) := (Up.refl _).alloc _
  have hg0 : w.heap.size < (w.alloc (.cells M 77)).heap.size := by simp
  obtain ⟨G, hG⟩ : ∃ G, G = w.heap.size := ⟨_, rfl⟩
  rw [← hG] at hhalf hg0 ⊢
  have hGw : Hid (w.heap.size ≤ G) := by show _ ≤ _; omega
  clear hG
  generalize w.alloc (.cells M 77) = W0 at *
  go_loopw [11] (fun i wr => ∃ k : Nat, k ≤ n ∧ i = .int .i64 k ∧ Up w wr ∧ G < wr.heap.size ∧ Half wr G n k m) (fun i _ => n - (intOf i).toNat)
  case atStart => exact ⟨0, Nat.zero_le _, rfl, hu0.out, hg0, hhalf.out⟩
  case round =>
    clear hu0 hhalf hg0
    obtain ⟨k, hk, rfl, hu, hgs, hh⟩ := hrel
    replace hu := hide hu
    replace hh := hide hh
    by_cases hlt : k < n
    · have t3 : decide ((k : Int) < n) = true := decide_eq_true (by omega)
      obtain ⟨c0, c1, c2, c3⟩ := (HX.out k hlt).up hu.out
      have hsz := HS.out k
      obtain ⟨⟨q, z, s, f⟩, hv⟩ : ∃ v, v = m.getD k zeroT := ⟨_, rfl⟩
      rw [← hv] at c0 c1 c2 c3 hsz
      dsimp only at c0 c1 c2 c3 hsz
      replace hv := hide hv
      go_wp2_with fail
      go_at_call 61
      refine (clone_calls _ _ (by omega)).mono ?_
      rintro _ w2 ⟨rfl, hu2⟩
      clear c0 c1 c2 c3
      have e0 : w2.cell? ⟨wr.heap.size, 0, none⟩ = some (.int .i64 q) := hu2.cell (by go_simp)
      have e1 : w2.cell? ⟨wr.heap.size, 1, none⟩ = some (.int .i64 z) := hu2.cell (by go_simp)
      have e2 : w2.cell? ⟨wr.heap.size, 2, none⟩ = some (.string s) := hu2.cell (by go_simp)
      have e3 : w2.cell? ⟨wr.heap.size, 3, none⟩ = some (.float .f64 f) := hu2.cell (by go_simp)
      have ef : w2.frozen? ⟨wr.heap.size, 2, none⟩ = false := (hu2.frozen (p := ⟨wr.heap.size, 2, none⟩) (by simp)).trans (by go_simp)
      replace hh := hide (hh.out.up (((Up.refl wr).alloc _).trans hu2) hgs)
      replace hu := hide ((hu.out.alloc _).trans hu2)
      have hg2 : G < w2.heap.size := Nat.lt_of_lt_of_le hgs (Nat.le_trans (by simp) hu2.size)
      have hne : ¬ wr.heap.size = G := by omega
      have hne' : ¬ G = wr.heap.size := by omega
      have hV : Hid (w.heap.size ≤ wr.heap.size) := by have := hGw.out; show _ ≤ _; omega
      obtain ⟨v0, x0⟩ := hh.out.2.1 (k * 4) (by omega)
      obtain ⟨v1, x1⟩ := hh.out.2.1 (k * 4 + 1) (by omega)
      obtain ⟨v2, x2⟩ := hh.out.2.1 (k * 4 + 2) (by omega)
      obtain ⟨v3, x3⟩ := hh.out.2.1 (k * 4 + 3) (by omega)
      have y0 := hh.out.2.2 (k * 4)
      have y1 := hh.out.2.2 (k * 4 + 1)
      have y2 := hh.out.2.2 (k * 4 + 2)
      have y3 := hh.out.2.2 (k * 4 + 3)
      have hx : ∀ i, (w2.setCell ⟨wr.heap.size, 2, none⟩ (.string s)).cell? ⟨G, i, none⟩ = w2.cell? ⟨G, i, none⟩ := fun i => World.cell?_setCell_other _ _ _ _ (by intro e; exact hne (congrArg Addr.block e))
      replace x0 := (hx _).trans x0
      replace x1 := (hx _).trans x1
      replace x2 := (hx _).trans x2
      replace x3 := (hx _).trans x3
      clear hu2 hx
      have h5 := hide (((((hh.out.other ⟨wr.heap.size, 2, none⟩ hne (.string s)).set (k * 4) (Nat.le_refl _) (by omega) (.int .i64 q)).set (k * 4 + 1) (by omega) (by omega) (.int .i64 z)).set (k * 4 + 2) (by omega) (by omega) (.string s)).set (k * 4 + 3) (by omega) (by omega) (.float .f64 f))
      go_wp2_with fail
      refine ⟨⟨k + 1, by omega, by go_num, ((((hu.out.setCell hV.out _).setCell hGw.out _).setCell hGw.out _).setCell hGw.out _).setCell hGw.out _, by simpa using hg2, ⟨fun i hi => ?_, h5.out.2.1, h5.out.2.2⟩⟩, by simp [intOf]; omega⟩
      rcases Nat.lt_succ_iff_lt_or_eq.1 hi with hi | rfl
      · exact h5.out.1 i hi
      · rw [← hv.out]
        exact ⟨by go_simp, by go_simp, by go_simp, by go_simp⟩
    · obtain rfl : k = n := by omega
      have t3 : decide ((k : Int) < k) = false := decide_eq_false (by omega)
      go_wp2
      go_ret
      exact ⟨_, rfl, ⟨⟨HM.out, HFT.out, .inr ⟨G, 0, rfl, fun i hi => by rw [Nat.zero_add]; exact hh.out.1 i hi⟩⟩, .inr ⟨G, rfl, hGw.out, hgs, hh.out.2.2⟩⟩, hu.out⟩

theorem scopy_none (a : Option Addr) (c : Nat) (w : World) :
    Calls Tryz.prog 122 #[.slice a 0 c] w fun e w' => ∃ a', e = .returned (.slice a' 0 0) ∧ Up w w' := by
  obtain ⟨i0, hi, hz0, hz1, hz2⟩ := info_parts info_value
  obtain ⟨M, hM⟩ : ∃ M, M = madeCells (Value.agg #[.int .i64 0, .int .i64 0, .string ⟨#[]⟩, .float .f64 0]).cells ((0 : Int).toNat * i0.size) := ⟨_, rfl⟩
  have hmk : ∀ W : World, (Instr.makeSlice 37 (.int .i64 0) (.int .i64 0)).run Tryz.prog W = .ok (.slice (some ⟨W.heap.size, 0, none⟩) 0 0) (W.alloc (.cells M 77)) := fun W => by
    have h := run_make (P := Tryz.prog) W 37 77 i0 (.agg #[.int .i64 0, .int .i64 0, .string ⟨#[]⟩, .float .f64 0]) Tryz.underlying37 hi hz0 .i64 .i64 0 0 (by omega) (by omega) (by rw [hz2]; omega) (by omega)
    rw [← hM] at h
    simpa using h
  clear hM hi hz0 hz1 hz2
  go_enter Tryz.func122, Tryz.ntmps122
  go_wp2_with fail
  refine wp_loop_rounds 1 ?_
  rw [rounds_succ]
  go_wp2
  go_ret
  exact ⟨_, rfl, (Up.refl _).alloc _⟩

theorem scopy_calls (a : Option Addr) (n c : Nat) (m : List VT) (w : World) (hn : n ≤ 12) (hv : Vals w a n m) (hs : ∀ i, (m.getD i zeroT).2.2.1.size ≤ 200) :
    Calls Tryz.prog 122 #[.slice a n c] w fun e w' => ∃ a', e = .returned (.slice a' n n) ∧ NewRow w.heap.size w' a' n m ∧ Up w w' := by
  by_cases h0 : n = 0
  · subst h0
    obtain rfl : m = [] := List.length_eq_zero_iff.1 hv.1
    refine (scopy_none a c w).mono ?_
    rintro _ w1 ⟨a', rfl, hu⟩
    exact ⟨a', rfl, ⟨⟨rfl, hv.2.1, .inl rfl⟩, .inl rfl⟩, hu⟩
  · rcases hv.2.2 with h | ⟨b, off, rfl, hx⟩
    · exact absurd h h0
    · exact scopy_some b off n c m w hn hv.1 hx hv.2.1 hs

end Go.Proofs.YtnokokhbcfkifaaGreatDoor
