/-
  strings.Clone and hashidx.copied.
-/
import Derived.Test.YtofpakpbbpcalaaHookClone
import Derived.Test.YtofpakpbbpcalaaValCopy
import Derived.Test.YtofpakpbbpcalaaValIs
import Derived.Test.YtofpakpbbpcalaaQuietUp
namespace Go.Proofs.Ytofpakpbbpcalaa
open Go.ChangeShapes Go.WideShapes Go.ChangeAt Go.RowKit
attribute [local go_sem ↓] Go.wp_at_zero Go.wp_at_succ
attribute [local go_sem] run_store_float

/-- A row in a new block that may be written into. -/
def NewRow (B : Nat) (w : World) (a : Option Addr) (n : Nat) (m : List VT) : Prop := Vals w a n m ∧ (n = 0 ∨ ∃ G, a = some ⟨G, 0, none⟩ ∧ B ≤ G ∧ G < w.heap.size ∧ ∀ i, w.frozen? ⟨G, i, none⟩ = false)

/-- The row that Copy fills: so many of its values are there, every cell of it is. -/
def Half (w : World) (g n k : Nat) (m : List VT) : Prop := (∀ i, i < k → At w g (i * 4) (m.getD i zeroT)) ∧ (∀ i, i < n * 4 → ∃ v, w.cell? ⟨g, i, none⟩ = some v) ∧ ∀ i, w.frozen? ⟨g, i, none⟩ = false
theorem Half.up {w w' : World} {g n k : Nat} {m : List VT} (h : Half w g n k m) (hu : Up w w') (hg : g < w.heap.size) : Half w' g n k m :=
  ⟨fun i hi => (h.1 i hi).up hu, fun i hi => by obtain ⟨v, hv⟩ := h.2.1 i hi; exact ⟨v, hu.cell hv⟩, fun i => (hu.frozen (p := ⟨g, i, none⟩) hg).trans (h.2.2 i)⟩
theorem Half.set {w : World} {g n k : Nat} {m : List VT} (h : Half w g n k m) (i : Nat) (hi : k * 4 ≤ i) (hn : i < n * 4) (u : Value) : Half (w.setCell ⟨g, i, none⟩ u) g n k m := by
  have ho : ∀ j, j ≠ i → (w.setCell ⟨g, i, none⟩ u).cell? ⟨g, j, none⟩ = w.cell? ⟨g, j, none⟩ := fun j hj => World.cell?_setCell_other _ _ _ _ (by intro e; cases e; exact hj rfl)
  refine ⟨fun j hj => ?_, fun j hj => ?_, fun j => by rw [World.frozen?_setCell]; exact h.2.2 j⟩
  · obtain ⟨h0, h1, h2, h3⟩ := h.1 j hj
    exact ⟨(ho _ (by omega)).trans h0, (ho _ (by omega)).trans h1, (ho _ (by omega)).trans h2, (ho _ (by omega)).trans h3⟩
  · by_cases hji : j = i
    · subst hji
      obtain ⟨v, hv⟩ := h.2.1 j hj
      exact ⟨u, World.cell?_setCell_same _ _ _ hv⟩
    · rw [ho j hji]; exact h.2.1 j hj
theorem Half.other {w : World} {g n k : Nat} {m : List VT} (h : Half w g n k m) (a : Addr) (ha : a.block ≠ g) (u : Value) : Half (w.setCell a u) g n k m := by
  have ho : ∀ j, (w.setCell a u).cell? ⟨g, j, none⟩ = w.cell? ⟨g, j, none⟩ := fun j => World.cell?_setCell_other _ _ _ _ (by intro e; subst e; exact ha rfl)
  refine ⟨fun j hj => ?_, fun j hj => by rw [ho]; exact h.2.1 j hj, fun j => by rw [World.frozen?_setCell]; exact h.2.2 j⟩
  obtain ⟨h0, h1, h2, h3⟩ := h.1 j hj
  exact ⟨(ho _).trans h0, (ho _).trans h1, (ho _).trans h2, (ho _).trans h3⟩

set_option maxRecDepth 20000 in
set_option maxHeartbeats 4000000 in
theorem scopy_some (b off n c : Nat) (m : List VT) (w : World) (hn : n ≤ 12) (hm : m.length = n) (hx : ∀ i, i < n → At w b (off + i * 4) (m.getD i zeroT)) (hft : ∀ i, Fits (m.getD i zeroT)) (hs : ∀ i, (m.getD i zeroT).2.2.1.size ≤ 200) :
    Calls Try.prog 26 #[.slice (some ⟨b, off, none⟩) n c] w fun e w' => ∃ a', e = .returned (.slice a' n n) ∧ NewRow w.heap.size w' a' n m ∧ Up w w' := by
  obtain ⟨i0, hi, hz0, hz1, hz2⟩ := info_parts info_value
  obtain ⟨M, hM⟩ : ∃ M, M = madeCells (Value.agg #[.int .i64 0, .int .i64 0, .string ⟨#[]⟩, .float .f64 0]).cells (((n : Nat) : Int).toNat * i0.size) := ⟨_, rfl⟩
  have hMs : M.size = n * 4 := by rw [hM, size_madeCells, hz1]; simp
  have hmk : ∀ W : World, (Instr.makeSlice 27 (.int .i64 (n : Int)) (.int .i64 (n : Int))).run Try.prog W = .ok (.slice (some ⟨W.heap.size, 0, none⟩) n n) (W.alloc (.cells M 52)) := fun W => by
    have h := run_make (P := Try.prog) W 27 52 i0 (.agg #[.int .i64 0, .int .i64 0, .string ⟨#[]⟩, .float .f64 0]) Try.underlying27 hi hz0 .i64 .i64 (n : Int) (n : Int) (by omega) (by omega) (by rw [hz2]; omega) (by omega)
    rw [← hM] at h
    simpa using h
  clear hM
  have hhalf : Hid (Half (w.alloc (.cells M 52)) w.heap.size n 0 m) := by
    refine ⟨fun i hi => absurd hi (Nat.not_lt_zero i), fun i hi => ⟨M[i]'(by omega), ?_⟩, fun i => by simp⟩
    simp [hMs, hi]
  have hN : n ≤ 2 ^ 63 - 1 := by omega
  have HM := hide hm
  have HX := hide hx
  have HS := hide hs
  have HFT := hide hft
  clear hm hx hs hft
  go_enter Try.func26, Try.ntmps26
  go_wp2_with fail
  clear hmk hMs hi hz0 hz1 hz2
  have hu0 : Hid (Up w (w.alloc (.cells M 52))) := (Up.refl _).alloc _
  have hg0 : w.heap.size < (w.alloc (.cells M 52)).heap.size := by simp
  obtain ⟨G, hG⟩ : ∃ G, G = w.heap.size := ⟨_, rfl⟩
  rw [← hG] at hhalf hg0 ⊢
  have hGw : Hid (w.heap.size ≤ G) := by show _ ≤ _; omega
  clear hG
  generalize w.alloc (.cells M 52) = W0 at *
  go_loopw [11] (fun i wr => ∃ k : Nat, k ≤ n ∧ i = .int .i64 k ∧ Up w wr ∧ G < wr.heap.size ∧ Half wr G n k m) (fun i _ => n - (intOf i).toNat)
  case atStart => exact ⟨0, Nat.zero_le _, rfl, hu0.out, hg0, hhalf.out⟩
  case round =>
    clear hu0 hhalf hg0
    obtain ⟨k, hk, rfl, hu, hgs, hh⟩ := hrel
    replace hu := hide hu
    replace hh := hide hh
    by_cases hlt : k < n
    · have t3 : decide ((k : Int) < n) = true := decide_eq_true (by omega)
      obtain ⟨c0, c1, c2, c3⟩ := (HX.out k hlt).up hu.out
      have hsz := HS.out k
      obtain ⟨⟨q, z, s, f⟩, hv⟩ : ∃ v, v = m.getD k zeroT := ⟨_, rfl⟩
      rw [← hv] at c0 c1 c2 c3 hsz
      dsimp only at c0 c1 c2 c3 hsz
      replace hv := hide hv
      go_wp2_with fail
      go_at_call 39
      refine (clone_calls _ _ (by omega)).mono ?_
      rintro _ w2 ⟨rfl, hu2⟩
      clear c0 c1 c2 c3
      have e0 : w2.cell? ⟨wr.heap.size, 0, none⟩ = some (.int .i64 q) := hu2.cell (by go_simp)
      have e1 : w2.cell? ⟨wr.heap.size, 1, none⟩ = some (.int .i64 z) := hu2.cell (by go_simp)
      have e2 : w2.cell? ⟨wr.heap.size, 2, none⟩ = some (.string s) := hu2.cell (by go_simp)
      have e3 : w2.cell? ⟨wr.heap.size, 3, none⟩ = some (.float .f64 f) := hu2.cell (by go_simp)
      have ef : w2.frozen? ⟨wr.heap.size, 2, none⟩ = false := (hu2.frozen (p := ⟨wr.heap.size, 2, none⟩) (by simp)).trans (by go_simp)
      replace hh := hide (hh.out.up (((Up.refl wr).alloc _).trans hu2) hgs)
      replace hu := hide ((hu.out.alloc _).trans hu2)
      have hg2 : G < w2.heap.size := Nat.lt_of_lt_of_le hgs (Nat.le_trans (by simp) hu2.size)
      have hne : ¬ wr.heap.size = G := by omega
      have hne' : ¬ G = wr.heap.size := by omega
      have hV : Hid (w.heap.size ≤ wr.heap.size) := by have := hGw.out; show _ ≤ _; omega
      obtain ⟨v0, x0⟩ := hh.out.2.1 (k * 4) (by omega)
      obtain ⟨v1, x1⟩ := hh.out.2.1 (k * 4 + 1) (by omega)
      obtain ⟨v2, x2⟩ := hh.out.2.1 (k * 4 + 2) (by omega)
      obtain ⟨v3, x3⟩ := hh.out.2.1 (k * 4 + 3) (by omega)
      have y0 := hh.out.2.2 (k * 4)
      have y1 := hh.out.2.2 (k * 4 + 1)
      have y2 := hh.out.2.2 (k * 4 + 2)
      have y3 := hh.out.2.2 (k * 4 + 3)
      have hx : ∀ i, (w2.setCell ⟨wr.heap.size, 2, none⟩ (.string s)).cell? ⟨G, i, none⟩ = w2.cell? ⟨G, i, none⟩ := fun i => World.cell?_setCell_other _ _ _ _ (by intro e; exact hne (congrArg Addr.block e))
      replace x0 := (hx _).trans x0
      replace x1 := (hx _).trans x1
      replace x2 := (hx _).trans x2
      replace x3 := (hx _).trans x3
      clear hu2 hx
      have h5 := hide (((((hh.out.other ⟨wr.heap.size, 2, none⟩ hne (.string s)).set (k * 4) (Nat.le_refl _) (by omega) (.int .i64 q)).set (k * 4 + 1) (by omega) (by omega) (.int .i64 z)).set (k * 4 + 2) (by omega) (by omega) (.string s)).set (k * 4 + 3) (by omega) (by omega) (.float .f64 f))
      go_wp2_with fail
      refine ⟨⟨k + 1, by omega, by go_num, ((((hu.out.setCell hV.out _).setCell hGw.out _).setCell hGw.out _).setCell hGw.out _).setCell hGw.out _, by simpa using hg2, ⟨fun i hi => ?_, h5.out.2.1, h5.out.2.2⟩⟩, by simp [intOf]; omega⟩
      rcases Nat.lt_succ_iff_lt_or_eq.1 hi with hi | rfl
      · exact h5.out.1 i hi
      · rw [← hv.out]
        exact ⟨by go_simp, by go_simp, by go_simp, by go_simp⟩
    · obtain rfl : k = n := by omega
      have t3 : decide ((k : Int) < k) = false := decide_eq_false (by omega)
      go_wp2
      go_ret
      exact ⟨_, rfl, ⟨⟨HM.out, HFT.out, .inr ⟨G, 0, rfl, fun i hi => by rw [Nat.zero_add]; exact hh.out.1 i hi⟩⟩, .inr ⟨G, rfl, hGw.out, hgs, hh.out.2.2⟩⟩, hu.out⟩

theorem scopy_none (a : Option Addr) (c : Nat) (w : World) :
    Calls Try.prog 26 #[.slice a 0 c] w fun e w' => ∃ a', e = .returned (.slice a' 0 0) ∧ Up w w' := by
  obtain ⟨i0, hi, hz0, hz1, hz2⟩ := info_parts info_value
  obtain ⟨M, hM⟩ : ∃ M, M = madeCells (Value.agg #[.int .i64 0, .int .i64 0, .string ⟨#[]⟩, .float .f64 0]).cells ((0 : Int).toNat * i0.size) := ⟨_, rfl⟩
  have hmk : ∀ W : World, (Instr.makeSlice 27 (.int .i64 0) (.int .i64 0)).run Try.prog W = .ok (.slice (some ⟨W.heap.size, 0, none⟩) 0 0) (W.alloc (.cells M 52)) := fun W => by
    have h := run_make (P := Try.prog) W 27 52 i0 (.agg #[.int .i64 0, .int .i64 0, .string ⟨#[]⟩, .float .f64 0]) Try.underlying27 hi hz0 .i64 .i64 0 0 (by omega) (by omega) (by rw [hz2]; omega) (by omega)
    rw [← hM] at h
    simpa using h
  clear hM hi hz0 hz1 hz2
  go_enter Try.func26, Try.ntmps26
  go_wp2_with fail
  refine wp_loop_rounds 1 ?_
  rw [rounds_succ]
  go_wp2
  go_ret
  exact ⟨_, rfl, (Up.refl _).alloc _⟩

theorem scopy_calls (a : Option Addr) (n c : Nat) (m : List VT) (w : World) (hn : n ≤ 12) (hv : Vals w a n m) (hs : ∀ i, (m.getD i zeroT).2.2.1.size ≤ 200) :
    Calls Try.prog 26 #[.slice a n c] w fun e w' => ∃ a', e = .returned (.slice a' n n) ∧ NewRow w.heap.size w' a' n m ∧ Up w w' := by
  by_cases h0 : n = 0
  · subst h0
    obtain rfl : m = [] := List.length_eq_zero_iff.1 hv.1
    refine (scopy_none a c w).mono ?_
    rintro _ w1 ⟨a', rfl, hu⟩
    exact ⟨a', rfl, ⟨⟨rfl, hv.2.1, .inl rfl⟩, .inl rfl⟩, hu⟩
  · rcases hv.2.2 with h | ⟨b, off, rfl, hx⟩
    · exact absurd h h0
    · exact scopy_some b off n c m w hn hv.1 hx hv.2.1 hs

end Go.Proofs.Ytofpakpbbpcalaa
