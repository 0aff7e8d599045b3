/-
  What the document's own reader of one value (package rialtoref3: value) answers, as its text runs: the same as package code's.
-/
import Derived.Test.YtlhaohioolagoaaCodeGetModel
import Derived.Test.YtlhaohioolagoaaRefVals
namespace Go.Proofs.Ytlhaohioolagoaa
open Go.ChangeShapes Go.WideShapes Go.ChangeAt Go.RowKit
attribute [local go_sem ↓] Go.wp_at_zero Go.wp_at_succ
attribute [local go_sem] run_store_float
set_option linter.unusedVariables false

/-- A value is read, of so many bytes. -/
def RTook (w : World) (v : VT) (n : Nat) (e : Ending) (w' : World) : Prop :=
  Up w w' ∧ e = .returned (.tuple #[.agg #[.int .i64 v.1, .int .i64 v.2.1, .string v.2.2.1, .float .f64 v.2.2.2], .int .i64 (n : Int)])
/-- None is read. -/
def RNone (w : World) (e : Ending) (w' : World) : Prop :=
  Up w w' ∧ ∃ v : VT, e = .returned (.tuple #[.agg #[.int .i64 v.1, .int .i64 v.2.1, .string v.2.2.1, .float .f64 v.2.2.2], .int .i64 0])

theorem blocks_two (w : World) (A B : Obj) : ((w.alloc A).alloc B).heap[w.heap.size]? = some A ∧ ((w.alloc A).alloc B).heap[w.heap.size + 1]? = some B := ⟨heap_alloc2_old w A B, heap_alloc2_new w A B⟩

set_option maxHeartbeats 4000000 in
theorem rv_other (b off n c : Nat) (l : List UInt8) (w : World) (hn : n ≤ 1000000) (h0 : 0 < n) (hc : n ≤ c) (hm : c ≤ maxLen) (hl : l.length = n) (hx : ∀ i, i < n → w.cell? ⟨b, off + i, none⟩ = some (.int .u8 ((l.getD i 0).toNat : Int))) (x : UInt8) (hk : l.getD 0 0 = x) (hx1 : ¬ x = 1) (hx2 : ¬ x = 2) (hx3 : ¬ x = 3) (hx4 : ¬ x = 4) (hx5 : ¬ x = 5) :
    Calls Try.prog 23 #[.slice (some ⟨b, off, none⟩) n c] w fun e w' => RNone w e w' := by
  have hcell : w.cell? ⟨b, off, none⟩ = some (.int .u8 (x.toNat : Int)) := by
    have := hx 0 (by omega)
    rw [hk] at this
    exact this
  have hlt : b < w.heap.size := World.block_lt_of_cell? w _ hcell
  have i0 : (0 : Int) < (n : Int) := by omega
  have HX := hide hx
  have HL := hide hl
  have HU : Hid (Up w ((w.alloc (.cells #[.int .i64 0, .int .i64 0, .string ⟨#[]⟩, .float .f64 0] 41)).alloc (.cells #[.int .i64 (x.toNat : Int), .int .i64 0, .string ⟨#[]⟩, .float .f64 0] 41))) := hide (((Up.refl _).alloc _).alloc _)
  clear hx hl
  have t1 : ((x.toNat : Int) == 1) = false := beq_nat 1 hx1
  have t2 : ((x.toNat : Int) == 2) = false := beq_nat 2 hx2
  have t3 : ((x.toNat : Int) == 3) = false := beq_nat 3 hx3
  have t4 : ((x.toNat : Int) == 4) = false := beq_nat 4 hx4
  have t5 : ((x.toNat : Int) == 5) = false := beq_nat 5 hx5
  have hwx : wrap64 (x.toNat : Int) = (x.toNat : Int) := by have := x.toNat_lt; unfold wrap64; omega
  go_enter Try.func23, Try.ntmps23
  go_wp2
  refine bodyPost_ret (v := .tuple #[.agg #[.int .i64 (x.toNat : Int), .int .i64 0, .string ⟨#[]⟩, .float .f64 0], .int .i64 0]) (by simp [results, Try.results23, go_sem]) rfl ⟨?_, ((x.toNat : Int), 0, ⟨#[]⟩, 0), rfl⟩
  exact ((Up.refl _).alloc _).alloc _


set_option maxHeartbeats 4000000 in
theorem rv_boolnone (b off n c : Nat) (l : List UInt8) (w : World) (hn : n ≤ 1000000) (h0 : 0 < n) (hc : n ≤ c) (hm : c ≤ maxLen) (hl : l.length = n) (hx : ∀ i, i < n → w.cell? ⟨b, off + i, none⟩ = some (.int .u8 ((l.getD i 0).toNat : Int))) (hk : l.getD 0 0 = 2) (hn1 : n < 2) :
    Calls Try.prog 23 #[.slice (some ⟨b, off, none⟩) n c] w fun e w' => RNone w e w' := by
  have hcell : w.cell? ⟨b, off, none⟩ = some (.int .u8 2) := by
    have := hx 0 (by omega)
    rw [hk] at this
    exact this
  have hlt : b < w.heap.size := World.block_lt_of_cell? w _ hcell
  have i0 : (0 : Int) < (n : Int) := by omega
  have HX := hide hx
  have HL := hide hl
  have HU : Hid (Up w ((w.alloc (.cells #[.int .i64 0, .int .i64 0, .string ⟨#[]⟩, .float .f64 0] 41)).alloc (.cells #[.int .i64 2, .int .i64 0, .string ⟨#[]⟩, .float .f64 0] 41))) := hide (((Up.refl _).alloc _).alloc _)
  clear hx hl
  have hn2 : (n : Int) < 2 := by omega
  go_enter Try.func23, Try.ntmps23
  go_wp2
  refine bodyPost_ret (v := .tuple #[.agg #[.int .i64 2, .int .i64 0, .string ⟨#[]⟩, .float .f64 0], .int .i64 0]) (by simp [results, Try.results23, go_sem]) rfl ⟨?_, (2, 0, ⟨#[]⟩, 0), rfl⟩
  exact ((Up.refl _).alloc _).alloc _


set_option maxHeartbeats 4000000 in
theorem rv_boolbad (b off n c : Nat) (l : List UInt8) (w : World) (hn : n ≤ 1000000) (h0 : 0 < n) (hc : n ≤ c) (hm : c ≤ maxLen) (hl : l.length = n) (hx : ∀ i, i < n → w.cell? ⟨b, off + i, none⟩ = some (.int .u8 ((l.getD i 0).toNat : Int))) (y : UInt8) (hk : l.getD 0 0 = 2) (hn1 : 2 ≤ n) (hy : l.getD 1 0 = y) (hyy : ¬ y.toNat ≤ 1) :
    Calls Try.prog 23 #[.slice (some ⟨b, off, none⟩) n c] w fun e w' => RNone w e w' := by
  have hcell : w.cell? ⟨b, off, none⟩ = some (.int .u8 2) := by
    have := hx 0 (by omega)
    rw [hk] at this
    exact this
  have hlt : b < w.heap.size := World.block_lt_of_cell? w _ hcell
  have i0 : (0 : Int) < (n : Int) := by omega
  have HX := hide hx
  have HL := hide hl
  have HU : Hid (Up w ((w.alloc (.cells #[.int .i64 0, .int .i64 0, .string ⟨#[]⟩, .float .f64 0] 41)).alloc (.cells #[.int .i64 2, .int .i64 0, .string ⟨#[]⟩, .float .f64 0] 41))) := hide (((Up.refl _).alloc _).alloc _)
  clear hx hl
  have hn2 : decide ((n : Int) < 2) = false := decide_eq_false (by omega)
  have j1 : (1 : Int) < (n : Int) := by omega
  have cy : w.cell? ⟨b, off + 1, none⟩ = some (.int .u8 (y.toNat : Int)) := by
    have := HX.out 1 (by omega)
    rw [hy] at this
    exact this
  have ty : (1 : Int) < (y.toNat : Int) := by omega
  go_enter Try.func23, Try.ntmps23
  go_wp2
  refine bodyPost_ret (v := .tuple #[.agg #[.int .i64 2, .int .i64 0, .string ⟨#[]⟩, .float .f64 0], .int .i64 0]) (by simp [results, Try.results23, go_sem]) rfl ⟨?_, (2, 0, ⟨#[]⟩, 0), rfl⟩
  exact ((Up.refl _).alloc _).alloc _


set_option maxHeartbeats 4000000 in
theorem rv_bool (b off n c : Nat) (l : List UInt8) (w : World) (hn : n ≤ 1000000) (h0 : 0 < n) (hc : n ≤ c) (hm : c ≤ maxLen) (hl : l.length = n) (hx : ∀ i, i < n → w.cell? ⟨b, off + i, none⟩ = some (.int .u8 ((l.getD i 0).toNat : Int))) (y : UInt8) (hk : l.getD 0 0 = 2) (hn1 : 2 ≤ n) (hy : l.getD 1 0 = y) (hyy : y.toNat ≤ 1) :
    Calls Try.prog 23 #[.slice (some ⟨b, off, none⟩) n c] w fun e w' => RTook w (2, (y.toNat : Int), ⟨#[]⟩, 0) 2 e w' := by
  have hcell : w.cell? ⟨b, off, none⟩ = some (.int .u8 2) := by
    have := hx 0 (by omega)
    rw [hk] at this
    exact this
  have hlt : b < w.heap.size := World.block_lt_of_cell? w _ hcell
  have i0 : (0 : Int) < (n : Int) := by omega
  have HX := hide hx
  have HL := hide hl
  have HU : Hid (Up w ((w.alloc (.cells #[.int .i64 0, .int .i64 0, .string ⟨#[]⟩, .float .f64 0] 41)).alloc (.cells #[.int .i64 2, .int .i64 0, .string ⟨#[]⟩, .float .f64 0] 41))) := hide (((Up.refl _).alloc _).alloc _)
  clear hx hl
  have hn2 : decide ((n : Int) < 2) = false := decide_eq_false (by omega)
  have j1 : (1 : Int) < (n : Int) := by omega
  have cy : w.cell? ⟨b, off + 1, none⟩ = some (.int .u8 (y.toNat : Int)) := by
    have := HX.out 1 (by omega)
    rw [hy] at this
    exact this
  have ty : decide ((1 : Int) < (y.toNat : Int)) = false := decide_eq_false (by omega)
  have hwy : wrap64 (y.toNat : Int) = (y.toNat : Int) := by have := y.toNat_lt; unfold wrap64; omega
  clear hyy
  go_enter Try.func23, Try.ntmps23
  go_wp2
  refine bodyPost_ret (v := .tuple #[.agg #[.int .i64 2, .int .i64 (y.toNat : Int), .string ⟨#[]⟩, .float .f64 0], .int .i64 2]) (by simp [results, Try.results23, go_sem]) rfl ⟨?_, rfl⟩
  exact ((Up.refl _).alloc _).alloc _


set_option maxHeartbeats 4000000 in
theorem rv_short1 (b off n c : Nat) (l : List UInt8) (w : World) (hn : n ≤ 1000000) (h0 : 0 < n) (hc : n ≤ c) (hm : c ≤ maxLen) (hl : l.length = n) (hx : ∀ i, i < n → w.cell? ⟨b, off + i, none⟩ = some (.int .u8 ((l.getD i 0).toNat : Int))) (hk : l.getD 0 0 = 1) (hn1 : n < 9) :
    Calls Try.prog 23 #[.slice (some ⟨b, off, none⟩) n c] w fun e w' => RNone w e w' := by
  have hcell : w.cell? ⟨b, off, none⟩ = some (.int .u8 1) := by
    have := hx 0 (by omega)
    rw [hk] at this
    exact this
  have hlt : b < w.heap.size := World.block_lt_of_cell? w _ hcell
  have i0 : (0 : Int) < (n : Int) := by omega
  have HX := hide hx
  have HL := hide hl
  have HU : Hid (Up w ((w.alloc (.cells #[.int .i64 0, .int .i64 0, .string ⟨#[]⟩, .float .f64 0] 41)).alloc (.cells #[.int .i64 1, .int .i64 0, .string ⟨#[]⟩, .float .f64 0] 41))) := hide (((Up.refl _).alloc _).alloc _)
  clear hx hl
  have hn2 : (n : Int) < 9 := by omega
  go_enter Try.func23, Try.ntmps23
  go_wp2
  refine bodyPost_ret (v := .tuple #[.agg #[.int .i64 1, .int .i64 0, .string ⟨#[]⟩, .float .f64 0], .int .i64 0]) (by simp [results, Try.results23, go_sem]) rfl ⟨?_, (1, 0, ⟨#[]⟩, 0), rfl⟩
  exact ((Up.refl _).alloc _).alloc _


set_option maxHeartbeats 4000000 in
theorem rv_int (b off n c : Nat) (l : List UInt8) (w : World) (hn : n ≤ 1000000) (h0 : 0 < n) (hc : n ≤ c) (hm : c ≤ maxLen) (hl : l.length = n) (hx : ∀ i, i < n → w.cell? ⟨b, off + i, none⟩ = some (.int .u8 ((l.getD i 0).toNat : Int))) (z : Int) (mm : List UInt8) (hmm : mm = l.drop 1) (hk : l.getD 0 0 = 1) (hn1 : 9 ≤ n) (hz : wrap64 (IntKind.u64.wrap ((numL (mm.take 8) : Int) - 9223372036854775808)) = z) :
    Calls Try.prog 23 #[.slice (some ⟨b, off, none⟩) n c] w fun e w' => RTook w (1, z, ⟨#[]⟩, 0) 9 e w' := by
  have hcell : w.cell? ⟨b, off, none⟩ = some (.int .u8 1) := by
    have := hx 0 (by omega)
    rw [hk] at this
    exact this
  have hlt : b < w.heap.size := World.block_lt_of_cell? w _ hcell
  have i0 : (0 : Int) < (n : Int) := by omega
  have HX := hide hx
  have HL := hide hl
  have HU : Hid (Up w ((w.alloc (.cells #[.int .i64 0, .int .i64 0, .string ⟨#[]⟩, .float .f64 0] 41)).alloc (.cells #[.int .i64 1, .int .i64 0, .string ⟨#[]⟩, .float .f64 0] 41))) := hide (((Up.refl _).alloc _).alloc _)
  clear hx hl
  have hn2 : decide ((n : Int) < 9) = false := decide_eq_false (by omega)
  have HMM := hide hmm
  have HLM : Hid (mm.length = n - 1) := hide (by rw [hmm, List.length_drop, HL.out])
  clear hmm
  go_enter Try.func23, Try.ntmps23
  go_wp2_with fail
  obtain ⟨W, hW⟩ : ∃ W, (w.alloc (.cells #[.int .i64 0, .int .i64 0, .string ⟨#[]⟩, .float .f64 0] 41)).alloc (.cells #[.int .i64 1, .int .i64 0, .string ⟨#[]⟩, .float .f64 0] 41) = W := ⟨_, rfl⟩
  have hbb : W.heap[w.heap.size + 1]? = some (.cells #[.int .i64 1, .int .i64 0, .string ⟨#[]⟩, .float .f64 0] 41 (0, 0)) := by subst hW; exact (blocks_two w _ _).2
  have hrr : W.heap[w.heap.size]? = some (.cells #[.int .i64 0, .int .i64 0, .string ⟨#[]⟩, .float .f64 0] 41 (0, 0)) := by subst hW; exact (blocks_two w _ _).1
  rw [hW] at HU ⊢
  clear hW
  have e0 : W.cell? ⟨w.heap.size + 1, 0, none⟩ = some (.int .i64 1) := cell_of_block hbb
  have e1 : W.cell? ⟨w.heap.size + 1, 1, none⟩ = some (.int .i64 0) := cell_of_block hbb
  have e2 : W.cell? ⟨w.heap.size + 1, 2, none⟩ = some (.string ⟨#[]⟩) := cell_of_block hbb
  have e3 : W.cell? ⟨w.heap.size + 1, 3, none⟩ = some (.float .f64 0) := cell_of_block hbb
  have r0 : W.cell? ⟨w.heap.size, 0, none⟩ = some (.int .i64 0) := cell_of_block hrr
  have r1 : W.cell? ⟨w.heap.size, 1, none⟩ = some (.int .i64 0) := cell_of_block hrr
  have r2 : W.cell? ⟨w.heap.size, 2, none⟩ = some (.string ⟨#[]⟩) := cell_of_block hrr
  have r3 : W.cell? ⟨w.heap.size, 3, none⟩ = some (.float .f64 0) := cell_of_block hrr
  have fv0 : W.frozen? ⟨w.heap.size + 1, 0, none⟩ = false := frozen_of_block hbb
  have fr0 : W.frozen? ⟨w.heap.size, 0, none⟩ = false := frozen_of_block hrr
  have fv1 : W.frozen? ⟨w.heap.size + 1, 1, none⟩ = false := frozen_of_block hbb
  have fr1 : W.frozen? ⟨w.heap.size, 1, none⟩ = false := frozen_of_block hrr
  have fv2 : W.frozen? ⟨w.heap.size + 1, 2, none⟩ = false := frozen_of_block hbb
  have fr2 : W.frozen? ⟨w.heap.size, 2, none⟩ = false := frozen_of_block hrr
  have fv3 : W.frozen? ⟨w.heap.size + 1, 3, none⟩ = false := frozen_of_block hbb
  have fr3 : W.frozen? ⟨w.heap.size, 3, none⟩ = false := frozen_of_block hrr
  replace HX := hide fun i hi => HU.out.cell (HX.out i hi)
  have HBB := hide hbb
  have HRR := hide hrr
  clear hbb hrr
  go_loop [5, 6] (fun x i => ∃ k : Nat, k ≤ 8 ∧ i = .int .i64 ((k : Int) + 1) ∧ x = .int .u64 (numL (mm.take k) : Int)) (fun _ i => 9 - (intOf i).toNat)
  case atStart => exact ⟨0, by omega, rfl, by simp [numL]⟩
  case round =>
    obtain ⟨k, hk8, rfl, rfl⟩ := hrel
    by_cases hlt8 : k < 8
    · have hcl := HX.out (k + 1) (by omega)
      have j0 : (0 : Int) ≤ (k : Int) + 1 := by omega
      have j1 : (k : Int) + 1 < 9 := by omega
      have j2 : (k : Int) + 1 < (n : Int) := by omega
      have hst := numL_take mm k (by rw [HMM.out, List.length_drop, HL.out]; omega)
      have hgd : mm.getD k 0 = l.getD (k + 1) 0 := by rw [HMM.out, List.getD_eq_getElem?_getD, List.getD_eq_getElem?_getD, List.getElem?_drop, Nat.add_comm]
      rw [hgd] at hst
      obtain ⟨d, hd⟩ : ∃ d, d = l.getD (k + 1) 0 := ⟨_, rfl⟩
      rw [← hd] at hcl hst
      have hlt2 := numL_lt (mm.take k)
      rw [List.length_take, HLM.out, Nat.min_eq_left (by omega)] at hlt2
      have hp : 256 ^ k ≤ 256 ^ 7 := Nat.pow_le_pow_right (by omega) (by omega)
      have hor := or_byte (numL (mm.take k)) d (Nat.lt_of_lt_of_le hlt2 (Nat.le_trans hp (by decide)))
      rw [← hst] at hor
      replace hd := hide hd
      clear hst hlt2 hp hgd
      go_wp2
      exact ⟨⟨k + 1, by omega, by go_num, rfl⟩, by simp [intOf]; omega⟩
    · obtain rfl : k = 8 := by omega
      go_wp2
      refine bodyPost_ret (v := .tuple #[.agg #[.int .i64 1, .int .i64 z, .string ⟨#[]⟩, .float .f64 0], .int .i64 9]) (by simp [results, Try.results23, go_sem, r0, r1, r2, r3]) rfl ⟨?_, rfl⟩
      exact (((((HU.out.setCell (p := ⟨w.heap.size + 1, 1, none⟩) (Nat.le_succ _) _).setCell (p := ⟨w.heap.size, 0, none⟩) (Nat.le_refl _) _).setCell (p := ⟨w.heap.size, 1, none⟩) (Nat.le_refl _) _).setCell (p := ⟨w.heap.size, 2, none⟩) (Nat.le_refl _) _).setCell (p := ⟨w.heap.size, 3, none⟩) (Nat.le_refl _) _)


set_option maxHeartbeats 4000000 in
theorem rv_short5 (b off n c : Nat) (l : List UInt8) (w : World) (hn : n ≤ 1000000) (h0 : 0 < n) (hc : n ≤ c) (hm : c ≤ maxLen) (hl : l.length = n) (hx : ∀ i, i < n → w.cell? ⟨b, off + i, none⟩ = some (.int .u8 ((l.getD i 0).toNat : Int))) (hk : l.getD 0 0 = 5) (hn1 : n < 9) :
    Calls Try.prog 23 #[.slice (some ⟨b, off, none⟩) n c] w fun e w' => RNone w e w' := by
  have hcell : w.cell? ⟨b, off, none⟩ = some (.int .u8 5) := by
    have := hx 0 (by omega)
    rw [hk] at this
    exact this
  have hlt : b < w.heap.size := World.block_lt_of_cell? w _ hcell
  have i0 : (0 : Int) < (n : Int) := by omega
  have HX := hide hx
  have HL := hide hl
  have HU : Hid (Up w ((w.alloc (.cells #[.int .i64 0, .int .i64 0, .string ⟨#[]⟩, .float .f64 0] 41)).alloc (.cells #[.int .i64 5, .int .i64 0, .string ⟨#[]⟩, .float .f64 0] 41))) := hide (((Up.refl _).alloc _).alloc _)
  clear hx hl
  have hn2 : (n : Int) < 9 := by omega
  go_enter Try.func23, Try.ntmps23
  go_wp2
  refine bodyPost_ret (v := .tuple #[.agg #[.int .i64 5, .int .i64 0, .string ⟨#[]⟩, .float .f64 0], .int .i64 0]) (by simp [results, Try.results23, go_sem]) rfl ⟨?_, (5, 0, ⟨#[]⟩, 0), rfl⟩
  exact ((Up.refl _).alloc _).alloc _


set_option maxHeartbeats 4000000 in
theorem rv_float (b off n c : Nat) (l : List UInt8) (w : World) (hn : n ≤ 1000000) (h0 : 0 < n) (hc : n ≤ c) (hm : c ≤ maxLen) (hl : l.length = n) (hx : ∀ i, i < n → w.cell? ⟨b, off + i, none⟩ = some (.int .u8 ((l.getD i 0).toNat : Int))) (f : Nat) (mm : List UInt8) (hmm : mm = l.drop 1) (hk : l.getD 0 0 = 5) (hn1 : 9 ≤ n) (hf : ofN (numL (mm.take 8)) = f) (hlw : numL (mm.take 8) < whole) :
    Calls Try.prog 23 #[.slice (some ⟨b, off, none⟩) n c] w fun e w' => RTook w (5, 0, ⟨#[]⟩, f) 9 e w' := by
  have hcell : w.cell? ⟨b, off, none⟩ = some (.int .u8 5) := by
    have := hx 0 (by omega)
    rw [hk] at this
    exact this
  have hlt : b < w.heap.size := World.block_lt_of_cell? w _ hcell
  have i0 : (0 : Int) < (n : Int) := by omega
  have HX := hide hx
  have HL := hide hl
  have HU : Hid (Up w ((w.alloc (.cells #[.int .i64 0, .int .i64 0, .string ⟨#[]⟩, .float .f64 0] 41)).alloc (.cells #[.int .i64 5, .int .i64 0, .string ⟨#[]⟩, .float .f64 0] 41))) := hide (((Up.refl _).alloc _).alloc _)
  clear hx hl
  have hn2 : decide ((n : Int) < 9) = false := decide_eq_false (by omega)
  have HMM := hide hmm
  have HLM : Hid (mm.length = n - 1) := hide (by rw [hmm, List.length_drop, HL.out])
  clear hmm
  go_enter Try.func23, Try.ntmps23
  go_wp2_with fail
  obtain ⟨W, hW⟩ : ∃ W, (w.alloc (.cells #[.int .i64 0, .int .i64 0, .string ⟨#[]⟩, .float .f64 0] 41)).alloc (.cells #[.int .i64 5, .int .i64 0, .string ⟨#[]⟩, .float .f64 0] 41) = W := ⟨_, rfl⟩
  have hbb : W.heap[w.heap.size + 1]? = some (.cells #[.int .i64 5, .int .i64 0, .string ⟨#[]⟩, .float .f64 0] 41 (0, 0)) := by subst hW; exact (blocks_two w _ _).2
  have hrr : W.heap[w.heap.size]? = some (.cells #[.int .i64 0, .int .i64 0, .string ⟨#[]⟩, .float .f64 0] 41 (0, 0)) := by subst hW; exact (blocks_two w _ _).1
  rw [hW] at HU ⊢
  clear hW
  have e0 : W.cell? ⟨w.heap.size + 1, 0, none⟩ = some (.int .i64 5) := cell_of_block hbb
  have e1 : W.cell? ⟨w.heap.size + 1, 1, none⟩ = some (.int .i64 0) := cell_of_block hbb
  have e2 : W.cell? ⟨w.heap.size + 1, 2, none⟩ = some (.string ⟨#[]⟩) := cell_of_block hbb
  have e3 : W.cell? ⟨w.heap.size + 1, 3, none⟩ = some (.float .f64 0) := cell_of_block hbb
  have r0 : W.cell? ⟨w.heap.size, 0, none⟩ = some (.int .i64 0) := cell_of_block hrr
  have r1 : W.cell? ⟨w.heap.size, 1, none⟩ = some (.int .i64 0) := cell_of_block hrr
  have r2 : W.cell? ⟨w.heap.size, 2, none⟩ = some (.string ⟨#[]⟩) := cell_of_block hrr
  have r3 : W.cell? ⟨w.heap.size, 3, none⟩ = some (.float .f64 0) := cell_of_block hrr
  have fv0 : W.frozen? ⟨w.heap.size + 1, 0, none⟩ = false := frozen_of_block hbb
  have fr0 : W.frozen? ⟨w.heap.size, 0, none⟩ = false := frozen_of_block hrr
  have fv1 : W.frozen? ⟨w.heap.size + 1, 1, none⟩ = false := frozen_of_block hbb
  have fr1 : W.frozen? ⟨w.heap.size, 1, none⟩ = false := frozen_of_block hrr
  have fv2 : W.frozen? ⟨w.heap.size + 1, 2, none⟩ = false := frozen_of_block hbb
  have fr2 : W.frozen? ⟨w.heap.size, 2, none⟩ = false := frozen_of_block hrr
  have fv3 : W.frozen? ⟨w.heap.size + 1, 3, none⟩ = false := frozen_of_block hbb
  have fr3 : W.frozen? ⟨w.heap.size, 3, none⟩ = false := frozen_of_block hrr
  replace HX := hide fun i hi => HU.out.cell (HX.out i hi)
  have HBB := hide hbb
  have HRR := hide hrr
  clear hbb hrr
  go_loop [5, 6] (fun x i => ∃ k : Nat, k ≤ 8 ∧ i = .int .i64 ((k : Int) + 1) ∧ x = .int .u64 (numL (mm.take k) : Int)) (fun _ i => 9 - (intOf i).toNat)
  case atStart => exact ⟨0, by omega, rfl, by simp [numL]⟩
  case round =>
    obtain ⟨k, hk8, rfl, rfl⟩ := hrel
    by_cases hlt8 : k < 8
    · have hcl := HX.out (k + 1) (by omega)
      have j0 : (0 : Int) ≤ (k : Int) + 1 := by omega
      have j1 : (k : Int) + 1 < 9 := by omega
      have j2 : (k : Int) + 1 < (n : Int) := by omega
      have hst := numL_take mm k (by rw [HMM.out, List.length_drop, HL.out]; omega)
      have hgd : mm.getD k 0 = l.getD (k + 1) 0 := by rw [HMM.out, List.getD_eq_getElem?_getD, List.getD_eq_getElem?_getD, List.getElem?_drop, Nat.add_comm]
      rw [hgd] at hst
      obtain ⟨d, hd⟩ : ∃ d, d = l.getD (k + 1) 0 := ⟨_, rfl⟩
      rw [← hd] at hcl hst
      have hlt2 := numL_lt (mm.take k)
      rw [List.length_take, HLM.out, Nat.min_eq_left (by omega)] at hlt2
      have hp : 256 ^ k ≤ 256 ^ 7 := Nat.pow_le_pow_right (by omega) (by omega)
      have hor := or_byte (numL (mm.take k)) d (Nat.lt_of_lt_of_le hlt2 (Nat.le_trans hp (by decide)))
      rw [← hst] at hor
      replace hd := hide hd
      clear hst hlt2 hp hgd
      go_wp2
      exact ⟨⟨k + 1, by omega, by go_num, rfl⟩, by simp [intOf]; omega⟩
    · obtain rfl : k = 8 := by omega
      go_wp2_with fail
      go_at_call 35
      refine (rof_calls _ hlw _).mono ?_
      rintro _ w2 ⟨rfl, hw2⟩
      obtain rfl : W = w2 := hw2.symm
      rw [hf]
      go_wp2
      refine bodyPost_ret (v := .tuple #[.agg #[.int .i64 5, .int .i64 0, .string ⟨#[]⟩, .float .f64 f], .int .i64 9]) (by simp [results, Try.results23, go_sem, r0, r1, r2, r3]) rfl ⟨?_, rfl⟩
      exact (((((HU.out.setCell (p := ⟨w.heap.size + 1, 3, none⟩) (Nat.le_succ _) _).setCell (p := ⟨w.heap.size, 0, none⟩) (Nat.le_refl _) _).setCell (p := ⟨w.heap.size, 1, none⟩) (Nat.le_refl _) _).setCell (p := ⟨w.heap.size, 2, none⟩) (Nat.le_refl _) _).setCell (p := ⟨w.heap.size, 3, none⟩) (Nat.le_refl _) _)


end Go.Proofs.Ytlhaohioolagoaa
