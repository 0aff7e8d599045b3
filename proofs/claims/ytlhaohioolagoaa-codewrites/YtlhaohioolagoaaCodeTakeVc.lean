/-
  takeValue of package code: booleans, and what is of no kind.
-/
import Derived.Test.YtlhaohioolagoaaCodeTakeV
import Derived.RegionTactic
import Derived.BigRegion
namespace Go.Proofs.Ytlhaohioolagoaa
open Go.ChangeShapes Go.WideShapes Go.ChangeAt Go.RowKit
attribute [local go_sem ↓] Go.wp_at_zero Go.wp_at_succ
attribute [local go_sem] run_store_float
set_option linter.unusedVariables false

set_option maxHeartbeats 4000000 in
theorem tv_other (x : UInt8) (b off n c : Nat) (l : List UInt8) (w0 w : World) (hu0 : Up w0 w) (hn : n ≤ 1000000) (h0 : 0 < n) (hc1 : ¬ c = 1) (hc : n ≤ c) (hm : c ≤ maxLen) (hl : l.length = n) (hx : ∀ i, i < n → w0.cell? ⟨b, off + i, none⟩ = some (.int .u8 ((l.getD i 0).toNat : Int))) (hx1 : ¬ x = 1) (hx2 : ¬ x = 2) (hx3 : ¬ x = 3) (hx4 : ¬ x = 4) (hx5 : ¬ x = 5) (hk : l.getD 0 0 = x) :
    Calls Try.prog 22 #[.slice (some ⟨b, off, none⟩) n c] w fun e w' => NonePost w e w' := by
  have t1 : ((x.toNat : Int) == 1) = false := beq_nat 1 hx1
  have t2 : ((x.toNat : Int) == 2) = false := beq_nat 2 hx2
  have t3 : ((x.toNat : Int) == 3) = false := beq_nat 3 hx3
  have t4 : ((x.toNat : Int) == 4) = false := beq_nat 4 hx4
  have t5 : ((x.toNat : Int) == 5) = false := beq_nat 5 hx5
  have hwx : wrap64 (x.toNat : Int) = (x.toNat : Int) := by have := x.toNat_lt; unfold wrap64; omega
  have hcell : w.cell? ⟨b, off, none⟩ = some (.int .u8 (x.toNat : Int)) := by
    have := hu0.cell (hx 0 (by omega))
    rw [hk] at this
    exact this
  have hlt : b < w.heap.size := World.block_lt_of_cell? w _ hcell
  have i0 : (0 : Int) < (n : Int) := by omega
  have i1 : (1 : Int) ≤ (n : Int) := by omega
  have hsl := hide (sl_drop hl hc hm hx 1)
  have LL : Hid ((l.drop 1).length ≤ 1000000) := hide (by rw [List.length_drop]; omega)
  obtain ⟨m, hm2⟩ : ∃ m, m = l.drop 1 := ⟨_, rfl⟩
  rw [← hm2] at hsl LL 
  clear hx hl hm2 hm hn h0 hc
  go_enter Try.func22, Try.ntmps22
  go_wp2_with fail
  go_region
  go_wp2_with fail
  generalize hR : Value.slice (some { block := b, off := off + 1 }) (n - 1) (c - 1) = R at hsl ⊢
  obtain ⟨W, hW⟩ : ∃ W, (w.alloc (.cells #[.int .i64 (x.toNat : Int), .int .i64 0, .string ⟨#[]⟩, .float .f64 0] 41)).drew = W := ⟨_, rfl⟩
  have hb : W.heap[w.heap.size]? = some (.cells #[.int .i64 (x.toNat : Int), .int .i64 0, .string ⟨#[]⟩, .float .f64 0] 41 (0, 0)) := by subst hW; exact heap_alloc_new w _
  have hu : Up w W := by subst hW; exact ((Up.refl _).alloc _).drew
  rw [hW]
  clear hW hlt hcell hR i0 i1
  have hu1 := Up.refl W
  have HU := hide (hu.trans hu1)
  have hb1 := hu1.heap hb
  have hsz : w.heap.size < W.heap.size := Nat.lt_of_lt_of_le (World.block_lt_of_cell? W ⟨w.heap.size, 0, none⟩ (cell_of_block hb)) hu1.size
  have d0 : W.cell? ⟨w.heap.size, 0, none⟩ = some (.int .i64 (x.toNat : Int)) := cell_of_block hb1
  have d1 : W.cell? ⟨w.heap.size, 1, none⟩ = some (.int .i64 0) := cell_of_block hb1
  have d2 : W.cell? ⟨w.heap.size, 2, none⟩ = some (.string ⟨#[]⟩) := cell_of_block hb1
  have d3 : W.cell? ⟨w.heap.size, 3, none⟩ = some (.float .f64 0) := cell_of_block hb1
  have f0 : W.frozen? ⟨w.heap.size, 0, none⟩ = false := frozen_of_block hb1
  have f1 : W.frozen? ⟨w.heap.size, 1, none⟩ = false := frozen_of_block hb1
  have f2 : W.frozen? ⟨w.heap.size, 2, none⟩ = false := frozen_of_block hb1
  have f3 : W.frozen? ⟨w.heap.size, 3, none⟩ = false := frozen_of_block hb1
  clear hu hu1 hb hb1 hsl
  have HUV : Hid (Up w (W)) := hide (HU.out)
  have e0 : (W).cell? ⟨w.heap.size, 0, none⟩ = some (.int .i64 (x.toNat : Int)) := by go_simp
  have e1 : (W).cell? ⟨w.heap.size, 1, none⟩ = some (.int .i64 0) := by go_simp
  have e2 : (W).cell? ⟨w.heap.size, 2, none⟩ = some (.string ⟨#[]⟩) := by go_simp
  have e3 : (W).cell? ⟨w.heap.size, 3, none⟩ = some (.float .f64 0) := by go_simp
  have g0 : (W).frozen? ⟨w.heap.size, 0, none⟩ = false := by go_simp
  have g1 : (W).frozen? ⟨w.heap.size, 1, none⟩ = false := by go_simp
  have g2 : (W).frozen? ⟨w.heap.size, 2, none⟩ = false := by go_simp
  have g3 : (W).frozen? ⟨w.heap.size, 3, none⟩ = false := by go_simp
  have hsv : w.heap.size < (W).heap.size := by simpa using hsz
  generalize W = V at HUV e0 e1 e2 e3 g0 g1 g2 g3 hsv ⊢
  clear d0 d1 d2 d3 f0 f1 f2 f3 HU hsz
  go_region
  all_goals go_wp2
  all_goals refine bodyPost_ret (v := .tuple #[.agg #[.int .i64 (x.toNat : Int), .int .i64 0, .string ⟨#[]⟩, .float .f64 0], R, .bool false]) (by simp [results, Try.results22, go_sem, e0, e1, e2, e3]) rfl ⟨?_, ((x.toNat : Int), 0, ⟨#[]⟩, 0), _, rfl⟩
  all_goals exact ((((HUV.out.drew.setCell (p := ⟨w.heap.size, 0, none⟩) (Nat.le_refl _) _).setCell (p := ⟨w.heap.size, 1, none⟩) (Nat.le_refl _) _).setCell (p := ⟨w.heap.size, 2, none⟩) (Nat.le_refl _) _).setCell (p := ⟨w.heap.size, 3, none⟩) (Nat.le_refl _) _)


set_option maxHeartbeats 4000000 in
theorem tv_boolnone (b off n c : Nat) (l : List UInt8) (w0 w : World) (hu0 : Up w0 w) (hn : n ≤ 1000000) (h0 : 0 < n) (hc1 : ¬ c = 1) (hc : n ≤ c) (hm : c ≤ maxLen) (hl : l.length = n) (hx : ∀ i, i < n → w0.cell? ⟨b, off + i, none⟩ = some (.int .u8 ((l.getD i 0).toNat : Int))) (hk : l.getD 0 0 = 2) (hn1 : n = 1) :
    Calls Try.prog 22 #[.slice (some ⟨b, off, none⟩) n c] w fun e w' => NonePost w e w' := by
  subst hn1
  have hcell : w.cell? ⟨b, off, none⟩ = some (.int .u8 2) := by
    have := hu0.cell (hx 0 (by omega))
    rw [hk] at this
    exact this
  have hlt : b < w.heap.size := World.block_lt_of_cell? w _ hcell
  have hsl := hide (sl_drop hl hc hm hx 1)
  have LL : Hid ((l.drop 1).length ≤ 1000000) := hide (by rw [List.length_drop]; omega)
  obtain ⟨m, hm2⟩ : ∃ m, m = l.drop 1 := ⟨_, rfl⟩
  rw [← hm2] at hsl LL 
  clear hx hl hm2 hm hn h0 hc
  go_enter Try.func22, Try.ntmps22
  go_wp2_with fail
  go_region
  go_wp2_with fail
  generalize hR : Value.slice (some { block := b, off := off + 1 }) 0 (c - 1) = R at hsl ⊢
  obtain ⟨W, hW⟩ : ∃ W, (w.alloc (.cells #[.int .i64 2, .int .i64 0, .string ⟨#[]⟩, .float .f64 0] 41)).drew = W := ⟨_, rfl⟩
  have hb : W.heap[w.heap.size]? = some (.cells #[.int .i64 2, .int .i64 0, .string ⟨#[]⟩, .float .f64 0] 41 (0, 0)) := by subst hW; exact heap_alloc_new w _
  have hu : Up w W := by subst hW; exact ((Up.refl _).alloc _).drew
  rw [hW]
  clear hW hlt hcell hR
  have hu1 := Up.refl W
  have HU := hide (hu.trans hu1)
  have hb1 := hu1.heap hb
  have hsz : w.heap.size < W.heap.size := Nat.lt_of_lt_of_le (World.block_lt_of_cell? W ⟨w.heap.size, 0, none⟩ (cell_of_block hb)) hu1.size
  have d0 : W.cell? ⟨w.heap.size, 0, none⟩ = some (.int .i64 2) := cell_of_block hb1
  have d1 : W.cell? ⟨w.heap.size, 1, none⟩ = some (.int .i64 0) := cell_of_block hb1
  have d2 : W.cell? ⟨w.heap.size, 2, none⟩ = some (.string ⟨#[]⟩) := cell_of_block hb1
  have d3 : W.cell? ⟨w.heap.size, 3, none⟩ = some (.float .f64 0) := cell_of_block hb1
  have f0 : W.frozen? ⟨w.heap.size, 0, none⟩ = false := frozen_of_block hb1
  have f1 : W.frozen? ⟨w.heap.size, 1, none⟩ = false := frozen_of_block hb1
  have f2 : W.frozen? ⟨w.heap.size, 2, none⟩ = false := frozen_of_block hb1
  have f3 : W.frozen? ⟨w.heap.size, 3, none⟩ = false := frozen_of_block hb1
  clear hu hu1 hb hb1 hsl
  have HUV : Hid (Up w (W)) := hide (HU.out)
  have e0 : (W).cell? ⟨w.heap.size, 0, none⟩ = some (.int .i64 2) := by go_simp
  have e1 : (W).cell? ⟨w.heap.size, 1, none⟩ = some (.int .i64 0) := by go_simp
  have e2 : (W).cell? ⟨w.heap.size, 2, none⟩ = some (.string ⟨#[]⟩) := by go_simp
  have e3 : (W).cell? ⟨w.heap.size, 3, none⟩ = some (.float .f64 0) := by go_simp
  have g0 : (W).frozen? ⟨w.heap.size, 0, none⟩ = false := by go_simp
  have g1 : (W).frozen? ⟨w.heap.size, 1, none⟩ = false := by go_simp
  have g2 : (W).frozen? ⟨w.heap.size, 2, none⟩ = false := by go_simp
  have g3 : (W).frozen? ⟨w.heap.size, 3, none⟩ = false := by go_simp
  have hsv : w.heap.size < (W).heap.size := by simpa using hsz
  generalize W = V at HUV e0 e1 e2 e3 g0 g1 g2 g3 hsv ⊢
  clear d0 d1 d2 d3 f0 f1 f2 f3 HU hsz
  go_region
  all_goals go_wp2
  all_goals refine bodyPost_ret (v := .tuple #[.agg #[.int .i64 2, .int .i64 0, .string ⟨#[]⟩, .float .f64 0], R, .bool false]) (by simp [results, Try.results22, go_sem, e0, e1, e2, e3]) rfl ⟨?_, (2, 0, ⟨#[]⟩, 0), _, rfl⟩
  all_goals exact ((((HUV.out.drew.setCell (p := ⟨w.heap.size, 0, none⟩) (Nat.le_refl _) _).setCell (p := ⟨w.heap.size, 1, none⟩) (Nat.le_refl _) _).setCell (p := ⟨w.heap.size, 2, none⟩) (Nat.le_refl _) _).setCell (p := ⟨w.heap.size, 3, none⟩) (Nat.le_refl _) _)


set_option maxHeartbeats 4000000 in
theorem tv_other1 (x : UInt8) (b off : Nat) (w0 w : World) (hu0 : Up w0 w) (hx : w.cell? ⟨b, off, none⟩ = some (.int .u8 (x.toNat : Int))) (hx1 : ¬ x = 1) (hx2 : ¬ x = 2) (hx3 : ¬ x = 3) (hx4 : ¬ x = 4) (hx5 : ¬ x = 5)  :
    Calls Try.prog 22 #[.slice (some ⟨b, off, none⟩) 1 1] w fun e w' => NonePost w e w' := by
  have t1 : ((x.toNat : Int) == 1) = false := beq_nat 1 hx1
  have t2 : ((x.toNat : Int) == 2) = false := beq_nat 2 hx2
  have t3 : ((x.toNat : Int) == 3) = false := beq_nat 3 hx3
  have t4 : ((x.toNat : Int) == 4) = false := beq_nat 4 hx4
  have t5 : ((x.toNat : Int) == 5) = false := beq_nat 5 hx5
  have hwx : wrap64 (x.toNat : Int) = (x.toNat : Int) := by have := x.toNat_lt; unfold wrap64; omega
  have hcell := hx
  have hlt : b < w.heap.size := World.block_lt_of_cell? w _ hcell
  have hsl : Hid (Sl w0 (.slice (some ⟨b, off, none⟩) 0 0) []) := hide ⟨_, _, rfl, Nat.le_refl _, Nat.zero_le _, rfl, .inl rfl⟩
  obtain ⟨m, hm2⟩ : ∃ m : List UInt8, m = [] := ⟨_, rfl⟩
  have LL : Hid (m.length ≤ 1000000) := hide (by rw [hm2]; exact Nat.zero_le _)
  rw [← hm2] at hsl 
  clear hx
  go_enter Try.func22, Try.ntmps22
  go_wp2_with fail
  go_region
  go_wp2_with fail
  generalize hR : Value.slice (some { block := b, off := off }) 0 0 = R at hsl ⊢
  obtain ⟨W, hW⟩ : ∃ W, (w.alloc (.cells #[.int .i64 (x.toNat : Int), .int .i64 0, .string ⟨#[]⟩, .float .f64 0] 41)).drew = W := ⟨_, rfl⟩
  have hb : W.heap[w.heap.size]? = some (.cells #[.int .i64 (x.toNat : Int), .int .i64 0, .string ⟨#[]⟩, .float .f64 0] 41 (0, 0)) := by subst hW; exact heap_alloc_new w _
  have hu : Up w W := by subst hW; exact ((Up.refl _).alloc _).drew
  rw [hW]
  clear hW hlt hcell hR
  have hu1 := Up.refl W
  have HU := hide (hu.trans hu1)
  have hb1 := hu1.heap hb
  have hsz : w.heap.size < W.heap.size := Nat.lt_of_lt_of_le (World.block_lt_of_cell? W ⟨w.heap.size, 0, none⟩ (cell_of_block hb)) hu1.size
  have d0 : W.cell? ⟨w.heap.size, 0, none⟩ = some (.int .i64 (x.toNat : Int)) := cell_of_block hb1
  have d1 : W.cell? ⟨w.heap.size, 1, none⟩ = some (.int .i64 0) := cell_of_block hb1
  have d2 : W.cell? ⟨w.heap.size, 2, none⟩ = some (.string ⟨#[]⟩) := cell_of_block hb1
  have d3 : W.cell? ⟨w.heap.size, 3, none⟩ = some (.float .f64 0) := cell_of_block hb1
  have f0 : W.frozen? ⟨w.heap.size, 0, none⟩ = false := frozen_of_block hb1
  have f1 : W.frozen? ⟨w.heap.size, 1, none⟩ = false := frozen_of_block hb1
  have f2 : W.frozen? ⟨w.heap.size, 2, none⟩ = false := frozen_of_block hb1
  have f3 : W.frozen? ⟨w.heap.size, 3, none⟩ = false := frozen_of_block hb1
  clear hu hu1 hb hb1 hsl
  have HUV : Hid (Up w (W)) := hide (HU.out)
  have e0 : (W).cell? ⟨w.heap.size, 0, none⟩ = some (.int .i64 (x.toNat : Int)) := by go_simp
  have e1 : (W).cell? ⟨w.heap.size, 1, none⟩ = some (.int .i64 0) := by go_simp
  have e2 : (W).cell? ⟨w.heap.size, 2, none⟩ = some (.string ⟨#[]⟩) := by go_simp
  have e3 : (W).cell? ⟨w.heap.size, 3, none⟩ = some (.float .f64 0) := by go_simp
  have g0 : (W).frozen? ⟨w.heap.size, 0, none⟩ = false := by go_simp
  have g1 : (W).frozen? ⟨w.heap.size, 1, none⟩ = false := by go_simp
  have g2 : (W).frozen? ⟨w.heap.size, 2, none⟩ = false := by go_simp
  have g3 : (W).frozen? ⟨w.heap.size, 3, none⟩ = false := by go_simp
  have hsv : w.heap.size < (W).heap.size := by simpa using hsz
  generalize W = V at HUV e0 e1 e2 e3 g0 g1 g2 g3 hsv ⊢
  clear d0 d1 d2 d3 f0 f1 f2 f3 HU hsz
  go_region
  all_goals go_wp2
  all_goals refine bodyPost_ret (v := .tuple #[.agg #[.int .i64 (x.toNat : Int), .int .i64 0, .string ⟨#[]⟩, .float .f64 0], R, .bool false]) (by simp [results, Try.results22, go_sem, e0, e1, e2, e3]) rfl ⟨?_, ((x.toNat : Int), 0, ⟨#[]⟩, 0), _, rfl⟩
  all_goals exact ((((HUV.out.drew.setCell (p := ⟨w.heap.size, 0, none⟩) (Nat.le_refl _) _).setCell (p := ⟨w.heap.size, 1, none⟩) (Nat.le_refl _) _).setCell (p := ⟨w.heap.size, 2, none⟩) (Nat.le_refl _) _).setCell (p := ⟨w.heap.size, 3, none⟩) (Nat.le_refl _) _)


set_option maxHeartbeats 4000000 in
theorem tv_boolnone1 (b off : Nat) (w0 w : World) (hu0 : Up w0 w) (hx : w.cell? ⟨b, off, none⟩ = some (.int .u8 2))  :
    Calls Try.prog 22 #[.slice (some ⟨b, off, none⟩) 1 1] w fun e w' => NonePost w e w' := by
  have hcell := hx
  have hlt : b < w.heap.size := World.block_lt_of_cell? w _ hcell
  have hsl : Hid (Sl w0 (.slice (some ⟨b, off, none⟩) 0 0) []) := hide ⟨_, _, rfl, Nat.le_refl _, Nat.zero_le _, rfl, .inl rfl⟩
  obtain ⟨m, hm2⟩ : ∃ m : List UInt8, m = [] := ⟨_, rfl⟩
  have LL : Hid (m.length ≤ 1000000) := hide (by rw [hm2]; exact Nat.zero_le _)
  rw [← hm2] at hsl 
  clear hx
  go_enter Try.func22, Try.ntmps22
  go_wp2_with fail
  go_region
  go_wp2_with fail
  generalize hR : Value.slice (some { block := b, off := off }) 0 0 = R at hsl ⊢
  obtain ⟨W, hW⟩ : ∃ W, (w.alloc (.cells #[.int .i64 2, .int .i64 0, .string ⟨#[]⟩, .float .f64 0] 41)).drew = W := ⟨_, rfl⟩
  have hb : W.heap[w.heap.size]? = some (.cells #[.int .i64 2, .int .i64 0, .string ⟨#[]⟩, .float .f64 0] 41 (0, 0)) := by subst hW; exact heap_alloc_new w _
  have hu : Up w W := by subst hW; exact ((Up.refl _).alloc _).drew
  rw [hW]
  clear hW hlt hcell hR
  have hu1 := Up.refl W
  have HU := hide (hu.trans hu1)
  have hb1 := hu1.heap hb
  have hsz : w.heap.size < W.heap.size := Nat.lt_of_lt_of_le (World.block_lt_of_cell? W ⟨w.heap.size, 0, none⟩ (cell_of_block hb)) hu1.size
  have d0 : W.cell? ⟨w.heap.size, 0, none⟩ = some (.int .i64 2) := cell_of_block hb1
  have d1 : W.cell? ⟨w.heap.size, 1, none⟩ = some (.int .i64 0) := cell_of_block hb1
  have d2 : W.cell? ⟨w.heap.size, 2, none⟩ = some (.string ⟨#[]⟩) := cell_of_block hb1
  have d3 : W.cell? ⟨w.heap.size, 3, none⟩ = some (.float .f64 0) := cell_of_block hb1
  have f0 : W.frozen? ⟨w.heap.size, 0, none⟩ = false := frozen_of_block hb1
  have f1 : W.frozen? ⟨w.heap.size, 1, none⟩ = false := frozen_of_block hb1
  have f2 : W.frozen? ⟨w.heap.size, 2, none⟩ = false := frozen_of_block hb1
  have f3 : W.frozen? ⟨w.heap.size, 3, none⟩ = false := frozen_of_block hb1
  clear hu hu1 hb hb1 hsl
  have HUV : Hid (Up w (W)) := hide (HU.out)
  have e0 : (W).cell? ⟨w.heap.size, 0, none⟩ = some (.int .i64 2) := by go_simp
  have e1 : (W).cell? ⟨w.heap.size, 1, none⟩ = some (.int .i64 0) := by go_simp
  have e2 : (W).cell? ⟨w.heap.size, 2, none⟩ = some (.string ⟨#[]⟩) := by go_simp
  have e3 : (W).cell? ⟨w.heap.size, 3, none⟩ = some (.float .f64 0) := by go_simp
  have g0 : (W).frozen? ⟨w.heap.size, 0, none⟩ = false := by go_simp
  have g1 : (W).frozen? ⟨w.heap.size, 1, none⟩ = false := by go_simp
  have g2 : (W).frozen? ⟨w.heap.size, 2, none⟩ = false := by go_simp
  have g3 : (W).frozen? ⟨w.heap.size, 3, none⟩ = false := by go_simp
  have hsv : w.heap.size < (W).heap.size := by simpa using hsz
  generalize W = V at HUV e0 e1 e2 e3 g0 g1 g2 g3 hsv ⊢
  clear d0 d1 d2 d3 f0 f1 f2 f3 HU hsz
  go_region
  all_goals go_wp2
  all_goals refine bodyPost_ret (v := .tuple #[.agg #[.int .i64 2, .int .i64 0, .string ⟨#[]⟩, .float .f64 0], R, .bool false]) (by simp [results, Try.results22, go_sem, e0, e1, e2, e3]) rfl ⟨?_, (2, 0, ⟨#[]⟩, 0), _, rfl⟩
  all_goals exact ((((HUV.out.drew.setCell (p := ⟨w.heap.size, 0, none⟩) (Nat.le_refl _) _).setCell (p := ⟨w.heap.size, 1, none⟩) (Nat.le_refl _) _).setCell (p := ⟨w.heap.size, 2, none⟩) (Nat.le_refl _) _).setCell (p := ⟨w.heap.size, 3, none⟩) (Nat.le_refl _) _)


set_option maxHeartbeats 4000000 in
theorem tv_boolAyes (b off p q : Nat) (r : List UInt8) (w0 w : World) (y : UInt8) (hp : 0 < p) (hpq : p ≤ q) (hq : ¬ q = 1) (c0 : w.cell? ⟨b, off, none⟩ = some (.int .u8 2)) (c1 : w.cell? ⟨b, off + 1, none⟩ = some (.int .u8 (y.toNat : Int))) (hs : Sl w0 (.slice (some ⟨b, off + 1 + 1, none⟩) (p - 1) (q - 1)) r) (hy : y.toNat ≤ 1) :
    Calls Try.prog 22 #[.slice (some ⟨b, off, none⟩) (p + 1) (q + 1)] w fun e w' => TookPost w0 w (2, (y.toNat : Int), ⟨#[]⟩, 0) r e w' := by
  have hlt : b < w.heap.size := World.block_lt_of_cell? w _ c0
  have hpi : (0 : Int) < (p : Int) := by omega
  have hpj : (1 : Int) ≤ (p : Int) := by omega
  have hwy : wrap64 (y.toNat : Int) = (y.toNat : Int) := by have := y.toNat_lt; unfold wrap64; omega
  have HS := hide hs
  clear hs
  go_enter Try.func22, Try.ntmps22
  go_wp2_with fail
  go_region
  go_wp2_with fail
  obtain ⟨W, hW⟩ : ∃ W, (w.alloc (.cells #[.int .i64 2, .int .i64 0, .string ⟨#[]⟩, .float .f64 0] 41)).drew = W := ⟨_, rfl⟩
  have hb : W.heap[w.heap.size]? = some (.cells #[.int .i64 2, .int .i64 0, .string ⟨#[]⟩, .float .f64 0] 41 (0, 0)) := by subst hW; exact heap_alloc_new w _
  have hu : Up w W := by subst hW; exact ((Up.refl _).alloc _).drew
  rw [hW]
  have hu1 := Up.refl W
  have hbc := hu.cell c1
  have hsl := True.intro
  have hne : ¬ b = w.heap.size := by omega
  clear hW c0 c1
  have HU := hide (hu.trans hu1)
  have hb1 := hu1.heap hb
  have hsz : w.heap.size < W.heap.size := Nat.lt_of_lt_of_le (World.block_lt_of_cell? W ⟨w.heap.size, 0, none⟩ (cell_of_block hb)) hu1.size
  have d0 : W.cell? ⟨w.heap.size, 0, none⟩ = some (.int .i64 2) := cell_of_block hb1
  have d1 : W.cell? ⟨w.heap.size, 1, none⟩ = some (.int .i64 0) := cell_of_block hb1
  have d2 : W.cell? ⟨w.heap.size, 2, none⟩ = some (.string ⟨#[]⟩) := cell_of_block hb1
  have d3 : W.cell? ⟨w.heap.size, 3, none⟩ = some (.float .f64 0) := cell_of_block hb1
  have f0 : W.frozen? ⟨w.heap.size, 0, none⟩ = false := frozen_of_block hb1
  have f1 : W.frozen? ⟨w.heap.size, 1, none⟩ = false := frozen_of_block hb1
  have f2 : W.frozen? ⟨w.heap.size, 2, none⟩ = false := frozen_of_block hb1
  have f3 : W.frozen? ⟨w.heap.size, 3, none⟩ = false := frozen_of_block hb1
  clear hu hu1 hb hb1 hsl
  go_region
  go_wp2_with fail
  have HUV : Hid (Up w ((W.setCell ⟨w.heap.size, 1, none⟩ (.int .i64 (y.toNat : Int))).drew)) := hide ((HU.out.setCell (p := ⟨w.heap.size, 1, none⟩) (Nat.le_refl _) _).drew)
  have e0 : ((W.setCell ⟨w.heap.size, 1, none⟩ (.int .i64 (y.toNat : Int))).drew).cell? ⟨w.heap.size, 0, none⟩ = some (.int .i64 2) := by go_simp
  have e1 : ((W.setCell ⟨w.heap.size, 1, none⟩ (.int .i64 (y.toNat : Int))).drew).cell? ⟨w.heap.size, 1, none⟩ = some (.int .i64 (y.toNat : Int)) := by go_simp
  have e2 : ((W.setCell ⟨w.heap.size, 1, none⟩ (.int .i64 (y.toNat : Int))).drew).cell? ⟨w.heap.size, 2, none⟩ = some (.string ⟨#[]⟩) := by go_simp
  have e3 : ((W.setCell ⟨w.heap.size, 1, none⟩ (.int .i64 (y.toNat : Int))).drew).cell? ⟨w.heap.size, 3, none⟩ = some (.float .f64 0) := by go_simp
  have g0 : ((W.setCell ⟨w.heap.size, 1, none⟩ (.int .i64 (y.toNat : Int))).drew).frozen? ⟨w.heap.size, 0, none⟩ = false := by go_simp
  have g1 : ((W.setCell ⟨w.heap.size, 1, none⟩ (.int .i64 (y.toNat : Int))).drew).frozen? ⟨w.heap.size, 1, none⟩ = false := by go_simp
  have g2 : ((W.setCell ⟨w.heap.size, 1, none⟩ (.int .i64 (y.toNat : Int))).drew).frozen? ⟨w.heap.size, 2, none⟩ = false := by go_simp
  have g3 : ((W.setCell ⟨w.heap.size, 1, none⟩ (.int .i64 (y.toNat : Int))).drew).frozen? ⟨w.heap.size, 3, none⟩ = false := by go_simp
  have hsv : w.heap.size < ((W.setCell ⟨w.heap.size, 1, none⟩ (.int .i64 (y.toNat : Int))).drew).heap.size := by simpa using hsz
  generalize (W.setCell ⟨w.heap.size, 1, none⟩ (.int .i64 (y.toNat : Int))).drew = V at HUV e0 e1 e2 e3 g0 g1 g2 g3 hsv ⊢
  clear d0 d1 d2 d3 f0 f1 f2 f3 HU hsz
  have hisb : isB (2, (y.toNat : Int), ⟨#[]⟩, 0) = true := by
    simp [isB]
    omega
  go_region_with (go_at_call 17; refine (vis_calls _ _ _ _ _).mono ?_; rintro _ w2 ⟨rfl, hu2⟩; have c0 := hu2.cell (p := ⟨w.heap.size, 0, none⟩) (v := .int .i64 2) (by go_simp); have c1 := hu2.cell (p := ⟨w.heap.size, 1, none⟩) (v := .int .i64 (y.toNat : Int)) (by go_simp); have c2 := hu2.cell (p := ⟨w.heap.size, 2, none⟩) (v := .string ⟨#[]⟩) (by go_simp); have c3 := hu2.cell (p := ⟨w.heap.size, 3, none⟩) (v := .float .f64 0) (by go_simp); have k0 := (hu2.frozen (p := ⟨w.heap.size, 0, none⟩) (by simpa using hsv)).trans (by go_simp : _ = false); have k1 := (hu2.frozen (p := ⟨w.heap.size, 1, none⟩) (by simpa using hsv)).trans (by go_simp : _ = false); have k2 := (hu2.frozen (p := ⟨w.heap.size, 2, none⟩) (by simpa using hsv)).trans (by go_simp : _ = false); have k3 := (hu2.frozen (p := ⟨w.heap.size, 3, none⟩) (by simpa using hsv)).trans (by go_simp : _ = false))
  all_goals (replace HUV := hide (HUV.out.drew.trans hu2); clear hu2 e0 e1 e2 e3 g0 g1 g2 g3)
  all_goals go_wp2
  all_goals refine bodyPost_ret (v := .tuple #[.agg #[.int .i64 2, .int .i64 (y.toNat : Int), .string ⟨#[]⟩, .float .f64 0], .slice (some ⟨b, off + 1 + 1, none⟩) (p - 1) (q - 1), .bool true]) (by simp [results, Try.results22, go_sem, c0, c1, c2, c3]) rfl ⟨?_, _, rfl, HS.out⟩
  all_goals exact (((HUV.out.setCell (p := ⟨w.heap.size, 0, none⟩) (Nat.le_refl _) _).setCell (p := ⟨w.heap.size, 1, none⟩) (Nat.le_refl _) _).setCell (p := ⟨w.heap.size, 2, none⟩) (Nat.le_refl _) _).setCell (p := ⟨w.heap.size, 3, none⟩) (Nat.le_refl _) _


set_option maxHeartbeats 4000000 in
theorem tv_boolAno (b off p q : Nat) (r : List UInt8) (w0 w : World) (y : UInt8) (hp : 0 < p) (hpq : p ≤ q) (hq : ¬ q = 1) (c0 : w.cell? ⟨b, off, none⟩ = some (.int .u8 2)) (c1 : w.cell? ⟨b, off + 1, none⟩ = some (.int .u8 (y.toNat : Int))) (hs : Sl w0 (.slice (some ⟨b, off + 1 + 1, none⟩) (p - 1) (q - 1)) r) (hy : ¬ y.toNat ≤ 1) :
    Calls Try.prog 22 #[.slice (some ⟨b, off, none⟩) (p + 1) (q + 1)] w fun e w' => NonePost w e w' := by
  have hlt : b < w.heap.size := World.block_lt_of_cell? w _ c0
  have hpi : (0 : Int) < (p : Int) := by omega
  have hpj : (1 : Int) ≤ (p : Int) := by omega
  have hwy : wrap64 (y.toNat : Int) = (y.toNat : Int) := by have := y.toNat_lt; unfold wrap64; omega
  have HS := hide hs
  clear hs
  go_enter Try.func22, Try.ntmps22
  go_wp2_with fail
  go_region
  go_wp2_with fail
  obtain ⟨W, hW⟩ : ∃ W, (w.alloc (.cells #[.int .i64 2, .int .i64 0, .string ⟨#[]⟩, .float .f64 0] 41)).drew = W := ⟨_, rfl⟩
  have hb : W.heap[w.heap.size]? = some (.cells #[.int .i64 2, .int .i64 0, .string ⟨#[]⟩, .float .f64 0] 41 (0, 0)) := by subst hW; exact heap_alloc_new w _
  have hu : Up w W := by subst hW; exact ((Up.refl _).alloc _).drew
  rw [hW]
  have hu1 := Up.refl W
  have hbc := hu.cell c1
  have hsl := True.intro
  have hne : ¬ b = w.heap.size := by omega
  clear hW c0 c1
  have HU := hide (hu.trans hu1)
  have hb1 := hu1.heap hb
  have hsz : w.heap.size < W.heap.size := Nat.lt_of_lt_of_le (World.block_lt_of_cell? W ⟨w.heap.size, 0, none⟩ (cell_of_block hb)) hu1.size
  have d0 : W.cell? ⟨w.heap.size, 0, none⟩ = some (.int .i64 2) := cell_of_block hb1
  have d1 : W.cell? ⟨w.heap.size, 1, none⟩ = some (.int .i64 0) := cell_of_block hb1
  have d2 : W.cell? ⟨w.heap.size, 2, none⟩ = some (.string ⟨#[]⟩) := cell_of_block hb1
  have d3 : W.cell? ⟨w.heap.size, 3, none⟩ = some (.float .f64 0) := cell_of_block hb1
  have f0 : W.frozen? ⟨w.heap.size, 0, none⟩ = false := frozen_of_block hb1
  have f1 : W.frozen? ⟨w.heap.size, 1, none⟩ = false := frozen_of_block hb1
  have f2 : W.frozen? ⟨w.heap.size, 2, none⟩ = false := frozen_of_block hb1
  have f3 : W.frozen? ⟨w.heap.size, 3, none⟩ = false := frozen_of_block hb1
  clear hu hu1 hb hb1 hsl
  go_region
  go_wp2_with fail
  have HUV : Hid (Up w ((W.setCell ⟨w.heap.size, 1, none⟩ (.int .i64 (y.toNat : Int))).drew)) := hide ((HU.out.setCell (p := ⟨w.heap.size, 1, none⟩) (Nat.le_refl _) _).drew)
  have e0 : ((W.setCell ⟨w.heap.size, 1, none⟩ (.int .i64 (y.toNat : Int))).drew).cell? ⟨w.heap.size, 0, none⟩ = some (.int .i64 2) := by go_simp
  have e1 : ((W.setCell ⟨w.heap.size, 1, none⟩ (.int .i64 (y.toNat : Int))).drew).cell? ⟨w.heap.size, 1, none⟩ = some (.int .i64 (y.toNat : Int)) := by go_simp
  have e2 : ((W.setCell ⟨w.heap.size, 1, none⟩ (.int .i64 (y.toNat : Int))).drew).cell? ⟨w.heap.size, 2, none⟩ = some (.string ⟨#[]⟩) := by go_simp
  have e3 : ((W.setCell ⟨w.heap.size, 1, none⟩ (.int .i64 (y.toNat : Int))).drew).cell? ⟨w.heap.size, 3, none⟩ = some (.float .f64 0) := by go_simp
  have g0 : ((W.setCell ⟨w.heap.size, 1, none⟩ (.int .i64 (y.toNat : Int))).drew).frozen? ⟨w.heap.size, 0, none⟩ = false := by go_simp
  have g1 : ((W.setCell ⟨w.heap.size, 1, none⟩ (.int .i64 (y.toNat : Int))).drew).frozen? ⟨w.heap.size, 1, none⟩ = false := by go_simp
  have g2 : ((W.setCell ⟨w.heap.size, 1, none⟩ (.int .i64 (y.toNat : Int))).drew).frozen? ⟨w.heap.size, 2, none⟩ = false := by go_simp
  have g3 : ((W.setCell ⟨w.heap.size, 1, none⟩ (.int .i64 (y.toNat : Int))).drew).frozen? ⟨w.heap.size, 3, none⟩ = false := by go_simp
  have hsv : w.heap.size < ((W.setCell ⟨w.heap.size, 1, none⟩ (.int .i64 (y.toNat : Int))).drew).heap.size := by simpa using hsz
  generalize (W.setCell ⟨w.heap.size, 1, none⟩ (.int .i64 (y.toNat : Int))).drew = V at HUV e0 e1 e2 e3 g0 g1 g2 g3 hsv ⊢
  clear d0 d1 d2 d3 f0 f1 f2 f3 HU hsz
  have hisb : isB (2, (y.toNat : Int), ⟨#[]⟩, 0) = false := by
    simp [isB]
    omega
  go_region_with (go_at_call 17; refine (vis_calls _ _ _ _ _).mono ?_; rintro _ w2 ⟨rfl, hu2⟩; have c0 := hu2.cell (p := ⟨w.heap.size, 0, none⟩) (v := .int .i64 2) (by go_simp); have c1 := hu2.cell (p := ⟨w.heap.size, 1, none⟩) (v := .int .i64 (y.toNat : Int)) (by go_simp); have c2 := hu2.cell (p := ⟨w.heap.size, 2, none⟩) (v := .string ⟨#[]⟩) (by go_simp); have c3 := hu2.cell (p := ⟨w.heap.size, 3, none⟩) (v := .float .f64 0) (by go_simp); have k0 := (hu2.frozen (p := ⟨w.heap.size, 0, none⟩) (by simpa using hsv)).trans (by go_simp : _ = false); have k1 := (hu2.frozen (p := ⟨w.heap.size, 1, none⟩) (by simpa using hsv)).trans (by go_simp : _ = false); have k2 := (hu2.frozen (p := ⟨w.heap.size, 2, none⟩) (by simpa using hsv)).trans (by go_simp : _ = false); have k3 := (hu2.frozen (p := ⟨w.heap.size, 3, none⟩) (by simpa using hsv)).trans (by go_simp : _ = false))
  all_goals (replace HUV := hide (HUV.out.drew.trans hu2); clear hu2 e0 e1 e2 e3 g0 g1 g2 g3)
  all_goals go_wp2
  all_goals refine bodyPost_ret (v := .tuple #[.agg #[.int .i64 2, .int .i64 (y.toNat : Int), .string ⟨#[]⟩, .float .f64 0], .slice (some ⟨b, off + 1 + 1, none⟩) (p - 1) (q - 1), .bool false]) (by simp [results, Try.results22, go_sem, c0, c1, c2, c3]) rfl ⟨?_, (2, (y.toNat : Int), ⟨#[]⟩, 0), _, rfl⟩
  all_goals exact (((HUV.out.setCell (p := ⟨w.heap.size, 0, none⟩) (Nat.le_refl _) _).setCell (p := ⟨w.heap.size, 1, none⟩) (Nat.le_refl _) _).setCell (p := ⟨w.heap.size, 2, none⟩) (Nat.le_refl _) _).setCell (p := ⟨w.heap.size, 3, none⟩) (Nat.le_refl _) _


set_option maxHeartbeats 4000000 in
theorem tv_boolByes (b off p q : Nat) (r : List UInt8) (w0 w : World) (y : UInt8) (hp : 0 < p) (hpq : p ≤ q) (hq : q = 1) (hp1 : p = 1) (c0 : w.cell? ⟨b, off, none⟩ = some (.int .u8 2)) (c1 : w.cell? ⟨b, off + 1, none⟩ = some (.int .u8 (y.toNat : Int))) (hs : Sl w0 (.slice (some ⟨b, off + 1, none⟩) 0 0) r) (hy : y.toNat ≤ 1) :
    Calls Try.prog 22 #[.slice (some ⟨b, off, none⟩) (p + 1) (q + 1)] w fun e w' => TookPost w0 w (2, (y.toNat : Int), ⟨#[]⟩, 0) r e w' := by
  have hlt : b < w.heap.size := World.block_lt_of_cell? w _ c0
  have hpi : (0 : Int) < (p : Int) := by omega
  have hpj : (1 : Int) ≤ (p : Int) := by omega
  have hwy : wrap64 (y.toNat : Int) = (y.toNat : Int) := by have := y.toNat_lt; unfold wrap64; omega
  subst hq hp1
  have HS := hide hs
  clear hs
  go_enter Try.func22, Try.ntmps22
  go_wp2_with fail
  go_region
  go_wp2_with fail
  obtain ⟨W, hW⟩ : ∃ W, (w.alloc (.cells #[.int .i64 2, .int .i64 0, .string ⟨#[]⟩, .float .f64 0] 41)).drew = W := ⟨_, rfl⟩
  have hb : W.heap[w.heap.size]? = some (.cells #[.int .i64 2, .int .i64 0, .string ⟨#[]⟩, .float .f64 0] 41 (0, 0)) := by subst hW; exact heap_alloc_new w _
  have hu : Up w W := by subst hW; exact ((Up.refl _).alloc _).drew
  rw [hW]
  have hu1 := Up.refl W
  have hbc := hu.cell c1
  have hsl := True.intro
  have hne : ¬ b = w.heap.size := by omega
  clear hW c0 c1
  have HU := hide (hu.trans hu1)
  have hb1 := hu1.heap hb
  have hsz : w.heap.size < W.heap.size := Nat.lt_of_lt_of_le (World.block_lt_of_cell? W ⟨w.heap.size, 0, none⟩ (cell_of_block hb)) hu1.size
  have d0 : W.cell? ⟨w.heap.size, 0, none⟩ = some (.int .i64 2) := cell_of_block hb1
  have d1 : W.cell? ⟨w.heap.size, 1, none⟩ = some (.int .i64 0) := cell_of_block hb1
  have d2 : W.cell? ⟨w.heap.size, 2, none⟩ = some (.string ⟨#[]⟩) := cell_of_block hb1
  have d3 : W.cell? ⟨w.heap.size, 3, none⟩ = some (.float .f64 0) := cell_of_block hb1
  have f0 : W.frozen? ⟨w.heap.size, 0, none⟩ = false := frozen_of_block hb1
  have f1 : W.frozen? ⟨w.heap.size, 1, none⟩ = false := frozen_of_block hb1
  have f2 : W.frozen? ⟨w.heap.size, 2, none⟩ = false := frozen_of_block hb1
  have f3 : W.frozen? ⟨w.heap.size, 3, none⟩ = false := frozen_of_block hb1
  clear hu hu1 hb hb1 hsl
  go_region
  go_wp2_with fail
  have HUV : Hid (Up w ((W.setCell ⟨w.heap.size, 1, none⟩ (.int .i64 (y.toNat : Int))).drew)) := hide ((HU.out.setCell (p := ⟨w.heap.size, 1, none⟩) (Nat.le_refl _) _).drew)
  have e0 : ((W.setCell ⟨w.heap.size, 1, none⟩ (.int .i64 (y.toNat : Int))).drew).cell? ⟨w.heap.size, 0, none⟩ = some (.int .i64 2) := by go_simp
  have e1 : ((W.setCell ⟨w.heap.size, 1, none⟩ (.int .i64 (y.toNat : Int))).drew).cell? ⟨w.heap.size, 1, none⟩ = some (.int .i64 (y.toNat : Int)) := by go_simp
  have e2 : ((W.setCell ⟨w.heap.size, 1, none⟩ (.int .i64 (y.toNat : Int))).drew).cell? ⟨w.heap.size, 2, none⟩ = some (.string ⟨#[]⟩) := by go_simp
  have e3 : ((W.setCell ⟨w.heap.size, 1, none⟩ (.int .i64 (y.toNat : Int))).drew).cell? ⟨w.heap.size, 3, none⟩ = some (.float .f64 0) := by go_simp
  have g0 : ((W.setCell ⟨w.heap.size, 1, none⟩ (.int .i64 (y.toNat : Int))).drew).frozen? ⟨w.heap.size, 0, none⟩ = false := by go_simp
  have g1 : ((W.setCell ⟨w.heap.size, 1, none⟩ (.int .i64 (y.toNat : Int))).drew).frozen? ⟨w.heap.size, 1, none⟩ = false := by go_simp
  have g2 : ((W.setCell ⟨w.heap.size, 1, none⟩ (.int .i64 (y.toNat : Int))).drew).frozen? ⟨w.heap.size, 2, none⟩ = false := by go_simp
  have g3 : ((W.setCell ⟨w.heap.size, 1, none⟩ (.int .i64 (y.toNat : Int))).drew).frozen? ⟨w.heap.size, 3, none⟩ = false := by go_simp
  have hsv : w.heap.size < ((W.setCell ⟨w.heap.size, 1, none⟩ (.int .i64 (y.toNat : Int))).drew).heap.size := by simpa using hsz
  generalize (W.setCell ⟨w.heap.size, 1, none⟩ (.int .i64 (y.toNat : Int))).drew = V at HUV e0 e1 e2 e3 g0 g1 g2 g3 hsv ⊢
  clear d0 d1 d2 d3 f0 f1 f2 f3 HU hsz
  have hisb : isB (2, (y.toNat : Int), ⟨#[]⟩, 0) = true := by
    simp [isB]
    omega
  go_region_with (go_at_call 17; refine (vis_calls _ _ _ _ _).mono ?_; rintro _ w2 ⟨rfl, hu2⟩; have c0 := hu2.cell (p := ⟨w.heap.size, 0, none⟩) (v := .int .i64 2) (by go_simp); have c1 := hu2.cell (p := ⟨w.heap.size, 1, none⟩) (v := .int .i64 (y.toNat : Int)) (by go_simp); have c2 := hu2.cell (p := ⟨w.heap.size, 2, none⟩) (v := .string ⟨#[]⟩) (by go_simp); have c3 := hu2.cell (p := ⟨w.heap.size, 3, none⟩) (v := .float .f64 0) (by go_simp); have k0 := (hu2.frozen (p := ⟨w.heap.size, 0, none⟩) (by simpa using hsv)).trans (by go_simp : _ = false); have k1 := (hu2.frozen (p := ⟨w.heap.size, 1, none⟩) (by simpa using hsv)).trans (by go_simp : _ = false); have k2 := (hu2.frozen (p := ⟨w.heap.size, 2, none⟩) (by simpa using hsv)).trans (by go_simp : _ = false); have k3 := (hu2.frozen (p := ⟨w.heap.size, 3, none⟩) (by simpa using hsv)).trans (by go_simp : _ = false))
  all_goals (replace HUV := hide (HUV.out.drew.trans hu2); clear hu2 e0 e1 e2 e3 g0 g1 g2 g3)
  all_goals go_wp2
  all_goals refine bodyPost_ret (v := .tuple #[.agg #[.int .i64 2, .int .i64 (y.toNat : Int), .string ⟨#[]⟩, .float .f64 0], .slice (some ⟨b, off + 1, none⟩) 0 0, .bool true]) (by simp [results, Try.results22, go_sem, c0, c1, c2, c3]) rfl ⟨?_, _, rfl, HS.out⟩
  all_goals exact (((HUV.out.setCell (p := ⟨w.heap.size, 0, none⟩) (Nat.le_refl _) _).setCell (p := ⟨w.heap.size, 1, none⟩) (Nat.le_refl _) _).setCell (p := ⟨w.heap.size, 2, none⟩) (Nat.le_refl _) _).setCell (p := ⟨w.heap.size, 3, none⟩) (Nat.le_refl _) _


set_option maxHeartbeats 4000000 in
theorem tv_boolBno (b off p q : Nat) (r : List UInt8) (w0 w : World) (y : UInt8) (hp : 0 < p) (hpq : p ≤ q) (hq : q = 1) (hp1 : p = 1) (c0 : w.cell? ⟨b, off, none⟩ = some (.int .u8 2)) (c1 : w.cell? ⟨b, off + 1, none⟩ = some (.int .u8 (y.toNat : Int))) (hs : Sl w0 (.slice (some ⟨b, off + 1, none⟩) 0 0) r) (hy : ¬ y.toNat ≤ 1) :
    Calls Try.prog 22 #[.slice (some ⟨b, off, none⟩) (p + 1) (q + 1)] w fun e w' => NonePost w e w' := by
  have hlt : b < w.heap.size := World.block_lt_of_cell? w _ c0
  have hpi : (0 : Int) < (p : Int) := by omega
  have hpj : (1 : Int) ≤ (p : Int) := by omega
  have hwy : wrap64 (y.toNat : Int) = (y.toNat : Int) := by have := y.toNat_lt; unfold wrap64; omega
  subst hq hp1
  have HS := hide hs
  clear hs
  go_enter Try.func22, Try.ntmps22
  go_wp2_with fail
  go_region
  go_wp2_with fail
  obtain ⟨W, hW⟩ : ∃ W, (w.alloc (.cells #[.int .i64 2, .int .i64 0, .string ⟨#[]⟩, .float .f64 0] 41)).drew = W := ⟨_, rfl⟩
  have hb : W.heap[w.heap.size]? = some (.cells #[.int .i64 2, .int .i64 0, .string ⟨#[]⟩, .float .f64 0] 41 (0, 0)) := by subst hW; exact heap_alloc_new w _
  have hu : Up w W := by subst hW; exact ((Up.refl _).alloc _).drew
  rw [hW]
  have hu1 := Up.refl W
  have hbc := hu.cell c1
  have hsl := True.intro
  have hne : ¬ b = w.heap.size := by omega
  clear hW c0 c1
  have HU := hide (hu.trans hu1)
  have hb1 := hu1.heap hb
  have hsz : w.heap.size < W.heap.size := Nat.lt_of_lt_of_le (World.block_lt_of_cell? W ⟨w.heap.size, 0, none⟩ (cell_of_block hb)) hu1.size
  have d0 : W.cell? ⟨w.heap.size, 0, none⟩ = some (.int .i64 2) := cell_of_block hb1
  have d1 : W.cell? ⟨w.heap.size, 1, none⟩ = some (.int .i64 0) := cell_of_block hb1
  have d2 : W.cell? ⟨w.heap.size, 2, none⟩ = some (.string ⟨#[]⟩) := cell_of_block hb1
  have d3 : W.cell? ⟨w.heap.size, 3, none⟩ = some (.float .f64 0) := cell_of_block hb1
  have f0 : W.frozen? ⟨w.heap.size, 0, none⟩ = false := frozen_of_block hb1
  have f1 : W.frozen? ⟨w.heap.size, 1, none⟩ = false := frozen_of_block hb1
  have f2 : W.frozen? ⟨w.heap.size, 2, none⟩ = false := frozen_of_block hb1
  have f3 : W.frozen? ⟨w.heap.size, 3, none⟩ = false := frozen_of_block hb1
  clear hu hu1 hb hb1 hsl
  go_region
  go_wp2_with fail
  have HUV : Hid (Up w ((W.setCell ⟨w.heap.size, 1, none⟩ (.int .i64 (y.toNat : Int))).drew)) := hide ((HU.out.setCell (p := ⟨w.heap.size, 1, none⟩) (Nat.le_refl _) _).drew)
  have e0 : ((W.setCell ⟨w.heap.size, 1, none⟩ (.int .i64 (y.toNat : Int))).drew).cell? ⟨w.heap.size, 0, none⟩ = some (.int .i64 2) := by go_simp
  have e1 : ((W.setCell ⟨w.heap.size, 1, none⟩ (.int .i64 (y.toNat : Int))).drew).cell? ⟨w.heap.size, 1, none⟩ = some (.int .i64 (y.toNat : Int)) := by go_simp
  have e2 : ((W.setCell ⟨w.heap.size, 1, none⟩ (.int .i64 (y.toNat : Int))).drew).cell? ⟨w.heap.size, 2, none⟩ = some (.string ⟨#[]⟩) := by go_simp
  have e3 : ((W.setCell ⟨w.heap.size, 1, none⟩ (.int .i64 (y.toNat : Int))).drew).cell? ⟨w.heap.size, 3, none⟩ = some (.float .f64 0) := by go_simp
  have g0 : ((W.setCell ⟨w.heap.size, 1, none⟩ (.int .i64 (y.toNat : Int))).drew).frozen? ⟨w.heap.size, 0, none⟩ = false := by go_simp
  have g1 : ((W.setCell ⟨w.heap.size, 1, none⟩ (.int .i64 (y.toNat : Int))).drew).frozen? ⟨w.heap.size, 1, none⟩ = false := by go_simp
  have g2 : ((W.setCell ⟨w.heap.size, 1, none⟩ (.int .i64 (y.toNat : Int))).drew).frozen? ⟨w.heap.size, 2, none⟩ = false := by go_simp
  have g3 : ((W.setCell ⟨w.heap.size, 1, none⟩ (.int .i64 (y.toNat : Int))).drew).frozen? ⟨w.heap.size, 3, none⟩ = false := by go_simp
  have hsv : w.heap.size < ((W.setCell ⟨w.heap.size, 1, none⟩ (.int .i64 (y.toNat : Int))).drew).heap.size := by simpa using hsz
  generalize (W.setCell ⟨w.heap.size, 1, none⟩ (.int .i64 (y.toNat : Int))).drew = V at HUV e0 e1 e2 e3 g0 g1 g2 g3 hsv ⊢
  clear d0 d1 d2 d3 f0 f1 f2 f3 HU hsz
  have hisb : isB (2, (y.toNat : Int), ⟨#[]⟩, 0) = false := by
    simp [isB]
    omega
  go_region_with (go_at_call 17; refine (vis_calls _ _ _ _ _).mono ?_; rintro _ w2 ⟨rfl, hu2⟩; have c0 := hu2.cell (p := ⟨w.heap.size, 0, none⟩) (v := .int .i64 2) (by go_simp); have c1 := hu2.cell (p := ⟨w.heap.size, 1, none⟩) (v := .int .i64 (y.toNat : Int)) (by go_simp); have c2 := hu2.cell (p := ⟨w.heap.size, 2, none⟩) (v := .string ⟨#[]⟩) (by go_simp); have c3 := hu2.cell (p := ⟨w.heap.size, 3, none⟩) (v := .float .f64 0) (by go_simp); have k0 := (hu2.frozen (p := ⟨w.heap.size, 0, none⟩) (by simpa using hsv)).trans (by go_simp : _ = false); have k1 := (hu2.frozen (p := ⟨w.heap.size, 1, none⟩) (by simpa using hsv)).trans (by go_simp : _ = false); have k2 := (hu2.frozen (p := ⟨w.heap.size, 2, none⟩) (by simpa using hsv)).trans (by go_simp : _ = false); have k3 := (hu2.frozen (p := ⟨w.heap.size, 3, none⟩) (by simpa using hsv)).trans (by go_simp : _ = false))
  all_goals (replace HUV := hide (HUV.out.drew.trans hu2); clear hu2 e0 e1 e2 e3 g0 g1 g2 g3)
  all_goals go_wp2
  all_goals refine bodyPost_ret (v := .tuple #[.agg #[.int .i64 2, .int .i64 (y.toNat : Int), .string ⟨#[]⟩, .float .f64 0], .slice (some ⟨b, off + 1, none⟩) 0 0, .bool false]) (by simp [results, Try.results22, go_sem, c0, c1, c2, c3]) rfl ⟨?_, (2, (y.toNat : Int), ⟨#[]⟩, 0), _, rfl⟩
  all_goals exact (((HUV.out.setCell (p := ⟨w.heap.size, 0, none⟩) (Nat.le_refl _) _).setCell (p := ⟨w.heap.size, 1, none⟩) (Nat.le_refl _) _).setCell (p := ⟨w.heap.size, 2, none⟩) (Nat.le_refl _) _).setCell (p := ⟨w.heap.size, 3, none⟩) (Nat.le_refl _) _


end Go.Proofs.Ytlhaohioolagoaa
