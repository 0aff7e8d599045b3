/-
  takeValue of package code: numbers.
-/
import Derived.Test.YtlhaohioolagoaaCodeTakeV
import Derived.RegionTactic
import Derived.BigRegion
namespace Go.Proofs.Ytlhaohioolagoaa
open Go.ChangeShapes Go.WideShapes Go.ChangeAt Go.RowKit
attribute [local go_sem ↓] Go.wp_at_zero Go.wp_at_succ
attribute [local go_sem] run_store_float
set_option linter.unusedVariables false

set_option maxHeartbeats 4000000 in
theorem tv_int (b off n c : Nat) (l : List UInt8) (w0 w : World) (hu0 : Up w0 w) (hn : n ≤ 1000000) (h0 : 0 < n) (hc1 : ¬ c = 1) (hc : n ≤ c) (hm : c ≤ maxLen) (hl : l.length = n) (hx : ∀ i, i < n → w0.cell? ⟨b, off + i, none⟩ = some (.int .u8 ((l.getD i 0).toNat : Int))) (z : Int) (hk : l.getD 0 0 = 1) (h8 : 8 ≤ (l.drop 1).length) (hz : wrap64 (IntKind.u64.wrap ((numL ((l.drop 1).take 8) : Int) - 9223372036854775808)) = z) :
    Calls Try.prog 22 #[.slice (some ⟨b, off, none⟩) n c] w fun e w' => TookPost w0 w (1, z, ⟨#[]⟩, 0) ((l.drop 1).drop 8) e w' := by
  have hcell : w.cell? ⟨b, off, none⟩ = some (.int .u8 1) := by
    have := hu0.cell (hx 0 (by omega))
    rw [hk] at this
    exact this
  have hlt : b < w.heap.size := World.block_lt_of_cell? w _ hcell
  have i0 : (0 : Int) < (n : Int) := by omega
  have i1 : (1 : Int) ≤ (n : Int) := by omega
  have hsl := hide (sl_drop hl hc hm hx 1)
  have LL : Hid ((l.drop 1).length ≤ 1000000) := hide (by rw [List.length_drop]; omega)
  obtain ⟨m, hm2⟩ : ∃ m, m = l.drop 1 := ⟨_, rfl⟩
  rw [← hm2] at hsl LL h8 hz ⊢
  clear hx hl hm2 hm hn h0 hc
  go_enter Try.func22, Try.ntmps22
  go_wp2_with fail
  go_region
  go_wp2_with fail
  generalize hR : Value.slice (some { block := b, off := off + 1 }) (n - 1) (c - 1) = R at hsl ⊢
  obtain ⟨W, hW⟩ : ∃ W, (w.alloc (.cells #[.int .i64 1, .int .i64 0, .string ⟨#[]⟩, .float .f64 0] 41)).drew = W := ⟨_, rfl⟩
  have hb : W.heap[w.heap.size]? = some (.cells #[.int .i64 1, .int .i64 0, .string ⟨#[]⟩, .float .f64 0] 41 (0, 0)) := by subst hW; exact heap_alloc_new w _
  have hu : Up w W := by subst hW; exact ((Up.refl _).alloc _).drew
  rw [hW]
  clear hW hlt hcell hR i0 i1
  go_at_call 32
  refine (takeWord_calls R m w0 W (hu0.trans hu) hsl.out).mono ?_
  rintro _ w1 ⟨hu1, ⟨_, v1, rfl, hs1⟩ | ⟨h, _⟩⟩
  case inr => omega
  replace hs1 := hide hs1
  have HU := hide (hu.trans hu1)
  have hb1 := hu1.heap hb
  have hsz : w.heap.size < w1.heap.size := Nat.lt_of_lt_of_le (World.block_lt_of_cell? W ⟨w.heap.size, 0, none⟩ (cell_of_block hb)) hu1.size
  have d0 : w1.cell? ⟨w.heap.size, 0, none⟩ = some (.int .i64 1) := cell_of_block hb1
  have d1 : w1.cell? ⟨w.heap.size, 1, none⟩ = some (.int .i64 0) := cell_of_block hb1
  have d2 : w1.cell? ⟨w.heap.size, 2, none⟩ = some (.string ⟨#[]⟩) := cell_of_block hb1
  have d3 : w1.cell? ⟨w.heap.size, 3, none⟩ = some (.float .f64 0) := cell_of_block hb1
  have f0 : w1.frozen? ⟨w.heap.size, 0, none⟩ = false := frozen_of_block hb1
  have f1 : w1.frozen? ⟨w.heap.size, 1, none⟩ = false := frozen_of_block hb1
  have f2 : w1.frozen? ⟨w.heap.size, 2, none⟩ = false := frozen_of_block hb1
  have f3 : w1.frozen? ⟨w.heap.size, 3, none⟩ = false := frozen_of_block hb1
  clear hu hu1 hb hb1 hsl
  go_wp2_with fail
  have HUV : Hid (Up w (w1.setCell ⟨w.heap.size, 1, none⟩ (.int .i64 z))) := hide (HU.out.setCell (p := ⟨w.heap.size, 1, none⟩) (Nat.le_refl _) (.int .i64 z))
  have e0 : (w1.setCell ⟨w.heap.size, 1, none⟩ (.int .i64 z)).cell? ⟨w.heap.size, 0, none⟩ = some (.int .i64 1) := by go_simp
  have e1 : (w1.setCell ⟨w.heap.size, 1, none⟩ (.int .i64 z)).cell? ⟨w.heap.size, 1, none⟩ = some (.int .i64 z) := by go_simp
  have e2 : (w1.setCell ⟨w.heap.size, 1, none⟩ (.int .i64 z)).cell? ⟨w.heap.size, 2, none⟩ = some (.string ⟨#[]⟩) := by go_simp
  have e3 : (w1.setCell ⟨w.heap.size, 1, none⟩ (.int .i64 z)).cell? ⟨w.heap.size, 3, none⟩ = some (.float .f64 0) := by go_simp
  have g0 : (w1.setCell ⟨w.heap.size, 1, none⟩ (.int .i64 z)).frozen? ⟨w.heap.size, 0, none⟩ = false := by go_simp
  have g1 : (w1.setCell ⟨w.heap.size, 1, none⟩ (.int .i64 z)).frozen? ⟨w.heap.size, 1, none⟩ = false := by go_simp
  have g2 : (w1.setCell ⟨w.heap.size, 1, none⟩ (.int .i64 z)).frozen? ⟨w.heap.size, 2, none⟩ = false := by go_simp
  have g3 : (w1.setCell ⟨w.heap.size, 1, none⟩ (.int .i64 z)).frozen? ⟨w.heap.size, 3, none⟩ = false := by go_simp
  have hsv : w.heap.size < (w1.setCell ⟨w.heap.size, 1, none⟩ (.int .i64 z)).heap.size := by simpa using hsz
  generalize w1.setCell ⟨w.heap.size, 1, none⟩ (.int .i64 z) = V at HUV e0 e1 e2 e3 g0 g1 g2 g3 hsv ⊢
  clear d0 d1 d2 d3 f0 f1 f2 f3 HU hsz
  have hisb : isB (1, z, ⟨#[]⟩, 0) = true := by simp [isB]
  go_region_with (go_at_call 17; refine (vis_calls _ _ _ _ _).mono ?_; rintro _ w2 ⟨rfl, hu2⟩; have c0 := hu2.cell (p := ⟨w.heap.size, 0, none⟩) (v := .int .i64 1) (by go_simp); have c1 := hu2.cell (p := ⟨w.heap.size, 1, none⟩) (v := .int .i64 z) (by go_simp); have c2 := hu2.cell (p := ⟨w.heap.size, 2, none⟩) (v := .string ⟨#[]⟩) (by go_simp); have c3 := hu2.cell (p := ⟨w.heap.size, 3, none⟩) (v := .float .f64 0) (by go_simp); have k0 := (hu2.frozen (p := ⟨w.heap.size, 0, none⟩) (by simpa using hsv)).trans (by go_simp : _ = false); have k1 := (hu2.frozen (p := ⟨w.heap.size, 1, none⟩) (by simpa using hsv)).trans (by go_simp : _ = false); have k2 := (hu2.frozen (p := ⟨w.heap.size, 2, none⟩) (by simpa using hsv)).trans (by go_simp : _ = false); have k3 := (hu2.frozen (p := ⟨w.heap.size, 3, none⟩) (by simpa using hsv)).trans (by go_simp : _ = false))
  all_goals (replace HUV := hide (HUV.out.drew.trans hu2); clear hu2 e0 e1 e2 e3 g0 g1 g2 g3)
  all_goals go_wp2
  all_goals refine bodyPost_ret (v := .tuple #[.agg #[.int .i64 1, .int .i64 z, .string ⟨#[]⟩, .float .f64 0], v1, .bool true]) (by simp [results, Try.results22, go_sem, c0, c1, c2, c3]) rfl ⟨?_, _, rfl, hs1.out⟩
  all_goals exact (((HUV.out.setCell (p := ⟨w.heap.size, 0, none⟩) (Nat.le_refl _) _).setCell (p := ⟨w.heap.size, 1, none⟩) (Nat.le_refl _) _).setCell (p := ⟨w.heap.size, 2, none⟩) (Nat.le_refl _) _).setCell (p := ⟨w.heap.size, 3, none⟩) (Nat.le_refl _) _


set_option maxHeartbeats 4000000 in
theorem tv_float (b off n c : Nat) (l : List UInt8) (w0 w : World) (hu0 : Up w0 w) (hn : n ≤ 1000000) (h0 : 0 < n) (hc1 : ¬ c = 1) (hc : n ≤ c) (hm : c ≤ maxLen) (hl : l.length = n) (hx : ∀ i, i < n → w0.cell? ⟨b, off + i, none⟩ = some (.int .u8 ((l.getD i 0).toNat : Int))) (f : Nat) (hk : l.getD 0 0 = 5) (h8 : 8 ≤ (l.drop 1).length) (hf : ofN (numL ((l.drop 1).take 8)) = f) (hlw : numL ((l.drop 1).take 8) < whole) :
    Calls Try.prog 22 #[.slice (some ⟨b, off, none⟩) n c] w fun e w' => TookPost w0 w (5, 0, ⟨#[]⟩, f) ((l.drop 1).drop 8) e w' := by
  have hcell : w.cell? ⟨b, off, none⟩ = some (.int .u8 5) := by
    have := hu0.cell (hx 0 (by omega))
    rw [hk] at this
    exact this
  have hlt : b < w.heap.size := World.block_lt_of_cell? w _ hcell
  have i0 : (0 : Int) < (n : Int) := by omega
  have i1 : (1 : Int) ≤ (n : Int) := by omega
  have hsl := hide (sl_drop hl hc hm hx 1)
  have LL : Hid ((l.drop 1).length ≤ 1000000) := hide (by rw [List.length_drop]; omega)
  obtain ⟨m, hm2⟩ : ∃ m, m = l.drop 1 := ⟨_, rfl⟩
  rw [← hm2] at hsl LL h8 hf hlw ⊢
  clear hx hl hm2 hm hn h0 hc
  go_enter Try.func22, Try.ntmps22
  go_wp2_with fail
  go_region
  go_wp2_with fail
  generalize hR : Value.slice (some { block := b, off := off + 1 }) (n - 1) (c - 1) = R at hsl ⊢
  obtain ⟨W, hW⟩ : ∃ W, (w.alloc (.cells #[.int .i64 5, .int .i64 0, .string ⟨#[]⟩, .float .f64 0] 41)).drew = W := ⟨_, rfl⟩
  have hb : W.heap[w.heap.size]? = some (.cells #[.int .i64 5, .int .i64 0, .string ⟨#[]⟩, .float .f64 0] 41 (0, 0)) := by subst hW; exact heap_alloc_new w _
  have hu : Up w W := by subst hW; exact ((Up.refl _).alloc _).drew
  rw [hW]
  clear hW hlt hcell hR i0 i1
  go_at_call 32
  refine (takeWord_calls R m w0 W (hu0.trans hu) hsl.out).mono ?_
  rintro _ w1 ⟨hu1, ⟨_, v1, rfl, hs1⟩ | ⟨h, _⟩⟩
  case inr => omega
  replace hs1 := hide hs1
  have HU := hide (hu.trans hu1)
  have hb1 := hu1.heap hb
  have hsz : w.heap.size < w1.heap.size := Nat.lt_of_lt_of_le (World.block_lt_of_cell? W ⟨w.heap.size, 0, none⟩ (cell_of_block hb)) hu1.size
  have d0 : w1.cell? ⟨w.heap.size, 0, none⟩ = some (.int .i64 5) := cell_of_block hb1
  have d1 : w1.cell? ⟨w.heap.size, 1, none⟩ = some (.int .i64 0) := cell_of_block hb1
  have d2 : w1.cell? ⟨w.heap.size, 2, none⟩ = some (.string ⟨#[]⟩) := cell_of_block hb1
  have d3 : w1.cell? ⟨w.heap.size, 3, none⟩ = some (.float .f64 0) := cell_of_block hb1
  have f0 : w1.frozen? ⟨w.heap.size, 0, none⟩ = false := frozen_of_block hb1
  have f1 : w1.frozen? ⟨w.heap.size, 1, none⟩ = false := frozen_of_block hb1
  have f2 : w1.frozen? ⟨w.heap.size, 2, none⟩ = false := frozen_of_block hb1
  have f3 : w1.frozen? ⟨w.heap.size, 3, none⟩ = false := frozen_of_block hb1
  clear hu hu1 hb hb1 hsl
  go_wp2_with fail
  go_at_call 34
  refine (of_calls _ hlw _).mono ?_
  rintro _ w2 ⟨rfl, hw2⟩
  obtain rfl : w1 = w2 := hw2.symm
  rw [hf]
  go_wp2_with fail
  have HUV : Hid (Up w (w1.setCell ⟨w.heap.size, 3, none⟩ (.float .f64 f))) := hide (HU.out.setCell (p := ⟨w.heap.size, 3, none⟩) (Nat.le_refl _) (.float .f64 f))
  have e0 : (w1.setCell ⟨w.heap.size, 3, none⟩ (.float .f64 f)).cell? ⟨w.heap.size, 0, none⟩ = some (.int .i64 5) := by go_simp
  have e1 : (w1.setCell ⟨w.heap.size, 3, none⟩ (.float .f64 f)).cell? ⟨w.heap.size, 1, none⟩ = some (.int .i64 0) := by go_simp
  have e2 : (w1.setCell ⟨w.heap.size, 3, none⟩ (.float .f64 f)).cell? ⟨w.heap.size, 2, none⟩ = some (.string ⟨#[]⟩) := by go_simp
  have e3 : (w1.setCell ⟨w.heap.size, 3, none⟩ (.float .f64 f)).cell? ⟨w.heap.size, 3, none⟩ = some (.float .f64 f) := by go_simp
  have g0 : (w1.setCell ⟨w.heap.size, 3, none⟩ (.float .f64 f)).frozen? ⟨w.heap.size, 0, none⟩ = false := by go_simp
  have g1 : (w1.setCell ⟨w.heap.size, 3, none⟩ (.float .f64 f)).frozen? ⟨w.heap.size, 1, none⟩ = false := by go_simp
  have g2 : (w1.setCell ⟨w.heap.size, 3, none⟩ (.float .f64 f)).frozen? ⟨w.heap.size, 2, none⟩ = false := by go_simp
  have g3 : (w1.setCell ⟨w.heap.size, 3, none⟩ (.float .f64 f)).frozen? ⟨w.heap.size, 3, none⟩ = false := by go_simp
  have hsv : w.heap.size < (w1.setCell ⟨w.heap.size, 3, none⟩ (.float .f64 f)).heap.size := by simpa using hsz
  generalize w1.setCell ⟨w.heap.size, 3, none⟩ (.float .f64 f) = V at HUV e0 e1 e2 e3 g0 g1 g2 g3 hsv ⊢
  clear d0 d1 d2 d3 f0 f1 f2 f3 HU hsz
  have hisb : isB (5, 0, ⟨#[]⟩, f) = true := by simp [isB]
  go_region_with (go_at_call 17; refine (vis_calls _ _ _ _ _).mono ?_; rintro _ w2 ⟨rfl, hu2⟩; have c0 := hu2.cell (p := ⟨w.heap.size, 0, none⟩) (v := .int .i64 5) (by go_simp); have c1 := hu2.cell (p := ⟨w.heap.size, 1, none⟩) (v := .int .i64 0) (by go_simp); have c2 := hu2.cell (p := ⟨w.heap.size, 2, none⟩) (v := .string ⟨#[]⟩) (by go_simp); have c3 := hu2.cell (p := ⟨w.heap.size, 3, none⟩) (v := .float .f64 f) (by go_simp); have k0 := (hu2.frozen (p := ⟨w.heap.size, 0, none⟩) (by simpa using hsv)).trans (by go_simp : _ = false); have k1 := (hu2.frozen (p := ⟨w.heap.size, 1, none⟩) (by simpa using hsv)).trans (by go_simp : _ = false); have k2 := (hu2.frozen (p := ⟨w.heap.size, 2, none⟩) (by simpa using hsv)).trans (by go_simp : _ = false); have k3 := (hu2.frozen (p := ⟨w.heap.size, 3, none⟩) (by simpa using hsv)).trans (by go_simp : _ = false))
  all_goals (replace HUV := hide (HUV.out.drew.trans hu2); clear hu2 e0 e1 e2 e3 g0 g1 g2 g3)
  all_goals go_wp2
  all_goals refine bodyPost_ret (v := .tuple #[.agg #[.int .i64 5, .int .i64 0, .string ⟨#[]⟩, .float .f64 f], v1, .bool true]) (by simp [results, Try.results22, go_sem, c0, c1, c2, c3]) rfl ⟨?_, _, rfl, hs1.out⟩
  all_goals exact (((HUV.out.setCell (p := ⟨w.heap.size, 0, none⟩) (Nat.le_refl _) _).setCell (p := ⟨w.heap.size, 1, none⟩) (Nat.le_refl _) _).setCell (p := ⟨w.heap.size, 2, none⟩) (Nat.le_refl _) _).setCell (p := ⟨w.heap.size, 3, none⟩) (Nat.le_refl _) _


set_option maxHeartbeats 4000000 in
theorem tv_short1 (b off n c : Nat) (l : List UInt8) (w0 w : World) (hu0 : Up w0 w) (hn : n ≤ 1000000) (h0 : 0 < n) (hc1 : ¬ c = 1) (hc : n ≤ c) (hm : c ≤ maxLen) (hl : l.length = n) (hx : ∀ i, i < n → w0.cell? ⟨b, off + i, none⟩ = some (.int .u8 ((l.getD i 0).toNat : Int))) (hk : l.getD 0 0 = 1) (h8 : (l.drop 1).length < 8) :
    Calls Try.prog 22 #[.slice (some ⟨b, off, none⟩) n c] w fun e w' => NonePost w e w' := by
  have hcell : w.cell? ⟨b, off, none⟩ = some (.int .u8 1) := by
    have := hu0.cell (hx 0 (by omega))
    rw [hk] at this
    exact this
  have hlt : b < w.heap.size := World.block_lt_of_cell? w _ hcell
  have i0 : (0 : Int) < (n : Int) := by omega
  have i1 : (1 : Int) ≤ (n : Int) := by omega
  have hsl := hide (sl_drop hl hc hm hx 1)
  have LL : Hid ((l.drop 1).length ≤ 1000000) := hide (by rw [List.length_drop]; omega)
  obtain ⟨m, hm2⟩ : ∃ m, m = l.drop 1 := ⟨_, rfl⟩
  rw [← hm2] at hsl LL h8
  clear hx hl hm2 hm hn h0 hc
  go_enter Try.func22, Try.ntmps22
  go_wp2_with fail
  go_region
  go_wp2_with fail
  generalize hR : Value.slice (some { block := b, off := off + 1 }) (n - 1) (c - 1) = R at hsl ⊢
  obtain ⟨W, hW⟩ : ∃ W, (w.alloc (.cells #[.int .i64 1, .int .i64 0, .string ⟨#[]⟩, .float .f64 0] 41)).drew = W := ⟨_, rfl⟩
  have hb : W.heap[w.heap.size]? = some (.cells #[.int .i64 1, .int .i64 0, .string ⟨#[]⟩, .float .f64 0] 41 (0, 0)) := by subst hW; exact heap_alloc_new w _
  have hu : Up w W := by subst hW; exact ((Up.refl _).alloc _).drew
  rw [hW]
  clear hW hlt hcell hR i0 i1
  go_at_call 32
  refine (takeWord_calls R m w0 W (hu0.trans hu) hsl.out).mono ?_
  rintro _ w1 ⟨hu1, ⟨h, _⟩ | ⟨_, rfl⟩⟩
  case inl => omega
  have HU := hide (hu.trans hu1)
  have hb1 := hu1.heap hb
  have hsz : w.heap.size < w1.heap.size := Nat.lt_of_lt_of_le (World.block_lt_of_cell? W ⟨w.heap.size, 0, none⟩ (cell_of_block hb)) hu1.size
  have d0 : w1.cell? ⟨w.heap.size, 0, none⟩ = some (.int .i64 1) := cell_of_block hb1
  have d1 : w1.cell? ⟨w.heap.size, 1, none⟩ = some (.int .i64 0) := cell_of_block hb1
  have d2 : w1.cell? ⟨w.heap.size, 2, none⟩ = some (.string ⟨#[]⟩) := cell_of_block hb1
  have d3 : w1.cell? ⟨w.heap.size, 3, none⟩ = some (.float .f64 0) := cell_of_block hb1
  have f0 : w1.frozen? ⟨w.heap.size, 0, none⟩ = false := frozen_of_block hb1
  have f1 : w1.frozen? ⟨w.heap.size, 1, none⟩ = false := frozen_of_block hb1
  have f2 : w1.frozen? ⟨w.heap.size, 2, none⟩ = false := frozen_of_block hb1
  have f3 : w1.frozen? ⟨w.heap.size, 3, none⟩ = false := frozen_of_block hb1
  clear hu hu1 hb hb1 hsl
  obtain ⟨z, hz⟩ : ∃ z, wrap64 (IntKind.u64.wrap (-9223372036854775808)) = z := ⟨_, rfl⟩
  go_wp2_with fail
  have HUV : Hid (Up w (w1.setCell ⟨w.heap.size, 1, none⟩ (.int .i64 z))) := hide (HU.out.setCell (p := ⟨w.heap.size, 1, none⟩) (Nat.le_refl _) (.int .i64 z))
  have e0 : (w1.setCell ⟨w.heap.size, 1, none⟩ (.int .i64 z)).cell? ⟨w.heap.size, 0, none⟩ = some (.int .i64 1) := by go_simp
  have e1 : (w1.setCell ⟨w.heap.size, 1, none⟩ (.int .i64 z)).cell? ⟨w.heap.size, 1, none⟩ = some (.int .i64 z) := by go_simp
  have e2 : (w1.setCell ⟨w.heap.size, 1, none⟩ (.int .i64 z)).cell? ⟨w.heap.size, 2, none⟩ = some (.string ⟨#[]⟩) := by go_simp
  have e3 : (w1.setCell ⟨w.heap.size, 1, none⟩ (.int .i64 z)).cell? ⟨w.heap.size, 3, none⟩ = some (.float .f64 0) := by go_simp
  have g0 : (w1.setCell ⟨w.heap.size, 1, none⟩ (.int .i64 z)).frozen? ⟨w.heap.size, 0, none⟩ = false := by go_simp
  have g1 : (w1.setCell ⟨w.heap.size, 1, none⟩ (.int .i64 z)).frozen? ⟨w.heap.size, 1, none⟩ = false := by go_simp
  have g2 : (w1.setCell ⟨w.heap.size, 1, none⟩ (.int .i64 z)).frozen? ⟨w.heap.size, 2, none⟩ = false := by go_simp
  have g3 : (w1.setCell ⟨w.heap.size, 1, none⟩ (.int .i64 z)).frozen? ⟨w.heap.size, 3, none⟩ = false := by go_simp
  have hsv : w.heap.size < (w1.setCell ⟨w.heap.size, 1, none⟩ (.int .i64 z)).heap.size := by simpa using hsz
  generalize w1.setCell ⟨w.heap.size, 1, none⟩ (.int .i64 z) = V at HUV e0 e1 e2 e3 g0 g1 g2 g3 hsv ⊢
  clear d0 d1 d2 d3 f0 f1 f2 f3 HU hsz
  go_region
  all_goals go_wp2
  all_goals refine bodyPost_ret (v := .tuple #[.agg #[.int .i64 1, .int .i64 z, .string ⟨#[]⟩, .float .f64 0], .slice none 0 0, .bool false]) (by simp [results, Try.results22, go_sem, e0, e1, e2, e3]) rfl ⟨?_, (1, z, ⟨#[]⟩, 0), _, rfl⟩
  all_goals exact ((((HUV.out.drew.setCell (p := ⟨w.heap.size, 0, none⟩) (Nat.le_refl _) _).setCell (p := ⟨w.heap.size, 1, none⟩) (Nat.le_refl _) _).setCell (p := ⟨w.heap.size, 2, none⟩) (Nat.le_refl _) _).setCell (p := ⟨w.heap.size, 3, none⟩) (Nat.le_refl _) _)


set_option maxHeartbeats 4000000 in
theorem tv_short5 (b off n c : Nat) (l : List UInt8) (w0 w : World) (hu0 : Up w0 w) (hn : n ≤ 1000000) (h0 : 0 < n) (hc1 : ¬ c = 1) (hc : n ≤ c) (hm : c ≤ maxLen) (hl : l.length = n) (hx : ∀ i, i < n → w0.cell? ⟨b, off + i, none⟩ = some (.int .u8 ((l.getD i 0).toNat : Int))) (hk : l.getD 0 0 = 5) (h8 : (l.drop 1).length < 8) :
    Calls Try.prog 22 #[.slice (some ⟨b, off, none⟩) n c] w fun e w' => NonePost w e w' := by
  have hcell : w.cell? ⟨b, off, none⟩ = some (.int .u8 5) := by
    have := hu0.cell (hx 0 (by omega))
    rw [hk] at this
    exact this
  have hlt : b < w.heap.size := World.block_lt_of_cell? w _ hcell
  have i0 : (0 : Int) < (n : Int) := by omega
  have i1 : (1 : Int) ≤ (n : Int) := by omega
  have hsl := hide (sl_drop hl hc hm hx 1)
  have LL : Hid ((l.drop 1).length ≤ 1000000) := hide (by rw [List.length_drop]; omega)
  obtain ⟨m, hm2⟩ : ∃ m, m = l.drop 1 := ⟨_, rfl⟩
  rw [← hm2] at hsl LL h8
  clear hx hl hm2 hm hn h0 hc
  go_enter Try.func22, Try.ntmps22
  go_wp2_with fail
  go_region
  go_wp2_with fail
  generalize hR : Value.slice (some { block := b, off := off + 1 }) (n - 1) (c - 1) = R at hsl ⊢
  obtain ⟨W, hW⟩ : ∃ W, (w.alloc (.cells #[.int .i64 5, .int .i64 0, .string ⟨#[]⟩, .float .f64 0] 41)).drew = W := ⟨_, rfl⟩
  have hb : W.heap[w.heap.size]? = some (.cells #[.int .i64 5, .int .i64 0, .string ⟨#[]⟩, .float .f64 0] 41 (0, 0)) := by subst hW; exact heap_alloc_new w _
  have hu : Up w W := by subst hW; exact ((Up.refl _).alloc _).drew
  rw [hW]
  clear hW hlt hcell hR i0 i1
  go_at_call 32
  refine (takeWord_calls R m w0 W (hu0.trans hu) hsl.out).mono ?_
  rintro _ w1 ⟨hu1, ⟨h, _⟩ | ⟨_, rfl⟩⟩
  case inl => omega
  have HU := hide (hu.trans hu1)
  have hb1 := hu1.heap hb
  have hsz : w.heap.size < w1.heap.size := Nat.lt_of_lt_of_le (World.block_lt_of_cell? W ⟨w.heap.size, 0, none⟩ (cell_of_block hb)) hu1.size
  have d0 : w1.cell? ⟨w.heap.size, 0, none⟩ = some (.int .i64 5) := cell_of_block hb1
  have d1 : w1.cell? ⟨w.heap.size, 1, none⟩ = some (.int .i64 0) := cell_of_block hb1
  have d2 : w1.cell? ⟨w.heap.size, 2, none⟩ = some (.string ⟨#[]⟩) := cell_of_block hb1
  have d3 : w1.cell? ⟨w.heap.size, 3, none⟩ = some (.float .f64 0) := cell_of_block hb1
  have f0 : w1.frozen? ⟨w.heap.size, 0, none⟩ = false := frozen_of_block hb1
  have f1 : w1.frozen? ⟨w.heap.size, 1, none⟩ = false := frozen_of_block hb1
  have f2 : w1.frozen? ⟨w.heap.size, 2, none⟩ = false := frozen_of_block hb1
  have f3 : w1.frozen? ⟨w.heap.size, 3, none⟩ = false := frozen_of_block hb1
  clear hu hu1 hb hb1 hsl
  go_wp2_with fail
  go_at_call 34
  refine (of_calls 0 (by unfold whole; omega) _).mono ?_
  rintro _ w2 ⟨rfl, hw2⟩
  obtain rfl : w1 = w2 := hw2.symm
  go_wp2_with fail
  have HUV : Hid (Up w (w1.setCell ⟨w.heap.size, 3, none⟩ (.float .f64 (ofN 0)))) := hide (HU.out.setCell (p := ⟨w.heap.size, 3, none⟩) (Nat.le_refl _) (.float .f64 (ofN 0)))
  have e0 : (w1.setCell ⟨w.heap.size, 3, none⟩ (.float .f64 (ofN 0))).cell? ⟨w.heap.size, 0, none⟩ = some (.int .i64 5) := by go_simp
  have e1 : (w1.setCell ⟨w.heap.size, 3, none⟩ (.float .f64 (ofN 0))).cell? ⟨w.heap.size, 1, none⟩ = some (.int .i64 0) := by go_simp
  have e2 : (w1.setCell ⟨w.heap.size, 3, none⟩ (.float .f64 (ofN 0))).cell? ⟨w.heap.size, 2, none⟩ = some (.string ⟨#[]⟩) := by go_simp
  have e3 : (w1.setCell ⟨w.heap.size, 3, none⟩ (.float .f64 (ofN 0))).cell? ⟨w.heap.size, 3, none⟩ = some (.float .f64 (ofN 0)) := by go_simp
  have g0 : (w1.setCell ⟨w.heap.size, 3, none⟩ (.float .f64 (ofN 0))).frozen? ⟨w.heap.size, 0, none⟩ = false := by go_simp
  have g1 : (w1.setCell ⟨w.heap.size, 3, none⟩ (.float .f64 (ofN 0))).frozen? ⟨w.heap.size, 1, none⟩ = false := by go_simp
  have g2 : (w1.setCell ⟨w.heap.size, 3, none⟩ (.float .f64 (ofN 0))).frozen? ⟨w.heap.size, 2, none⟩ = false := by go_simp
  have g3 : (w1.setCell ⟨w.heap.size, 3, none⟩ (.float .f64 (ofN 0))).frozen? ⟨w.heap.size, 3, none⟩ = false := by go_simp
  have hsv : w.heap.size < (w1.setCell ⟨w.heap.size, 3, none⟩ (.float .f64 (ofN 0))).heap.size := by simpa using hsz
  generalize w1.setCell ⟨w.heap.size, 3, none⟩ (.float .f64 (ofN 0)) = V at HUV e0 e1 e2 e3 g0 g1 g2 g3 hsv ⊢
  clear d0 d1 d2 d3 f0 f1 f2 f3 HU hsz
  go_region
  all_goals go_wp2
  all_goals refine bodyPost_ret (v := .tuple #[.agg #[.int .i64 5, .int .i64 0, .string ⟨#[]⟩, .float .f64 (ofN 0)], .slice none 0 0, .bool false]) (by simp [results, Try.results22, go_sem, e0, e1, e2, e3]) rfl ⟨?_, (5, 0, ⟨#[]⟩, ofN 0), _, rfl⟩
  all_goals exact ((((HUV.out.drew.setCell (p := ⟨w.heap.size, 0, none⟩) (Nat.le_refl _) _).setCell (p := ⟨w.heap.size, 1, none⟩) (Nat.le_refl _) _).setCell (p := ⟨w.heap.size, 2, none⟩) (Nat.le_refl _) _).setCell (p := ⟨w.heap.size, 3, none⟩) (Nat.le_refl _) _)


set_option maxHeartbeats 4000000 in
theorem tv_short11 (b off : Nat) (w0 w : World) (hu0 : Up w0 w) (hx : w.cell? ⟨b, off, none⟩ = some (.int .u8 1))   :
    Calls Try.prog 22 #[.slice (some ⟨b, off, none⟩) 1 1] w fun e w' => NonePost w e w' := by
  have h8 : ([] : List UInt8).length < 8 := by decide
  have hcell := hx
  have hlt : b < w.heap.size := World.block_lt_of_cell? w _ hcell
  have hsl : Hid (Sl w0 (.slice (some ⟨b, off, none⟩) 0 0) []) := hide ⟨_, _, rfl, Nat.le_refl _, Nat.zero_le _, rfl, .inl rfl⟩
  obtain ⟨m, hm2⟩ : ∃ m : List UInt8, m = [] := ⟨_, rfl⟩
  have LL : Hid (m.length ≤ 1000000) := hide (by rw [hm2]; exact Nat.zero_le _)
  rw [← hm2] at hsl h8
  clear hx
  go_enter Try.func22, Try.ntmps22
  go_wp2_with fail
  go_region
  go_wp2_with fail
  generalize hR : Value.slice (some { block := b, off := off }) 0 0 = R at hsl ⊢
  obtain ⟨W, hW⟩ : ∃ W, (w.alloc (.cells #[.int .i64 1, .int .i64 0, .string ⟨#[]⟩, .float .f64 0] 41)).drew = W := ⟨_, rfl⟩
  have hb : W.heap[w.heap.size]? = some (.cells #[.int .i64 1, .int .i64 0, .string ⟨#[]⟩, .float .f64 0] 41 (0, 0)) := by subst hW; exact heap_alloc_new w _
  have hu : Up w W := by subst hW; exact ((Up.refl _).alloc _).drew
  rw [hW]
  clear hW hlt hcell hR
  go_at_call 32
  refine (takeWord_calls R m w0 W (hu0.trans hu) hsl.out).mono ?_
  rintro _ w1 ⟨hu1, ⟨h, _⟩ | ⟨_, rfl⟩⟩
  case inl => omega
  have HU := hide (hu.trans hu1)
  have hb1 := hu1.heap hb
  have hsz : w.heap.size < w1.heap.size := Nat.lt_of_lt_of_le (World.block_lt_of_cell? W ⟨w.heap.size, 0, none⟩ (cell_of_block hb)) hu1.size
  have d0 : w1.cell? ⟨w.heap.size, 0, none⟩ = some (.int .i64 1) := cell_of_block hb1
  have d1 : w1.cell? ⟨w.heap.size, 1, none⟩ = some (.int .i64 0) := cell_of_block hb1
  have d2 : w1.cell? ⟨w.heap.size, 2, none⟩ = some (.string ⟨#[]⟩) := cell_of_block hb1
  have d3 : w1.cell? ⟨w.heap.size, 3, none⟩ = some (.float .f64 0) := cell_of_block hb1
  have f0 : w1.frozen? ⟨w.heap.size, 0, none⟩ = false := frozen_of_block hb1
  have f1 : w1.frozen? ⟨w.heap.size, 1, none⟩ = false := frozen_of_block hb1
  have f2 : w1.frozen? ⟨w.heap.size, 2, none⟩ = false := frozen_of_block hb1
  have f3 : w1.frozen? ⟨w.heap.size, 3, none⟩ = false := frozen_of_block hb1
  clear hu hu1 hb hb1 hsl
  obtain ⟨z, hz⟩ : ∃ z, wrap64 (IntKind.u64.wrap (-9223372036854775808)) = z := ⟨_, rfl⟩
  go_wp2_with fail
  have HUV : Hid (Up w (w1.setCell ⟨w.heap.size, 1, none⟩ (.int .i64 z))) := hide (HU.out.setCell (p := ⟨w.heap.size, 1, none⟩) (Nat.le_refl _) (.int .i64 z))
  have e0 : (w1.setCell ⟨w.heap.size, 1, none⟩ (.int .i64 z)).cell? ⟨w.heap.size, 0, none⟩ = some (.int .i64 1) := by go_simp
  have e1 : (w1.setCell ⟨w.heap.size, 1, none⟩ (.int .i64 z)).cell? ⟨w.heap.size, 1, none⟩ = some (.int .i64 z) := by go_simp
  have e2 : (w1.setCell ⟨w.heap.size, 1, none⟩ (.int .i64 z)).cell? ⟨w.heap.size, 2, none⟩ = some (.string ⟨#[]⟩) := by go_simp
  have e3 : (w1.setCell ⟨w.heap.size, 1, none⟩ (.int .i64 z)).cell? ⟨w.heap.size, 3, none⟩ = some (.float .f64 0) := by go_simp
  have g0 : (w1.setCell ⟨w.heap.size, 1, none⟩ (.int .i64 z)).frozen? ⟨w.heap.size, 0, none⟩ = false := by go_simp
  have g1 : (w1.setCell ⟨w.heap.size, 1, none⟩ (.int .i64 z)).frozen? ⟨w.heap.size, 1, none⟩ = false := by go_simp
  have g2 : (w1.setCell ⟨w.heap.size, 1, none⟩ (.int .i64 z)).frozen? ⟨w.heap.size, 2, none⟩ = false := by go_simp
  have g3 : (w1.setCell ⟨w.heap.size, 1, none⟩ (.int .i64 z)).frozen? ⟨w.heap.size, 3, none⟩ = false := by go_simp
  have hsv : w.heap.size < (w1.setCell ⟨w.heap.size, 1, none⟩ (.int .i64 z)).heap.size := by simpa using hsz
  generalize w1.setCell ⟨w.heap.size, 1, none⟩ (.int .i64 z) = V at HUV e0 e1 e2 e3 g0 g1 g2 g3 hsv ⊢
  clear d0 d1 d2 d3 f0 f1 f2 f3 HU hsz
  go_region
  all_goals go_wp2
  all_goals refine bodyPost_ret (v := .tuple #[.agg #[.int .i64 1, .int .i64 z, .string ⟨#[]⟩, .float .f64 0], .slice none 0 0, .bool false]) (by simp [results, Try.results22, go_sem, e0, e1, e2, e3]) rfl ⟨?_, (1, z, ⟨#[]⟩, 0), _, rfl⟩
  all_goals exact ((((HUV.out.drew.setCell (p := ⟨w.heap.size, 0, none⟩) (Nat.le_refl _) _).setCell (p := ⟨w.heap.size, 1, none⟩) (Nat.le_refl _) _).setCell (p := ⟨w.heap.size, 2, none⟩) (Nat.le_refl _) _).setCell (p := ⟨w.heap.size, 3, none⟩) (Nat.le_refl _) _)


set_option maxHeartbeats 4000000 in
theorem tv_short51 (b off : Nat) (w0 w : World) (hu0 : Up w0 w) (hx : w.cell? ⟨b, off, none⟩ = some (.int .u8 5))   :
    Calls Try.prog 22 #[.slice (some ⟨b, off, none⟩) 1 1] w fun e w' => NonePost w e w' := by
  have h8 : ([] : List UInt8).length < 8 := by decide
  have hcell := hx
  have hlt : b < w.heap.size := World.block_lt_of_cell? w _ hcell
  have hsl : Hid (Sl w0 (.slice (some ⟨b, off, none⟩) 0 0) []) := hide ⟨_, _, rfl, Nat.le_refl _, Nat.zero_le _, rfl, .inl rfl⟩
  obtain ⟨m, hm2⟩ : ∃ m : List UInt8, m = [] := ⟨_, rfl⟩
  have LL : Hid (m.length ≤ 1000000) := hide (by rw [hm2]; exact Nat.zero_le _)
  rw [← hm2] at hsl h8
  clear hx
  go_enter Try.func22, Try.ntmps22
  go_wp2_with fail
  go_region
  go_wp2_with fail
  generalize hR : Value.slice (some { block := b, off := off }) 0 0 = R at hsl ⊢
  obtain ⟨W, hW⟩ : ∃ W, (w.alloc (.cells #[.int .i64 5, .int .i64 0, .string ⟨#[]⟩, .float .f64 0] 41)).drew = W := ⟨_, rfl⟩
  have hb : W.heap[w.heap.size]? = some (.cells #[.int .i64 5, .int .i64 0, .string ⟨#[]⟩, .float .f64 0] 41 (0, 0)) := by subst hW; exact heap_alloc_new w _
  have hu : Up w W := by subst hW; exact ((Up.refl _).alloc _).drew
  rw [hW]
  clear hW hlt hcell hR
  go_at_call 32
  refine (takeWord_calls R m w0 W (hu0.trans hu) hsl.out).mono ?_
  rintro _ w1 ⟨hu1, ⟨h, _⟩ | ⟨_, rfl⟩⟩
  case inl => omega
  have HU := hide (hu.trans hu1)
  have hb1 := hu1.heap hb
  have hsz : w.heap.size < w1.heap.size := Nat.lt_of_lt_of_le (World.block_lt_of_cell? W ⟨w.heap.size, 0, none⟩ (cell_of_block hb)) hu1.size
  have d0 : w1.cell? ⟨w.heap.size, 0, none⟩ = some (.int .i64 5) := cell_of_block hb1
  have d1 : w1.cell? ⟨w.heap.size, 1, none⟩ = some (.int .i64 0) := cell_of_block hb1
  have d2 : w1.cell? ⟨w.heap.size, 2, none⟩ = some (.string ⟨#[]⟩) := cell_of_block hb1
  have d3 : w1.cell? ⟨w.heap.size, 3, none⟩ = some (.float .f64 0) := cell_of_block hb1
  have f0 : w1.frozen? ⟨w.heap.size, 0, none⟩ = false := frozen_of_block hb1
  have f1 : w1.frozen? ⟨w.heap.size, 1, none⟩ = false := frozen_of_block hb1
  have f2 : w1.frozen? ⟨w.heap.size, 2, none⟩ = false := frozen_of_block hb1
  have f3 : w1.frozen? ⟨w.heap.size, 3, none⟩ = false := frozen_of_block hb1
  clear hu hu1 hb hb1 hsl
  go_wp2_with fail
  go_at_call 34
  refine (of_calls 0 (by unfold whole; omega) _).mono ?_
  rintro _ w2 ⟨rfl, hw2⟩
  obtain rfl : w1 = w2 := hw2.symm
  go_wp2_with fail
  have HUV : Hid (Up w (w1.setCell ⟨w.heap.size, 3, none⟩ (.float .f64 (ofN 0)))) := hide (HU.out.setCell (p := ⟨w.heap.size, 3, none⟩) (Nat.le_refl _) (.float .f64 (ofN 0)))
  have e0 : (w1.setCell ⟨w.heap.size, 3, none⟩ (.float .f64 (ofN 0))).cell? ⟨w.heap.size, 0, none⟩ = some (.int .i64 5) := by go_simp
  have e1 : (w1.setCell ⟨w.heap.size, 3, none⟩ (.float .f64 (ofN 0))).cell? ⟨w.heap.size, 1, none⟩ = some (.int .i64 0) := by go_simp
  have e2 : (w1.setCell ⟨w.heap.size, 3, none⟩ (.float .f64 (ofN 0))).cell? ⟨w.heap.size, 2, none⟩ = some (.string ⟨#[]⟩) := by go_simp
  have e3 : (w1.setCell ⟨w.heap.size, 3, none⟩ (.float .f64 (ofN 0))).cell? ⟨w.heap.size, 3, none⟩ = some (.float .f64 (ofN 0)) := by go_simp
  have g0 : (w1.setCell ⟨w.heap.size, 3, none⟩ (.float .f64 (ofN 0))).frozen? ⟨w.heap.size, 0, none⟩ = false := by go_simp
  have g1 : (w1.setCell ⟨w.heap.size, 3, none⟩ (.float .f64 (ofN 0))).frozen? ⟨w.heap.size, 1, none⟩ = false := by go_simp
  have g2 : (w1.setCell ⟨w.heap.size, 3, none⟩ (.float .f64 (ofN 0))).frozen? ⟨w.heap.size, 2, none⟩ = false := by go_simp
  have g3 : (w1.setCell ⟨w.heap.size, 3, none⟩ (.float .f64 (ofN 0))).frozen? ⟨w.heap.size, 3, none⟩ = false := by go_simp
  have hsv : w.heap.size < (w1.setCell ⟨w.heap.size, 3, none⟩ (.float .f64 (ofN 0))).heap.size := by simpa using hsz
  generalize w1.setCell ⟨w.heap.size, 3, none⟩ (.float .f64 (ofN 0)) = V at HUV e0 e1 e2 e3 g0 g1 g2 g3 hsv ⊢
  clear d0 d1 d2 d3 f0 f1 f2 f3 HU hsz
  go_region
  all_goals go_wp2
  all_goals refine bodyPost_ret (v := .tuple #[.agg #[.int .i64 5, .int .i64 0, .string ⟨#[]⟩, .float .f64 (ofN 0)], .slice none 0 0, .bool false]) (by simp [results, Try.results22, go_sem, e0, e1, e2, e3]) rfl ⟨?_, (5, 0, ⟨#[]⟩, ofN 0), _, rfl⟩
  all_goals exact ((((HUV.out.drew.setCell (p := ⟨w.heap.size, 0, none⟩) (Nat.le_refl _) _).setCell (p := ⟨w.heap.size, 1, none⟩) (Nat.le_refl _) _).setCell (p := ⟨w.heap.size, 2, none⟩) (Nat.le_refl _) _).setCell (p := ⟨w.heap.size, 3, none⟩) (Nat.le_refl _) _)


end Go.Proofs.Ytlhaohioolagoaa
