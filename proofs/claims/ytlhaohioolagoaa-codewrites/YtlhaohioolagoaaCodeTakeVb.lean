/-
  takeValue of package code: texts.
-/
import Derived.Test.YtlhaohioolagoaaCodeTakeV
import Derived.RegionTactic
import Derived.BigRegion
namespace Go.Proofs.Ytlhaohioolagoaa
open Go.ChangeShapes Go.WideShapes Go.ChangeAt Go.RowKit
attribute [local go_sem ↓] Go.wp_at_zero Go.wp_at_succ
attribute [local go_sem] run_store_float
set_option linter.unusedVariables false

set_option maxHeartbeats 4000000 in
theorem tv_none3 (b off n c : Nat) (l : List UInt8) (w0 w : World) (hu0 : Up w0 w) (hn : n ≤ 1000000) (h0 : 0 < n) (hc1 : ¬ c = 1) (hc : n ≤ c) (hm : c ≤ maxLen) (hl : l.length = n) (hx : ∀ i, i < n → w0.cell? ⟨b, off + i, none⟩ = some (.int .u8 ((l.getD i 0).toNat : Int))) (hk : l.getD 0 0 = 3) (hs : unescL (l.drop 1) = none) :
    Calls Try.prog 22 #[.slice (some ⟨b, off, none⟩) n c] w fun e w' => NonePost w e w' := by
  have hcell : w.cell? ⟨b, off, none⟩ = some (.int .u8 3) := by
    have := hu0.cell (hx 0 (by omega))
    rw [hk] at this
    exact this
  have hlt : b < w.heap.size := World.block_lt_of_cell? w _ hcell
  have i0 : (0 : Int) < (n : Int) := by omega
  have i1 : (1 : Int) ≤ (n : Int) := by omega
  have hsl := hide (sl_drop hl hc hm hx 1)
  have LL : Hid ((l.drop 1).length ≤ 1000000) := hide (by rw [List.length_drop]; omega)
  obtain ⟨m, hm2⟩ : ∃ m, m = l.drop 1 := ⟨_, rfl⟩
  rw [← hm2] at hsl LL hs
  clear hx hl hm2 hm hn h0 hc
  go_enter Try.func22, Try.ntmps22
  go_wp2_with fail
  go_region
  go_wp2_with fail
  generalize hR : Value.slice (some { block := b, off := off + 1 }) (n - 1) (c - 1) = R at hsl ⊢
  obtain ⟨W, hW⟩ : ∃ W, (w.alloc (.cells #[.int .i64 3, .int .i64 0, .string ⟨#[]⟩, .float .f64 0] 41)).drew = W := ⟨_, rfl⟩
  have hb : W.heap[w.heap.size]? = some (.cells #[.int .i64 3, .int .i64 0, .string ⟨#[]⟩, .float .f64 0] 41 (0, 0)) := by subst hW; exact heap_alloc_new w _
  have hu : Up w W := by subst hW; exact ((Up.refl _).alloc _).drew
  rw [hW]
  clear hW hlt hcell hR i0 i1
  go_at_call 33
  refine (takeString_calls R m w0 W (hu0.trans hu) LL.out hsl.out).mono ?_
  rintro _ w1 ⟨hu1, ⟨t, r, v1, ht, _⟩ | ⟨_, rfl⟩⟩
  case inl => rw [hs] at ht; cases ht
  have HU := hide (hu.trans hu1)
  have hb1 := hu1.heap hb
  have hsz : w.heap.size < w1.heap.size := Nat.lt_of_lt_of_le (World.block_lt_of_cell? W ⟨w.heap.size, 0, none⟩ (cell_of_block hb)) hu1.size
  have d0 : w1.cell? ⟨w.heap.size, 0, none⟩ = some (.int .i64 3) := cell_of_block hb1
  have d1 : w1.cell? ⟨w.heap.size, 1, none⟩ = some (.int .i64 0) := cell_of_block hb1
  have d2 : w1.cell? ⟨w.heap.size, 2, none⟩ = some (.string ⟨#[]⟩) := cell_of_block hb1
  have d3 : w1.cell? ⟨w.heap.size, 3, none⟩ = some (.float .f64 0) := cell_of_block hb1
  have f0 : w1.frozen? ⟨w.heap.size, 0, none⟩ = false := frozen_of_block hb1
  have f1 : w1.frozen? ⟨w.heap.size, 1, none⟩ = false := frozen_of_block hb1
  have f2 : w1.frozen? ⟨w.heap.size, 2, none⟩ = false := frozen_of_block hb1
  have f3 : w1.frozen? ⟨w.heap.size, 3, none⟩ = false := frozen_of_block hb1
  clear hu hu1 hb hb1 hsl
  go_wp2_with fail
  have HUV : Hid (Up w (w1.setCell ⟨w.heap.size, 2, none⟩ (.string ⟨#[]⟩))) := hide (HU.out.setCell (p := ⟨w.heap.size, 2, none⟩) (Nat.le_refl _) (.string ⟨#[]⟩))
  have e0 : (w1.setCell ⟨w.heap.size, 2, none⟩ (.string ⟨#[]⟩)).cell? ⟨w.heap.size, 0, none⟩ = some (.int .i64 3) := by go_simp
  have e1 : (w1.setCell ⟨w.heap.size, 2, none⟩ (.string ⟨#[]⟩)).cell? ⟨w.heap.size, 1, none⟩ = some (.int .i64 0) := by go_simp
  have e2 : (w1.setCell ⟨w.heap.size, 2, none⟩ (.string ⟨#[]⟩)).cell? ⟨w.heap.size, 2, none⟩ = some (.string ⟨#[]⟩) := by go_simp
  have e3 : (w1.setCell ⟨w.heap.size, 2, none⟩ (.string ⟨#[]⟩)).cell? ⟨w.heap.size, 3, none⟩ = some (.float .f64 0) := by go_simp
  have g0 : (w1.setCell ⟨w.heap.size, 2, none⟩ (.string ⟨#[]⟩)).frozen? ⟨w.heap.size, 0, none⟩ = false := by go_simp
  have g1 : (w1.setCell ⟨w.heap.size, 2, none⟩ (.string ⟨#[]⟩)).frozen? ⟨w.heap.size, 1, none⟩ = false := by go_simp
  have g2 : (w1.setCell ⟨w.heap.size, 2, none⟩ (.string ⟨#[]⟩)).frozen? ⟨w.heap.size, 2, none⟩ = false := by go_simp
  have g3 : (w1.setCell ⟨w.heap.size, 2, none⟩ (.string ⟨#[]⟩)).frozen? ⟨w.heap.size, 3, none⟩ = false := by go_simp
  have hsv : w.heap.size < (w1.setCell ⟨w.heap.size, 2, none⟩ (.string ⟨#[]⟩)).heap.size := by simpa using hsz
  generalize w1.setCell ⟨w.heap.size, 2, none⟩ (.string ⟨#[]⟩) = V at HUV e0 e1 e2 e3 g0 g1 g2 g3 hsv ⊢
  clear d0 d1 d2 d3 f0 f1 f2 f3 HU hsz
  go_region
  all_goals go_wp2
  all_goals refine bodyPost_ret (v := .tuple #[.agg #[.int .i64 3, .int .i64 0, .string ⟨#[]⟩, .float .f64 0], .slice none 0 0, .bool false]) (by simp [results, Try.results22, go_sem, e0, e1, e2, e3]) rfl ⟨?_, (3, 0, ⟨#[]⟩, 0), _, rfl⟩
  all_goals exact ((((HUV.out.drew.setCell (p := ⟨w.heap.size, 0, none⟩) (Nat.le_refl _) _).setCell (p := ⟨w.heap.size, 1, none⟩) (Nat.le_refl _) _).setCell (p := ⟨w.heap.size, 2, none⟩) (Nat.le_refl _) _).setCell (p := ⟨w.heap.size, 3, none⟩) (Nat.le_refl _) _)


set_option maxHeartbeats 4000000 in
theorem tv_str3 (b off n c : Nat) (l : List UInt8) (w0 w : World) (hu0 : Up w0 w) (hn : n ≤ 1000000) (h0 : 0 < n) (hc1 : ¬ c = 1) (hc : n ≤ c) (hm : c ≤ maxLen) (hl : l.length = n) (hx : ∀ i, i < n → w0.cell? ⟨b, off + i, none⟩ = some (.int .u8 ((l.getD i 0).toNat : Int))) (t r : List UInt8) (hk : l.getD 0 0 = 3) (hs : unescL (l.drop 1) = some (t, r)) (hb60 : t.length ≤ 60) :
    Calls Try.prog 22 #[.slice (some ⟨b, off, none⟩) n c] w fun e w' => TookPost w0 w (3, 0, ⟨t.toArray⟩, 0) r e w' := by
  have hcell : w.cell? ⟨b, off, none⟩ = some (.int .u8 3) := by
    have := hu0.cell (hx 0 (by omega))
    rw [hk] at this
    exact this
  have hlt : b < w.heap.size := World.block_lt_of_cell? w _ hcell
  have i0 : (0 : Int) < (n : Int) := by omega
  have i1 : (1 : Int) ≤ (n : Int) := by omega
  have hsl := hide (sl_drop hl hc hm hx 1)
  have LL : Hid ((l.drop 1).length ≤ 1000000) := hide (by rw [List.length_drop]; omega)
  obtain ⟨m, hm2⟩ : ∃ m, m = l.drop 1 := ⟨_, rfl⟩
  rw [← hm2] at hsl LL hs
  clear hx hl hm2 hm hn h0 hc
  go_enter Try.func22, Try.ntmps22
  go_wp2_with fail
  go_region
  go_wp2_with fail
  generalize hR : Value.slice (some { block := b, off := off + 1 }) (n - 1) (c - 1) = R at hsl ⊢
  obtain ⟨W, hW⟩ : ∃ W, (w.alloc (.cells #[.int .i64 3, .int .i64 0, .string ⟨#[]⟩, .float .f64 0] 41)).drew = W := ⟨_, rfl⟩
  have hb : W.heap[w.heap.size]? = some (.cells #[.int .i64 3, .int .i64 0, .string ⟨#[]⟩, .float .f64 0] 41 (0, 0)) := by subst hW; exact heap_alloc_new w _
  have hu : Up w W := by subst hW; exact ((Up.refl _).alloc _).drew
  rw [hW]
  clear hW hlt hcell hR i0 i1
  go_at_call 33
  refine (takeString_calls R m w0 W (hu0.trans hu) LL.out hsl.out).mono ?_
  rintro _ w1 ⟨hu1, ⟨t2, r2, v1, ht, rfl, hs1⟩ | ⟨ht, _⟩⟩
  case inr => rw [hs] at ht; cases ht
  obtain ⟨rfl, rfl⟩ : t = t2 ∧ r = r2 := by rw [hs] at ht; simpa using ht
  replace hs1 := hide hs1
  clear ht hs
  have HU := hide (hu.trans hu1)
  have hb1 := hu1.heap hb
  have hsz : w.heap.size < w1.heap.size := Nat.lt_of_lt_of_le (World.block_lt_of_cell? W ⟨w.heap.size, 0, none⟩ (cell_of_block hb)) hu1.size
  have d0 : w1.cell? ⟨w.heap.size, 0, none⟩ = some (.int .i64 3) := cell_of_block hb1
  have d1 : w1.cell? ⟨w.heap.size, 1, none⟩ = some (.int .i64 0) := cell_of_block hb1
  have d2 : w1.cell? ⟨w.heap.size, 2, none⟩ = some (.string ⟨#[]⟩) := cell_of_block hb1
  have d3 : w1.cell? ⟨w.heap.size, 3, none⟩ = some (.float .f64 0) := cell_of_block hb1
  have f0 : w1.frozen? ⟨w.heap.size, 0, none⟩ = false := frozen_of_block hb1
  have f1 : w1.frozen? ⟨w.heap.size, 1, none⟩ = false := frozen_of_block hb1
  have f2 : w1.frozen? ⟨w.heap.size, 2, none⟩ = false := frozen_of_block hb1
  have f3 : w1.frozen? ⟨w.heap.size, 3, none⟩ = false := frozen_of_block hb1
  clear hu hu1 hb hb1 hsl
  go_wp2_with fail
  have HUV : Hid (Up w (w1.setCell ⟨w.heap.size, 2, none⟩ (.string ⟨t.toArray⟩))) := hide (HU.out.setCell (p := ⟨w.heap.size, 2, none⟩) (Nat.le_refl _) (.string ⟨t.toArray⟩))
  have e0 : (w1.setCell ⟨w.heap.size, 2, none⟩ (.string ⟨t.toArray⟩)).cell? ⟨w.heap.size, 0, none⟩ = some (.int .i64 3) := by go_simp
  have e1 : (w1.setCell ⟨w.heap.size, 2, none⟩ (.string ⟨t.toArray⟩)).cell? ⟨w.heap.size, 1, none⟩ = some (.int .i64 0) := by go_simp
  have e2 : (w1.setCell ⟨w.heap.size, 2, none⟩ (.string ⟨t.toArray⟩)).cell? ⟨w.heap.size, 2, none⟩ = some (.string ⟨t.toArray⟩) := by go_simp
  have e3 : (w1.setCell ⟨w.heap.size, 2, none⟩ (.string ⟨t.toArray⟩)).cell? ⟨w.heap.size, 3, none⟩ = some (.float .f64 0) := by go_simp
  have g0 : (w1.setCell ⟨w.heap.size, 2, none⟩ (.string ⟨t.toArray⟩)).frozen? ⟨w.heap.size, 0, none⟩ = false := by go_simp
  have g1 : (w1.setCell ⟨w.heap.size, 2, none⟩ (.string ⟨t.toArray⟩)).frozen? ⟨w.heap.size, 1, none⟩ = false := by go_simp
  have g2 : (w1.setCell ⟨w.heap.size, 2, none⟩ (.string ⟨t.toArray⟩)).frozen? ⟨w.heap.size, 2, none⟩ = false := by go_simp
  have g3 : (w1.setCell ⟨w.heap.size, 2, none⟩ (.string ⟨t.toArray⟩)).frozen? ⟨w.heap.size, 3, none⟩ = false := by go_simp
  have hsv : w.heap.size < (w1.setCell ⟨w.heap.size, 2, none⟩ (.string ⟨t.toArray⟩)).heap.size := by simpa using hsz
  generalize w1.setCell ⟨w.heap.size, 2, none⟩ (.string ⟨t.toArray⟩) = V at HUV e0 e1 e2 e3 g0 g1 g2 g3 hsv ⊢
  clear d0 d1 d2 d3 f0 f1 f2 f3 HU hsz
  have hisb : isB (3, 0, ⟨t.toArray⟩, 0) = true := by
    have hq : (⟨t.toArray⟩ : ByteArray).size = t.length := by simp [ByteArray.size]
    simp [isB, hq]; omega
  go_region_with (go_at_call 17; refine (vis_calls _ _ _ _ _).mono ?_; rintro _ w2 ⟨rfl, hu2⟩; have c0 := hu2.cell (p := ⟨w.heap.size, 0, none⟩) (v := .int .i64 3) (by go_simp); have c1 := hu2.cell (p := ⟨w.heap.size, 1, none⟩) (v := .int .i64 0) (by go_simp); have c2 := hu2.cell (p := ⟨w.heap.size, 2, none⟩) (v := .string ⟨t.toArray⟩) (by go_simp); have c3 := hu2.cell (p := ⟨w.heap.size, 3, none⟩) (v := .float .f64 0) (by go_simp); have k0 := (hu2.frozen (p := ⟨w.heap.size, 0, none⟩) (by simpa using hsv)).trans (by go_simp : _ = false); have k1 := (hu2.frozen (p := ⟨w.heap.size, 1, none⟩) (by simpa using hsv)).trans (by go_simp : _ = false); have k2 := (hu2.frozen (p := ⟨w.heap.size, 2, none⟩) (by simpa using hsv)).trans (by go_simp : _ = false); have k3 := (hu2.frozen (p := ⟨w.heap.size, 3, none⟩) (by simpa using hsv)).trans (by go_simp : _ = false))
  all_goals (replace HUV := hide (HUV.out.drew.trans hu2); clear hu2 e0 e1 e2 e3 g0 g1 g2 g3)
  all_goals go_wp2
  all_goals refine bodyPost_ret (v := .tuple #[.agg #[.int .i64 3, .int .i64 0, .string ⟨t.toArray⟩, .float .f64 0], v1, .bool true]) (by simp [results, Try.results22, go_sem, c0, c1, c2, c3]) rfl ⟨?_, _, rfl, hs1.out⟩
  all_goals exact (((HUV.out.setCell (p := ⟨w.heap.size, 0, none⟩) (Nat.le_refl _) _).setCell (p := ⟨w.heap.size, 1, none⟩) (Nat.le_refl _) _).setCell (p := ⟨w.heap.size, 2, none⟩) (Nat.le_refl _) _).setCell (p := ⟨w.heap.size, 3, none⟩) (Nat.le_refl _) _


set_option maxHeartbeats 4000000 in
theorem tv_long3 (b off n c : Nat) (l : List UInt8) (w0 w : World) (hu0 : Up w0 w) (hn : n ≤ 1000000) (h0 : 0 < n) (hc1 : ¬ c = 1) (hc : n ≤ c) (hm : c ≤ maxLen) (hl : l.length = n) (hx : ∀ i, i < n → w0.cell? ⟨b, off + i, none⟩ = some (.int .u8 ((l.getD i 0).toNat : Int))) (t r : List UInt8) (hk : l.getD 0 0 = 3) (hs : unescL (l.drop 1) = some (t, r)) (hb60 : ¬ t.length ≤ 60) :
    Calls Try.prog 22 #[.slice (some ⟨b, off, none⟩) n c] w fun e w' => NonePost w e w' := by
  have hcell : w.cell? ⟨b, off, none⟩ = some (.int .u8 3) := by
    have := hu0.cell (hx 0 (by omega))
    rw [hk] at this
    exact this
  have hlt : b < w.heap.size := World.block_lt_of_cell? w _ hcell
  have i0 : (0 : Int) < (n : Int) := by omega
  have i1 : (1 : Int) ≤ (n : Int) := by omega
  have hsl := hide (sl_drop hl hc hm hx 1)
  have LL : Hid ((l.drop 1).length ≤ 1000000) := hide (by rw [List.length_drop]; omega)
  obtain ⟨m, hm2⟩ : ∃ m, m = l.drop 1 := ⟨_, rfl⟩
  rw [← hm2] at hsl LL hs
  clear hx hl hm2 hm hn h0 hc
  go_enter Try.func22, Try.ntmps22
  go_wp2_with fail
  go_region
  go_wp2_with fail
  generalize hR : Value.slice (some { block := b, off := off + 1 }) (n - 1) (c - 1) = R at hsl ⊢
  obtain ⟨W, hW⟩ : ∃ W, (w.alloc (.cells #[.int .i64 3, .int .i64 0, .string ⟨#[]⟩, .float .f64 0] 41)).drew = W := ⟨_, rfl⟩
  have hb : W.heap[w.heap.size]? = some (.cells #[.int .i64 3, .int .i64 0, .string ⟨#[]⟩, .float .f64 0] 41 (0, 0)) := by subst hW; exact heap_alloc_new w _
  have hu : Up w W := by subst hW; exact ((Up.refl _).alloc _).drew
  rw [hW]
  clear hW hlt hcell hR i0 i1
  go_at_call 33
  refine (takeString_calls R m w0 W (hu0.trans hu) LL.out hsl.out).mono ?_
  rintro _ w1 ⟨hu1, ⟨t2, r2, v1, ht, rfl, hs1⟩ | ⟨ht, _⟩⟩
  case inr => rw [hs] at ht; cases ht
  obtain ⟨rfl, rfl⟩ : t = t2 ∧ r = r2 := by rw [hs] at ht; simpa using ht
  replace hs1 := hide hs1
  clear ht hs
  have HU := hide (hu.trans hu1)
  have hb1 := hu1.heap hb
  have hsz : w.heap.size < w1.heap.size := Nat.lt_of_lt_of_le (World.block_lt_of_cell? W ⟨w.heap.size, 0, none⟩ (cell_of_block hb)) hu1.size
  have d0 : w1.cell? ⟨w.heap.size, 0, none⟩ = some (.int .i64 3) := cell_of_block hb1
  have d1 : w1.cell? ⟨w.heap.size, 1, none⟩ = some (.int .i64 0) := cell_of_block hb1
  have d2 : w1.cell? ⟨w.heap.size, 2, none⟩ = some (.string ⟨#[]⟩) := cell_of_block hb1
  have d3 : w1.cell? ⟨w.heap.size, 3, none⟩ = some (.float .f64 0) := cell_of_block hb1
  have f0 : w1.frozen? ⟨w.heap.size, 0, none⟩ = false := frozen_of_block hb1
  have f1 : w1.frozen? ⟨w.heap.size, 1, none⟩ = false := frozen_of_block hb1
  have f2 : w1.frozen? ⟨w.heap.size, 2, none⟩ = false := frozen_of_block hb1
  have f3 : w1.frozen? ⟨w.heap.size, 3, none⟩ = false := frozen_of_block hb1
  clear hu hu1 hb hb1 hsl
  go_wp2_with fail
  have HUV : Hid (Up w (w1.setCell ⟨w.heap.size, 2, none⟩ (.string ⟨t.toArray⟩))) := hide (HU.out.setCell (p := ⟨w.heap.size, 2, none⟩) (Nat.le_refl _) (.string ⟨t.toArray⟩))
  have e0 : (w1.setCell ⟨w.heap.size, 2, none⟩ (.string ⟨t.toArray⟩)).cell? ⟨w.heap.size, 0, none⟩ = some (.int .i64 3) := by go_simp
  have e1 : (w1.setCell ⟨w.heap.size, 2, none⟩ (.string ⟨t.toArray⟩)).cell? ⟨w.heap.size, 1, none⟩ = some (.int .i64 0) := by go_simp
  have e2 : (w1.setCell ⟨w.heap.size, 2, none⟩ (.string ⟨t.toArray⟩)).cell? ⟨w.heap.size, 2, none⟩ = some (.string ⟨t.toArray⟩) := by go_simp
  have e3 : (w1.setCell ⟨w.heap.size, 2, none⟩ (.string ⟨t.toArray⟩)).cell? ⟨w.heap.size, 3, none⟩ = some (.float .f64 0) := by go_simp
  have g0 : (w1.setCell ⟨w.heap.size, 2, none⟩ (.string ⟨t.toArray⟩)).frozen? ⟨w.heap.size, 0, none⟩ = false := by go_simp
  have g1 : (w1.setCell ⟨w.heap.size, 2, none⟩ (.string ⟨t.toArray⟩)).frozen? ⟨w.heap.size, 1, none⟩ = false := by go_simp
  have g2 : (w1.setCell ⟨w.heap.size, 2, none⟩ (.string ⟨t.toArray⟩)).frozen? ⟨w.heap.size, 2, none⟩ = false := by go_simp
  have g3 : (w1.setCell ⟨w.heap.size, 2, none⟩ (.string ⟨t.toArray⟩)).frozen? ⟨w.heap.size, 3, none⟩ = false := by go_simp
  have hsv : w.heap.size < (w1.setCell ⟨w.heap.size, 2, none⟩ (.string ⟨t.toArray⟩)).heap.size := by simpa using hsz
  generalize w1.setCell ⟨w.heap.size, 2, none⟩ (.string ⟨t.toArray⟩) = V at HUV e0 e1 e2 e3 g0 g1 g2 g3 hsv ⊢
  clear d0 d1 d2 d3 f0 f1 f2 f3 HU hsz
  have hisb : isB (3, 0, ⟨t.toArray⟩, 0) = false := by
    have hq : (⟨t.toArray⟩ : ByteArray).size = t.length := by simp [ByteArray.size]
    simp [isB, hq]; omega
  go_region_with (go_at_call 17; refine (vis_calls _ _ _ _ _).mono ?_; rintro _ w2 ⟨rfl, hu2⟩; have c0 := hu2.cell (p := ⟨w.heap.size, 0, none⟩) (v := .int .i64 3) (by go_simp); have c1 := hu2.cell (p := ⟨w.heap.size, 1, none⟩) (v := .int .i64 0) (by go_simp); have c2 := hu2.cell (p := ⟨w.heap.size, 2, none⟩) (v := .string ⟨t.toArray⟩) (by go_simp); have c3 := hu2.cell (p := ⟨w.heap.size, 3, none⟩) (v := .float .f64 0) (by go_simp); have k0 := (hu2.frozen (p := ⟨w.heap.size, 0, none⟩) (by simpa using hsv)).trans (by go_simp : _ = false); have k1 := (hu2.frozen (p := ⟨w.heap.size, 1, none⟩) (by simpa using hsv)).trans (by go_simp : _ = false); have k2 := (hu2.frozen (p := ⟨w.heap.size, 2, none⟩) (by simpa using hsv)).trans (by go_simp : _ = false); have k3 := (hu2.frozen (p := ⟨w.heap.size, 3, none⟩) (by simpa using hsv)).trans (by go_simp : _ = false))
  all_goals (replace HUV := hide (HUV.out.drew.trans hu2); clear hu2 e0 e1 e2 e3 g0 g1 g2 g3)
  all_goals go_wp2
  all_goals refine bodyPost_ret (v := .tuple #[.agg #[.int .i64 3, .int .i64 0, .string ⟨t.toArray⟩, .float .f64 0], v1, .bool false]) (by simp [results, Try.results22, go_sem, c0, c1, c2, c3]) rfl ⟨?_, (3, 0, ⟨t.toArray⟩, 0), _, rfl⟩
  all_goals exact (((HUV.out.setCell (p := ⟨w.heap.size, 0, none⟩) (Nat.le_refl _) _).setCell (p := ⟨w.heap.size, 1, none⟩) (Nat.le_refl _) _).setCell (p := ⟨w.heap.size, 2, none⟩) (Nat.le_refl _) _).setCell (p := ⟨w.heap.size, 3, none⟩) (Nat.le_refl _) _


set_option maxHeartbeats 4000000 in
theorem tv_none4 (b off n c : Nat) (l : List UInt8) (w0 w : World) (hu0 : Up w0 w) (hn : n ≤ 1000000) (h0 : 0 < n) (hc1 : ¬ c = 1) (hc : n ≤ c) (hm : c ≤ maxLen) (hl : l.length = n) (hx : ∀ i, i < n → w0.cell? ⟨b, off + i, none⟩ = some (.int .u8 ((l.getD i 0).toNat : Int))) (hk : l.getD 0 0 = 4) (hs : unescL (l.drop 1) = none) :
    Calls Try.prog 22 #[.slice (some ⟨b, off, none⟩) n c] w fun e w' => NonePost w e w' := by
  have hcell : w.cell? ⟨b, off, none⟩ = some (.int .u8 4) := by
    have := hu0.cell (hx 0 (by omega))
    rw [hk] at this
    exact this
  have hlt : b < w.heap.size := World.block_lt_of_cell? w _ hcell
  have i0 : (0 : Int) < (n : Int) := by omega
  have i1 : (1 : Int) ≤ (n : Int) := by omega
  have hsl := hide (sl_drop hl hc hm hx 1)
  have LL : Hid ((l.drop 1).length ≤ 1000000) := hide (by rw [List.length_drop]; omega)
  obtain ⟨m, hm2⟩ : ∃ m, m = l.drop 1 := ⟨_, rfl⟩
  rw [← hm2] at hsl LL hs
  clear hx hl hm2 hm hn h0 hc
  go_enter Try.func22, Try.ntmps22
  go_wp2_with fail
  go_region
  go_wp2_with fail
  generalize hR : Value.slice (some { block := b, off := off + 1 }) (n - 1) (c - 1) = R at hsl ⊢
  obtain ⟨W, hW⟩ : ∃ W, (w.alloc (.cells #[.int .i64 4, .int .i64 0, .string ⟨#[]⟩, .float .f64 0] 41)).drew = W := ⟨_, rfl⟩
  have hb : W.heap[w.heap.size]? = some (.cells #[.int .i64 4, .int .i64 0, .string ⟨#[]⟩, .float .f64 0] 41 (0, 0)) := by subst hW; exact heap_alloc_new w _
  have hu : Up w W := by subst hW; exact ((Up.refl _).alloc _).drew
  rw [hW]
  clear hW hlt hcell hR i0 i1
  go_at_call 33
  refine (takeString_calls R m w0 W (hu0.trans hu) LL.out hsl.out).mono ?_
  rintro _ w1 ⟨hu1, ⟨t, r, v1, ht, _⟩ | ⟨_, rfl⟩⟩
  case inl => rw [hs] at ht; cases ht
  have HU := hide (hu.trans hu1)
  have hb1 := hu1.heap hb
  have hsz : w.heap.size < w1.heap.size := Nat.lt_of_lt_of_le (World.block_lt_of_cell? W ⟨w.heap.size, 0, none⟩ (cell_of_block hb)) hu1.size
  have d0 : w1.cell? ⟨w.heap.size, 0, none⟩ = some (.int .i64 4) := cell_of_block hb1
  have d1 : w1.cell? ⟨w.heap.size, 1, none⟩ = some (.int .i64 0) := cell_of_block hb1
  have d2 : w1.cell? ⟨w.heap.size, 2, none⟩ = some (.string ⟨#[]⟩) := cell_of_block hb1
  have d3 : w1.cell? ⟨w.heap.size, 3, none⟩ = some (.float .f64 0) := cell_of_block hb1
  have f0 : w1.frozen? ⟨w.heap.size, 0, none⟩ = false := frozen_of_block hb1
  have f1 : w1.frozen? ⟨w.heap.size, 1, none⟩ = false := frozen_of_block hb1
  have f2 : w1.frozen? ⟨w.heap.size, 2, none⟩ = false := frozen_of_block hb1
  have f3 : w1.frozen? ⟨w.heap.size, 3, none⟩ = false := frozen_of_block hb1
  clear hu hu1 hb hb1 hsl
  go_wp2_with fail
  have HUV : Hid (Up w (w1.setCell ⟨w.heap.size, 2, none⟩ (.string ⟨#[]⟩))) := hide (HU.out.setCell (p := ⟨w.heap.size, 2, none⟩) (Nat.le_refl _) (.string ⟨#[]⟩))
  have e0 : (w1.setCell ⟨w.heap.size, 2, none⟩ (.string ⟨#[]⟩)).cell? ⟨w.heap.size, 0, none⟩ = some (.int .i64 4) := by go_simp
  have e1 : (w1.setCell ⟨w.heap.size, 2, none⟩ (.string ⟨#[]⟩)).cell? ⟨w.heap.size, 1, none⟩ = some (.int .i64 0) := by go_simp
  have e2 : (w1.setCell ⟨w.heap.size, 2, none⟩ (.string ⟨#[]⟩)).cell? ⟨w.heap.size, 2, none⟩ = some (.string ⟨#[]⟩) := by go_simp
  have e3 : (w1.setCell ⟨w.heap.size, 2, none⟩ (.string ⟨#[]⟩)).cell? ⟨w.heap.size, 3, none⟩ = some (.float .f64 0) := by go_simp
  have g0 : (w1.setCell ⟨w.heap.size, 2, none⟩ (.string ⟨#[]⟩)).frozen? ⟨w.heap.size, 0, none⟩ = false := by go_simp
  have g1 : (w1.setCell ⟨w.heap.size, 2, none⟩ (.string ⟨#[]⟩)).frozen? ⟨w.heap.size, 1, none⟩ = false := by go_simp
  have g2 : (w1.setCell ⟨w.heap.size, 2, none⟩ (.string ⟨#[]⟩)).frozen? ⟨w.heap.size, 2, none⟩ = false := by go_simp
  have g3 : (w1.setCell ⟨w.heap.size, 2, none⟩ (.string ⟨#[]⟩)).frozen? ⟨w.heap.size, 3, none⟩ = false := by go_simp
  have hsv : w.heap.size < (w1.setCell ⟨w.heap.size, 2, none⟩ (.string ⟨#[]⟩)).heap.size := by simpa using hsz
  generalize w1.setCell ⟨w.heap.size, 2, none⟩ (.string ⟨#[]⟩) = V at HUV e0 e1 e2 e3 g0 g1 g2 g3 hsv ⊢
  clear d0 d1 d2 d3 f0 f1 f2 f3 HU hsz
  go_region
  all_goals go_wp2
  all_goals refine bodyPost_ret (v := .tuple #[.agg #[.int .i64 4, .int .i64 0, .string ⟨#[]⟩, .float .f64 0], .slice none 0 0, .bool false]) (by simp [results, Try.results22, go_sem, e0, e1, e2, e3]) rfl ⟨?_, (4, 0, ⟨#[]⟩, 0), _, rfl⟩
  all_goals exact ((((HUV.out.drew.setCell (p := ⟨w.heap.size, 0, none⟩) (Nat.le_refl _) _).setCell (p := ⟨w.heap.size, 1, none⟩) (Nat.le_refl _) _).setCell (p := ⟨w.heap.size, 2, none⟩) (Nat.le_refl _) _).setCell (p := ⟨w.heap.size, 3, none⟩) (Nat.le_refl _) _)


set_option maxHeartbeats 4000000 in
theorem tv_str4 (b off n c : Nat) (l : List UInt8) (w0 w : World) (hu0 : Up w0 w) (hn : n ≤ 1000000) (h0 : 0 < n) (hc1 : ¬ c = 1) (hc : n ≤ c) (hm : c ≤ maxLen) (hl : l.length = n) (hx : ∀ i, i < n → w0.cell? ⟨b, off + i, none⟩ = some (.int .u8 ((l.getD i 0).toNat : Int))) (t r : List UInt8) (hk : l.getD 0 0 = 4) (hs : unescL (l.drop 1) = some (t, r)) (hb60 : t.length ≤ 60) :
    Calls Try.prog 22 #[.slice (some ⟨b, off, none⟩) n c] w fun e w' => TookPost w0 w (4, 0, ⟨t.toArray⟩, 0) r e w' := by
  have hcell : w.cell? ⟨b, off, none⟩ = some (.int .u8 4) := by
    have := hu0.cell (hx 0 (by omega))
    rw [hk] at this
    exact this
  have hlt : b < w.heap.size := World.block_lt_of_cell? w _ hcell
  have i0 : (0 : Int) < (n : Int) := by omega
  have i1 : (1 : Int) ≤ (n : Int) := by omega
  have hsl := hide (sl_drop hl hc hm hx 1)
  have LL : Hid ((l.drop 1).length ≤ 1000000) := hide (by rw [List.length_drop]; omega)
  obtain ⟨m, hm2⟩ : ∃ m, m = l.drop 1 := ⟨_, rfl⟩
  rw [← hm2] at hsl LL hs
  clear hx hl hm2 hm hn h0 hc
  go_enter Try.func22, Try.ntmps22
  go_wp2_with fail
  go_region
  go_wp2_with fail
  generalize hR : Value.slice (some { block := b, off := off + 1 }) (n - 1) (c - 1) = R at hsl ⊢
  obtain ⟨W, hW⟩ : ∃ W, (w.alloc (.cells #[.int .i64 4, .int .i64 0, .string ⟨#[]⟩, .float .f64 0] 41)).drew = W := ⟨_, rfl⟩
  have hb : W.heap[w.heap.size]? = some (.cells #[.int .i64 4, .int .i64 0, .string ⟨#[]⟩, .float .f64 0] 41 (0, 0)) := by subst hW; exact heap_alloc_new w _
  have hu : Up w W := by subst hW; exact ((Up.refl _).alloc _).drew
  rw [hW]
  clear hW hlt hcell hR i0 i1
  go_at_call 33
  refine (takeString_calls R m w0 W (hu0.trans hu) LL.out hsl.out).mono ?_
  rintro _ w1 ⟨hu1, ⟨t2, r2, v1, ht, rfl, hs1⟩ | ⟨ht, _⟩⟩
  case inr => rw [hs] at ht; cases ht
  obtain ⟨rfl, rfl⟩ : t = t2 ∧ r = r2 := by rw [hs] at ht; simpa using ht
  replace hs1 := hide hs1
  clear ht hs
  have HU := hide (hu.trans hu1)
  have hb1 := hu1.heap hb
  have hsz : w.heap.size < w1.heap.size := Nat.lt_of_lt_of_le (World.block_lt_of_cell? W ⟨w.heap.size, 0, none⟩ (cell_of_block hb)) hu1.size
  have d0 : w1.cell? ⟨w.heap.size, 0, none⟩ = some (.int .i64 4) := cell_of_block hb1
  have d1 : w1.cell? ⟨w.heap.size, 1, none⟩ = some (.int .i64 0) := cell_of_block hb1
  have d2 : w1.cell? ⟨w.heap.size, 2, none⟩ = some (.string ⟨#[]⟩) := cell_of_block hb1
  have d3 : w1.cell? ⟨w.heap.size, 3, none⟩ = some (.float .f64 0) := cell_of_block hb1
  have f0 : w1.frozen? ⟨w.heap.size, 0, none⟩ = false := frozen_of_block hb1
  have f1 : w1.frozen? ⟨w.heap.size, 1, none⟩ = false := frozen_of_block hb1
  have f2 : w1.frozen? ⟨w.heap.size, 2, none⟩ = false := frozen_of_block hb1
  have f3 : w1.frozen? ⟨w.heap.size, 3, none⟩ = false := frozen_of_block hb1
  clear hu hu1 hb hb1 hsl
  go_wp2_with fail
  have HUV : Hid (Up w (w1.setCell ⟨w.heap.size, 2, none⟩ (.string ⟨t.toArray⟩))) := hide (HU.out.setCell (p := ⟨w.heap.size, 2, none⟩) (Nat.le_refl _) (.string ⟨t.toArray⟩))
  have e0 : (w1.setCell ⟨w.heap.size, 2, none⟩ (.string ⟨t.toArray⟩)).cell? ⟨w.heap.size, 0, none⟩ = some (.int .i64 4) := by go_simp
  have e1 : (w1.setCell ⟨w.heap.size, 2, none⟩ (.string ⟨t.toArray⟩)).cell? ⟨w.heap.size, 1, none⟩ = some (.int .i64 0) := by go_simp
  have e2 : (w1.setCell ⟨w.heap.size, 2, none⟩ (.string ⟨t.toArray⟩)).cell? ⟨w.heap.size, 2, none⟩ = some (.string ⟨t.toArray⟩) := by go_simp
  have e3 : (w1.setCell ⟨w.heap.size, 2, none⟩ (.string ⟨t.toArray⟩)).cell? ⟨w.heap.size, 3, none⟩ = some (.float .f64 0) := by go_simp
  have g0 : (w1.setCell ⟨w.heap.size, 2, none⟩ (.string ⟨t.toArray⟩)).frozen? ⟨w.heap.size, 0, none⟩ = false := by go_simp
  have g1 : (w1.setCell ⟨w.heap.size, 2, none⟩ (.string ⟨t.toArray⟩)).frozen? ⟨w.heap.size, 1, none⟩ = false := by go_simp
  have g2 : (w1.setCell ⟨w.heap.size, 2, none⟩ (.string ⟨t.toArray⟩)).frozen? ⟨w.heap.size, 2, none⟩ = false := by go_simp
  have g3 : (w1.setCell ⟨w.heap.size, 2, none⟩ (.string ⟨t.toArray⟩)).frozen? ⟨w.heap.size, 3, none⟩ = false := by go_simp
  have hsv : w.heap.size < (w1.setCell ⟨w.heap.size, 2, none⟩ (.string ⟨t.toArray⟩)).heap.size := by simpa using hsz
  generalize w1.setCell ⟨w.heap.size, 2, none⟩ (.string ⟨t.toArray⟩) = V at HUV e0 e1 e2 e3 g0 g1 g2 g3 hsv ⊢
  clear d0 d1 d2 d3 f0 f1 f2 f3 HU hsz
  have hisb : isB (4, 0, ⟨t.toArray⟩, 0) = true := by
    have hq : (⟨t.toArray⟩ : ByteArray).size = t.length := by simp [ByteArray.size]
    simp [isB, hq]; omega
  go_region_with (go_at_call 17; refine (vis_calls _ _ _ _ _).mono ?_; rintro _ w2 ⟨rfl, hu2⟩; have c0 := hu2.cell (p := ⟨w.heap.size, 0, none⟩) (v := .int .i64 4) (by go_simp); have c1 := hu2.cell (p := ⟨w.heap.size, 1, none⟩) (v := .int .i64 0) (by go_simp); have c2 := hu2.cell (p := ⟨w.heap.size, 2, none⟩) (v := .string ⟨t.toArray⟩) (by go_simp); have c3 := hu2.cell (p := ⟨w.heap.size, 3, none⟩) (v := .float .f64 0) (by go_simp); have k0 := (hu2.frozen (p := ⟨w.heap.size, 0, none⟩) (by simpa using hsv)).trans (by go_simp : _ = false); have k1 := (hu2.frozen (p := ⟨w.heap.size, 1, none⟩) (by simpa using hsv)).trans (by go_simp : _ = false); have k2 := (hu2.frozen (p := ⟨w.heap.size, 2, none⟩) (by simpa using hsv)).trans (by go_simp : _ = false); have k3 := (hu2.frozen (p := ⟨w.heap.size, 3, none⟩) (by simpa using hsv)).trans (by go_simp : _ = false))
  all_goals (replace HUV := hide (HUV.out.drew.trans hu2); clear hu2 e0 e1 e2 e3 g0 g1 g2 g3)
  all_goals go_wp2
  all_goals refine bodyPost_ret (v := .tuple #[.agg #[.int .i64 4, .int .i64 0, .string ⟨t.toArray⟩, .float .f64 0], v1, .bool true]) (by simp [results, Try.results22, go_sem, c0, c1, c2, c3]) rfl ⟨?_, _, rfl, hs1.out⟩
  all_goals exact (((HUV.out.setCell (p := ⟨w.heap.size, 0, none⟩) (Nat.le_refl _) _).setCell (p := ⟨w.heap.size, 1, none⟩) (Nat.le_refl _) _).setCell (p := ⟨w.heap.size, 2, none⟩) (Nat.le_refl _) _).setCell (p := ⟨w.heap.size, 3, none⟩) (Nat.le_refl _) _


set_option maxHeartbeats 4000000 in
theorem tv_long4 (b off n c : Nat) (l : List UInt8) (w0 w : World) (hu0 : Up w0 w) (hn : n ≤ 1000000) (h0 : 0 < n) (hc1 : ¬ c = 1) (hc : n ≤ c) (hm : c ≤ maxLen) (hl : l.length = n) (hx : ∀ i, i < n → w0.cell? ⟨b, off + i, none⟩ = some (.int .u8 ((l.getD i 0).toNat : Int))) (t r : List UInt8) (hk : l.getD 0 0 = 4) (hs : unescL (l.drop 1) = some (t, r)) (hb60 : ¬ t.length ≤ 60) :
    Calls Try.prog 22 #[.slice (some ⟨b, off, none⟩) n c] w fun e w' => NonePost w e w' := by
  have hcell : w.cell? ⟨b, off, none⟩ = some (.int .u8 4) := by
    have := hu0.cell (hx 0 (by omega))
    rw [hk] at this
    exact this
  have hlt : b < w.heap.size := World.block_lt_of_cell? w _ hcell
  have i0 : (0 : Int) < (n : Int) := by omega
  have i1 : (1 : Int) ≤ (n : Int) := by omega
  have hsl := hide (sl_drop hl hc hm hx 1)
  have LL : Hid ((l.drop 1).length ≤ 1000000) := hide (by rw [List.length_drop]; omega)
  obtain ⟨m, hm2⟩ : ∃ m, m = l.drop 1 := ⟨_, rfl⟩
  rw [← hm2] at hsl LL hs
  clear hx hl hm2 hm hn h0 hc
  go_enter Try.func22, Try.ntmps22
  go_wp2_with fail
  go_region
  go_wp2_with fail
  generalize hR : Value.slice (some { block := b, off := off + 1 }) (n - 1) (c - 1) = R at hsl ⊢
  obtain ⟨W, hW⟩ : ∃ W, (w.alloc (.cells #[.int .i64 4, .int .i64 0, .string ⟨#[]⟩, .float .f64 0] 41)).drew = W := ⟨_, rfl⟩
  have hb : W.heap[w.heap.size]? = some (.cells #[.int .i64 4, .int .i64 0, .string ⟨#[]⟩, .float .f64 0] 41 (0, 0)) := by subst hW; exact heap_alloc_new w _
  have hu : Up w W := by subst hW; exact ((Up.refl _).alloc _).drew
  rw [hW]
  clear hW hlt hcell hR i0 i1
  go_at_call 33
  refine (takeString_calls R m w0 W (hu0.trans hu) LL.out hsl.out).mono ?_
  rintro _ w1 ⟨hu1, ⟨t2, r2, v1, ht, rfl, hs1⟩ | ⟨ht, _⟩⟩
  case inr => rw [hs] at ht; cases ht
  obtain ⟨rfl, rfl⟩ : t = t2 ∧ r = r2 := by rw [hs] at ht; simpa using ht
  replace hs1 := hide hs1
  clear ht hs
  have HU := hide (hu.trans hu1)
  have hb1 := hu1.heap hb
  have hsz : w.heap.size < w1.heap.size := Nat.lt_of_lt_of_le (World.block_lt_of_cell? W ⟨w.heap.size, 0, none⟩ (cell_of_block hb)) hu1.size
  have d0 : w1.cell? ⟨w.heap.size, 0, none⟩ = some (.int .i64 4) := cell_of_block hb1
  have d1 : w1.cell? ⟨w.heap.size, 1, none⟩ = some (.int .i64 0) := cell_of_block hb1
  have d2 : w1.cell? ⟨w.heap.size, 2, none⟩ = some (.string ⟨#[]⟩) := cell_of_block hb1
  have d3 : w1.cell? ⟨w.heap.size, 3, none⟩ = some (.float .f64 0) := cell_of_block hb1
  have f0 : w1.frozen? ⟨w.heap.size, 0, none⟩ = false := frozen_of_block hb1
  have f1 : w1.frozen? ⟨w.heap.size, 1, none⟩ = false := frozen_of_block hb1
  have f2 : w1.frozen? ⟨w.heap.size, 2, none⟩ = false := frozen_of_block hb1
  have f3 : w1.frozen? ⟨w.heap.size, 3, none⟩ = false := frozen_of_block hb1
  clear hu hu1 hb hb1 hsl
  go_wp2_with fail
  have HUV : Hid (Up w (w1.setCell ⟨w.heap.size, 2, none⟩ (.string ⟨t.toArray⟩))) := hide (HU.out.setCell (p := ⟨w.heap.size, 2, none⟩) (Nat.le_refl _) (.string ⟨t.toArray⟩))
  have e0 : (w1.setCell ⟨w.heap.size, 2, none⟩ (.string ⟨t.toArray⟩)).cell? ⟨w.heap.size, 0, none⟩ = some (.int .i64 4) := by go_simp
  have e1 : (w1.setCell ⟨w.heap.size, 2, none⟩ (.string ⟨t.toArray⟩)).cell? ⟨w.heap.size, 1, none⟩ = some (.int .i64 0) := by go_simp
  have e2 : (w1.setCell ⟨w.heap.size, 2, none⟩ (.string ⟨t.toArray⟩)).cell? ⟨w.heap.size, 2, none⟩ = some (.string ⟨t.toArray⟩) := by go_simp
  have e3 : (w1.setCell ⟨w.heap.size, 2, none⟩ (.string ⟨t.toArray⟩)).cell? ⟨w.heap.size, 3, none⟩ = some (.float .f64 0) := by go_simp
  have g0 : (w1.setCell ⟨w.heap.size, 2, none⟩ (.string ⟨t.toArray⟩)).frozen? ⟨w.heap.size, 0, none⟩ = false := by go_simp
  have g1 : (w1.setCell ⟨w.heap.size, 2, none⟩ (.string ⟨t.toArray⟩)).frozen? ⟨w.heap.size, 1, none⟩ = false := by go_simp
  have g2 : (w1.setCell ⟨w.heap.size, 2, none⟩ (.string ⟨t.toArray⟩)).frozen? ⟨w.heap.size, 2, none⟩ = false := by go_simp
  have g3 : (w1.setCell ⟨w.heap.size, 2, none⟩ (.string ⟨t.toArray⟩)).frozen? ⟨w.heap.size, 3, none⟩ = false := by go_simp
  have hsv : w.heap.size < (w1.setCell ⟨w.heap.size, 2, none⟩ (.string ⟨t.toArray⟩)).heap.size := by simpa using hsz
  generalize w1.setCell ⟨w.heap.size, 2, none⟩ (.string ⟨t.toArray⟩) = V at HUV e0 e1 e2 e3 g0 g1 g2 g3 hsv ⊢
  clear d0 d1 d2 d3 f0 f1 f2 f3 HU hsz
  have hisb : isB (4, 0, ⟨t.toArray⟩, 0) = false := by
    have hq : (⟨t.toArray⟩ : ByteArray).size = t.length := by simp [ByteArray.size]
    simp [isB, hq]; omega
  go_region_with (go_at_call 17; refine (vis_calls _ _ _ _ _).mono ?_; rintro _ w2 ⟨rfl, hu2⟩; have c0 := hu2.cell (p := ⟨w.heap.size, 0, none⟩) (v := .int .i64 4) (by go_simp); have c1 := hu2.cell (p := ⟨w.heap.size, 1, none⟩) (v := .int .i64 0) (by go_simp); have c2 := hu2.cell (p := ⟨w.heap.size, 2, none⟩) (v := .string ⟨t.toArray⟩) (by go_simp); have c3 := hu2.cell (p := ⟨w.heap.size, 3, none⟩) (v := .float .f64 0) (by go_simp); have k0 := (hu2.frozen (p := ⟨w.heap.size, 0, none⟩) (by simpa using hsv)).trans (by go_simp : _ = false); have k1 := (hu2.frozen (p := ⟨w.heap.size, 1, none⟩) (by simpa using hsv)).trans (by go_simp : _ = false); have k2 := (hu2.frozen (p := ⟨w.heap.size, 2, none⟩) (by simpa using hsv)).trans (by go_simp : _ = false); have k3 := (hu2.frozen (p := ⟨w.heap.size, 3, none⟩) (by simpa using hsv)).trans (by go_simp : _ = false))
  all_goals (replace HUV := hide (HUV.out.drew.trans hu2); clear hu2 e0 e1 e2 e3 g0 g1 g2 g3)
  all_goals go_wp2
  all_goals refine bodyPost_ret (v := .tuple #[.agg #[.int .i64 4, .int .i64 0, .string ⟨t.toArray⟩, .float .f64 0], v1, .bool false]) (by simp [results, Try.results22, go_sem, c0, c1, c2, c3]) rfl ⟨?_, (4, 0, ⟨t.toArray⟩, 0), _, rfl⟩
  all_goals exact (((HUV.out.setCell (p := ⟨w.heap.size, 0, none⟩) (Nat.le_refl _) _).setCell (p := ⟨w.heap.size, 1, none⟩) (Nat.le_refl _) _).setCell (p := ⟨w.heap.size, 2, none⟩) (Nat.le_refl _) _).setCell (p := ⟨w.heap.size, 3, none⟩) (Nat.le_refl _) _


set_option maxHeartbeats 4000000 in
theorem tv_none31 (b off : Nat) (w0 w : World) (hu0 : Up w0 w) (hx : w.cell? ⟨b, off, none⟩ = some (.int .u8 3))   :
    Calls Try.prog 22 #[.slice (some ⟨b, off, none⟩) 1 1] w fun e w' => NonePost w e w' := by
  have hs := unescL_nil
  have hcell := hx
  have hlt : b < w.heap.size := World.block_lt_of_cell? w _ hcell
  have hsl : Hid (Sl w0 (.slice (some ⟨b, off, none⟩) 0 0) []) := hide ⟨_, _, rfl, Nat.le_refl _, Nat.zero_le _, rfl, .inl rfl⟩
  obtain ⟨m, hm2⟩ : ∃ m : List UInt8, m = [] := ⟨_, rfl⟩
  have LL : Hid (m.length ≤ 1000000) := hide (by rw [hm2]; exact Nat.zero_le _)
  rw [← hm2] at hsl hs
  clear hx
  go_enter Try.func22, Try.ntmps22
  go_wp2_with fail
  go_region
  go_wp2_with fail
  generalize hR : Value.slice (some { block := b, off := off }) 0 0 = R at hsl ⊢
  obtain ⟨W, hW⟩ : ∃ W, (w.alloc (.cells #[.int .i64 3, .int .i64 0, .string ⟨#[]⟩, .float .f64 0] 41)).drew = W := ⟨_, rfl⟩
  have hb : W.heap[w.heap.size]? = some (.cells #[.int .i64 3, .int .i64 0, .string ⟨#[]⟩, .float .f64 0] 41 (0, 0)) := by subst hW; exact heap_alloc_new w _
  have hu : Up w W := by subst hW; exact ((Up.refl _).alloc _).drew
  rw [hW]
  clear hW hlt hcell hR
  go_at_call 33
  refine (takeString_calls R m w0 W (hu0.trans hu) LL.out hsl.out).mono ?_
  rintro _ w1 ⟨hu1, ⟨t, r, v1, ht, _⟩ | ⟨_, rfl⟩⟩
  case inl => rw [hs] at ht; cases ht
  have HU := hide (hu.trans hu1)
  have hb1 := hu1.heap hb
  have hsz : w.heap.size < w1.heap.size := Nat.lt_of_lt_of_le (World.block_lt_of_cell? W ⟨w.heap.size, 0, none⟩ (cell_of_block hb)) hu1.size
  have d0 : w1.cell? ⟨w.heap.size, 0, none⟩ = some (.int .i64 3) := cell_of_block hb1
  have d1 : w1.cell? ⟨w.heap.size, 1, none⟩ = some (.int .i64 0) := cell_of_block hb1
  have d2 : w1.cell? ⟨w.heap.size, 2, none⟩ = some (.string ⟨#[]⟩) := cell_of_block hb1
  have d3 : w1.cell? ⟨w.heap.size, 3, none⟩ = some (.float .f64 0) := cell_of_block hb1
  have f0 : w1.frozen? ⟨w.heap.size, 0, none⟩ = false := frozen_of_block hb1
  have f1 : w1.frozen? ⟨w.heap.size, 1, none⟩ = false := frozen_of_block hb1
  have f2 : w1.frozen? ⟨w.heap.size, 2, none⟩ = false := frozen_of_block hb1
  have f3 : w1.frozen? ⟨w.heap.size, 3, none⟩ = false := frozen_of_block hb1
  clear hu hu1 hb hb1 hsl
  go_wp2_with fail
  have HUV : Hid (Up w (w1.setCell ⟨w.heap.size, 2, none⟩ (.string ⟨#[]⟩))) := hide (HU.out.setCell (p := ⟨w.heap.size, 2, none⟩) (Nat.le_refl _) (.string ⟨#[]⟩))
  have e0 : (w1.setCell ⟨w.heap.size, 2, none⟩ (.string ⟨#[]⟩)).cell? ⟨w.heap.size, 0, none⟩ = some (.int .i64 3) := by go_simp
  have e1 : (w1.setCell ⟨w.heap.size, 2, none⟩ (.string ⟨#[]⟩)).cell? ⟨w.heap.size, 1, none⟩ = some (.int .i64 0) := by go_simp
  have e2 : (w1.setCell ⟨w.heap.size, 2, none⟩ (.string ⟨#[]⟩)).cell? ⟨w.heap.size, 2, none⟩ = some (.string ⟨#[]⟩) := by go_simp
  have e3 : (w1.setCell ⟨w.heap.size, 2, none⟩ (.string ⟨#[]⟩)).cell? ⟨w.heap.size, 3, none⟩ = some (.float .f64 0) := by go_simp
  have g0 : (w1.setCell ⟨w.heap.size, 2, none⟩ (.string ⟨#[]⟩)).frozen? ⟨w.heap.size, 0, none⟩ = false := by go_simp
  have g1 : (w1.setCell ⟨w.heap.size, 2, none⟩ (.string ⟨#[]⟩)).frozen? ⟨w.heap.size, 1, none⟩ = false := by go_simp
  have g2 : (w1.setCell ⟨w.heap.size, 2, none⟩ (.string ⟨#[]⟩)).frozen? ⟨w.heap.size, 2, none⟩ = false := by go_simp
  have g3 : (w1.setCell ⟨w.heap.size, 2, none⟩ (.string ⟨#[]⟩)).frozen? ⟨w.heap.size, 3, none⟩ = false := by go_simp
  have hsv : w.heap.size < (w1.setCell ⟨w.heap.size, 2, none⟩ (.string ⟨#[]⟩)).heap.size := by simpa using hsz
  generalize w1.setCell ⟨w.heap.size, 2, none⟩ (.string ⟨#[]⟩) = V at HUV e0 e1 e2 e3 g0 g1 g2 g3 hsv ⊢
  clear d0 d1 d2 d3 f0 f1 f2 f3 HU hsz
  go_region
  all_goals go_wp2
  all_goals refine bodyPost_ret (v := .tuple #[.agg #[.int .i64 3, .int .i64 0, .string ⟨#[]⟩, .float .f64 0], .slice none 0 0, .bool false]) (by simp [results, Try.results22, go_sem, e0, e1, e2, e3]) rfl ⟨?_, (3, 0, ⟨#[]⟩, 0), _, rfl⟩
  all_goals exact ((((HUV.out.drew.setCell (p := ⟨w.heap.size, 0, none⟩) (Nat.le_refl _) _).setCell (p := ⟨w.heap.size, 1, none⟩) (Nat.le_refl _) _).setCell (p := ⟨w.heap.size, 2, none⟩) (Nat.le_refl _) _).setCell (p := ⟨w.heap.size, 3, none⟩) (Nat.le_refl _) _)


set_option maxHeartbeats 4000000 in
theorem tv_none41 (b off : Nat) (w0 w : World) (hu0 : Up w0 w) (hx : w.cell? ⟨b, off, none⟩ = some (.int .u8 4))   :
    Calls Try.prog 22 #[.slice (some ⟨b, off, none⟩) 1 1] w fun e w' => NonePost w e w' := by
  have hs := unescL_nil
  have hcell := hx
  have hlt : b < w.heap.size := World.block_lt_of_cell? w _ hcell
  have hsl : Hid (Sl w0 (.slice (some ⟨b, off, none⟩) 0 0) []) := hide ⟨_, _, rfl, Nat.le_refl _, Nat.zero_le _, rfl, .inl rfl⟩
  obtain ⟨m, hm2⟩ : ∃ m : List UInt8, m = [] := ⟨_, rfl⟩
  have LL : Hid (m.length ≤ 1000000) := hide (by rw [hm2]; exact Nat.zero_le _)
  rw [← hm2] at hsl hs
  clear hx
  go_enter Try.func22, Try.ntmps22
  go_wp2_with fail
  go_region
  go_wp2_with fail
  generalize hR : Value.slice (some { block := b, off := off }) 0 0 = R at hsl ⊢
  obtain ⟨W, hW⟩ : ∃ W, (w.alloc (.cells #[.int .i64 4, .int .i64 0, .string ⟨#[]⟩, .float .f64 0] 41)).drew = W := ⟨_, rfl⟩
  have hb : W.heap[w.heap.size]? = some (.cells #[.int .i64 4, .int .i64 0, .string ⟨#[]⟩, .float .f64 0] 41 (0, 0)) := by subst hW; exact heap_alloc_new w _
  have hu : Up w W := by subst hW; exact ((Up.refl _).alloc _).drew
  rw [hW]
  clear hW hlt hcell hR
  go_at_call 33
  refine (takeString_calls R m w0 W (hu0.trans hu) LL.out hsl.out).mono ?_
  rintro _ w1 ⟨hu1, ⟨t, r, v1, ht, _⟩ | ⟨_, rfl⟩⟩
  case inl => rw [hs] at ht; cases ht
  have HU := hide (hu.trans hu1)
  have hb1 := hu1.heap hb
  have hsz : w.heap.size < w1.heap.size := Nat.lt_of_lt_of_le (World.block_lt_of_cell? W ⟨w.heap.size, 0, none⟩ (cell_of_block hb)) hu1.size
  have d0 : w1.cell? ⟨w.heap.size, 0, none⟩ = some (.int .i64 4) := cell_of_block hb1
  have d1 : w1.cell? ⟨w.heap.size, 1, none⟩ = some (.int .i64 0) := cell_of_block hb1
  have d2 : w1.cell? ⟨w.heap.size, 2, none⟩ = some (.string ⟨#[]⟩) := cell_of_block hb1
  have d3 : w1.cell? ⟨w.heap.size, 3, none⟩ = some (.float .f64 0) := cell_of_block hb1
  have f0 : w1.frozen? ⟨w.heap.size, 0, none⟩ = false := frozen_of_block hb1
  have f1 : w1.frozen? ⟨w.heap.size, 1, none⟩ = false := frozen_of_block hb1
  have f2 : w1.frozen? ⟨w.heap.size, 2, none⟩ = false := frozen_of_block hb1
  have f3 : w1.frozen? ⟨w.heap.size, 3, none⟩ = false := frozen_of_block hb1
  clear hu hu1 hb hb1 hsl
  go_wp2_with fail
  have HUV : Hid (Up w (w1.setCell ⟨w.heap.size, 2, none⟩ (.string ⟨#[]⟩))) := hide (HU.out.setCell (p := ⟨w.heap.size, 2, none⟩) (Nat.le_refl _) (.string ⟨#[]⟩))
  have e0 : (w1.setCell ⟨w.heap.size, 2, none⟩ (.string ⟨#[]⟩)).cell? ⟨w.heap.size, 0, none⟩ = some (.int .i64 4) := by go_simp
  have e1 : (w1.setCell ⟨w.heap.size, 2, none⟩ (.string ⟨#[]⟩)).cell? ⟨w.heap.size, 1, none⟩ = some (.int .i64 0) := by go_simp
  have e2 : (w1.setCell ⟨w.heap.size, 2, none⟩ (.string ⟨#[]⟩)).cell? ⟨w.heap.size, 2, none⟩ = some (.string ⟨#[]⟩) := by go_simp
  have e3 : (w1.setCell ⟨w.heap.size, 2, none⟩ (.string ⟨#[]⟩)).cell? ⟨w.heap.size, 3, none⟩ = some (.float .f64 0) := by go_simp
  have g0 : (w1.setCell ⟨w.heap.size, 2, none⟩ (.string ⟨#[]⟩)).frozen? ⟨w.heap.size, 0, none⟩ = false := by go_simp
  have g1 : (w1.setCell ⟨w.heap.size, 2, none⟩ (.string ⟨#[]⟩)).frozen? ⟨w.heap.size, 1, none⟩ = false := by go_simp
  have g2 : (w1.setCell ⟨w.heap.size, 2, none⟩ (.string ⟨#[]⟩)).frozen? ⟨w.heap.size, 2, none⟩ = false := by go_simp
  have g3 : (w1.setCell ⟨w.heap.size, 2, none⟩ (.string ⟨#[]⟩)).frozen? ⟨w.heap.size, 3, none⟩ = false := by go_simp
  have hsv : w.heap.size < (w1.setCell ⟨w.heap.size, 2, none⟩ (.string ⟨#[]⟩)).heap.size := by simpa using hsz
  generalize w1.setCell ⟨w.heap.size, 2, none⟩ (.string ⟨#[]⟩) = V at HUV e0 e1 e2 e3 g0 g1 g2 g3 hsv ⊢
  clear d0 d1 d2 d3 f0 f1 f2 f3 HU hsz
  go_region
  all_goals go_wp2
  all_goals refine bodyPost_ret (v := .tuple #[.agg #[.int .i64 4, .int .i64 0, .string ⟨#[]⟩, .float .f64 0], .slice none 0 0, .bool false]) (by simp [results, Try.results22, go_sem, e0, e1, e2, e3]) rfl ⟨?_, (4, 0, ⟨#[]⟩, 0), _, rfl⟩
  all_goals exact ((((HUV.out.drew.setCell (p := ⟨w.heap.size, 0, none⟩) (Nat.le_refl _) _).setCell (p := ⟨w.heap.size, 1, none⟩) (Nat.le_refl _) _).setCell (p := ⟨w.heap.size, 2, none⟩) (Nat.le_refl _) _).setCell (p := ⟨w.heap.size, 3, none⟩) (Nat.le_refl _) _)


end Go.Proofs.Ytlhaohioolagoaa
