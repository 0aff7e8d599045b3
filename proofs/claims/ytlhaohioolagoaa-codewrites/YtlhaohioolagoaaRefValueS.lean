/-
  What the document's own reader of one value (package rialtoref3: value) answers of texts, as its text runs: the same as package code's.
-/
import Derived.Test.YtlhaohioolagoaaRefValue
namespace Go.Proofs.Ytlhaohioolagoaa
open Go.ChangeShapes Go.WideShapes Go.ChangeAt Go.RowKit
attribute [local go_sem ↓] Go.wp_at_zero Go.wp_at_succ
attribute [local go_sem] run_store_float
set_option linter.unusedVariables false

/-- A text is read, or none. -/
def RStr (w : World) (mm l : List UInt8) (K : Int) (e : Ending) (w' : World) : Prop :=
  Up w w' ∧ ((∃ (t : List UInt8) (k : Nat), unescL mm = some (t, l.drop k) ∧ t.length ≤ 60 ∧ 0 < k ∧ k ≤ l.length ∧ e = .returned (.tuple #[.agg #[.int .i64 K, .int .i64 0, .string ⟨t.toArray⟩, .float .f64 0], .int .i64 (k : Int)])) ∨
    ((unescL mm = none ∨ ∃ t r, unescL mm = some (t, r) ∧ ¬ t.length ≤ 60) ∧ ∃ v : VT, e = .returned (.tuple #[.agg #[.int .i64 v.1, .int .i64 v.2.1, .string v.2.2.1, .float .f64 v.2.2.2], .int .i64 0])))

set_option maxRecDepth 20000 in
set_option maxHeartbeats 4000000 in
theorem rv_str3 (b off n c : Nat) (l : List UInt8) (w : World) (hn : n ≤ 1000000) (h0 : 0 < n) (hc : n ≤ c) (hm : c ≤ maxLen) (hl : l.length = n) (hx : ∀ i, i < n → w.cell? ⟨b, off + i, none⟩ = some (.int .u8 ((l.getD i 0).toNat : Int))) (mm : List UInt8) (hmm : mm = l.drop 1) (hk : l.getD 0 0 = 3) :
    Calls Try.prog 23 #[.slice (some ⟨b, off, none⟩) n c] w fun e w' => RStr w mm l 3 e w' := by
  have hcell : w.cell? ⟨b, off, none⟩ = some (.int .u8 3) := by
    have := hx 0 (by omega)
    rw [hk] at this
    exact this
  have hlt : b < w.heap.size := World.block_lt_of_cell? w _ hcell
  have i0 : (0 : Int) < (n : Int) := by omega
  have HX := hide hx
  have HL := hide hl
  have HU : Hid (Up w ((w.alloc (.cells #[.int .i64 0, .int .i64 0, .string ⟨#[]⟩, .float .f64 0] 41)).alloc (.cells #[.int .i64 3, .int .i64 0, .string ⟨#[]⟩, .float .f64 0] 41))) := hide (((Up.refl _).alloc _).alloc _)
  clear hx hl
  have HMM := hide hmm
  clear hmm
  go_enter Try.func23, Try.ntmps23
  go_wp2_with fail
  obtain ⟨W, hW⟩ : ∃ W, (w.alloc (.cells #[.int .i64 0, .int .i64 0, .string ⟨#[]⟩, .float .f64 0] 41)).alloc (.cells #[.int .i64 3, .int .i64 0, .string ⟨#[]⟩, .float .f64 0] 41) = W := ⟨_, rfl⟩
  have hbb : W.heap[w.heap.size + 1]? = some (.cells #[.int .i64 3, .int .i64 0, .string ⟨#[]⟩, .float .f64 0] 41 (0, 0)) := by subst hW; exact (blocks_two w _ _).2
  have hrr : W.heap[w.heap.size]? = some (.cells #[.int .i64 0, .int .i64 0, .string ⟨#[]⟩, .float .f64 0] 41 (0, 0)) := by subst hW; exact (blocks_two w _ _).1
  rw [hW] at HU ⊢
  clear hW
  have e0 : W.cell? ⟨w.heap.size + 1, 0, none⟩ = some (.int .i64 3) := cell_of_block hbb
  have e1 : W.cell? ⟨w.heap.size + 1, 1, none⟩ = some (.int .i64 0) := cell_of_block hbb
  have e2 : W.cell? ⟨w.heap.size + 1, 2, none⟩ = some (.string ⟨#[]⟩) := cell_of_block hbb
  have e3 : W.cell? ⟨w.heap.size + 1, 3, none⟩ = some (.float .f64 0) := cell_of_block hbb
  have r0 : W.cell? ⟨w.heap.size, 0, none⟩ = some (.int .i64 0) := cell_of_block hrr
  have r1 : W.cell? ⟨w.heap.size, 1, none⟩ = some (.int .i64 0) := cell_of_block hrr
  have r2 : W.cell? ⟨w.heap.size, 2, none⟩ = some (.string ⟨#[]⟩) := cell_of_block hrr
  have r3 : W.cell? ⟨w.heap.size, 3, none⟩ = some (.float .f64 0) := cell_of_block hrr
  have fv0 : W.frozen? ⟨w.heap.size + 1, 0, none⟩ = false := frozen_of_block hbb
  have fr0 : W.frozen? ⟨w.heap.size, 0, none⟩ = false := frozen_of_block hrr
  have fv1 : W.frozen? ⟨w.heap.size + 1, 1, none⟩ = false := frozen_of_block hbb
  have fr1 : W.frozen? ⟨w.heap.size, 1, none⟩ = false := frozen_of_block hrr
  have fv2 : W.frozen? ⟨w.heap.size + 1, 2, none⟩ = false := frozen_of_block hbb
  have fr2 : W.frozen? ⟨w.heap.size, 2, none⟩ = false := frozen_of_block hrr
  have fv3 : W.frozen? ⟨w.heap.size + 1, 3, none⟩ = false := frozen_of_block hbb
  have fr3 : W.frozen? ⟨w.heap.size, 3, none⟩ = false := frozen_of_block hrr
  have HX0 := HX
  have HBB := hide hbb
  have HRR := hide hrr
  clear hbb hrr
  clear e0 e1 e2 e3 r0 r1 r2 r3 fv0 fv1 fv2 fv3 fr0 fr1 fr2 fr3
  go_loopw [7, 8] (fun u i wi => ∃ (k : Nat) (got : List UInt8), 1 ≤ k ∧ k ≤ n ∧ i = .int .i64 k ∧ got.length ≤ k ∧ Own wi w.heap.size u got ∧ Up w wi ∧ wi.heap[w.heap.size + 1]? = some (.cells #[.int .i64 3, .int .i64 0, .string ⟨#[]⟩, .float .f64 0] 41 (0, 0)) ∧ wi.heap[w.heap.size]? = some (.cells #[.int .i64 0, .int .i64 0, .string ⟨#[]⟩, .float .f64 0] 41 (0, 0)) ∧ Hid (unescL mm = (unescL (l.drop k)).map fun p => (got ++ p.1, p.2))) (fun _ i _ => n - (intOf i).toNat)
  case atStart => exact ⟨1, [], Nat.le_refl _, by omega, rfl, by simp, Own.nil _ _, HU.out, HBB.out, HRR.out, by rw [HMM.out]; simp [Hid]⟩
  case round =>
    obtain ⟨k, got, hk1, hkn, rfl, hgl, ho, hui, hki, hri, he⟩ := hrel
    have hsi := hui.size
    have e0 : wr.cell? ⟨w.heap.size + 1, 0, none⟩ = some (.int .i64 3) := cell_of_block hki
    have e1 : wr.cell? ⟨w.heap.size + 1, 1, none⟩ = some (.int .i64 0) := cell_of_block hki
    have e2 : wr.cell? ⟨w.heap.size + 1, 2, none⟩ = some (.string ⟨#[]⟩) := cell_of_block hki
    have e3 : wr.cell? ⟨w.heap.size + 1, 3, none⟩ = some (.float .f64 0) := cell_of_block hki
    have r0 : wr.cell? ⟨w.heap.size, 0, none⟩ = some (.int .i64 0) := cell_of_block hri
    have r1 : wr.cell? ⟨w.heap.size, 1, none⟩ = some (.int .i64 0) := cell_of_block hri
    have r2 : wr.cell? ⟨w.heap.size, 2, none⟩ = some (.string ⟨#[]⟩) := cell_of_block hri
    have r3 : wr.cell? ⟨w.heap.size, 3, none⟩ = some (.float .f64 0) := cell_of_block hri
    have fv0 : wr.frozen? ⟨w.heap.size + 1, 0, none⟩ = false := frozen_of_block hki
    have fr0 : wr.frozen? ⟨w.heap.size, 0, none⟩ = false := frozen_of_block hri
    have fv1 : wr.frozen? ⟨w.heap.size + 1, 1, none⟩ = false := frozen_of_block hki
    have fr1 : wr.frozen? ⟨w.heap.size, 1, none⟩ = false := frozen_of_block hri
    have fv2 : wr.frozen? ⟨w.heap.size + 1, 2, none⟩ = false := frozen_of_block hki
    have fr2 : wr.frozen? ⟨w.heap.size, 2, none⟩ = false := frozen_of_block hri
    have fv3 : wr.frozen? ⟨w.heap.size + 1, 3, none⟩ = false := frozen_of_block hki
    have fr3 : wr.frozen? ⟨w.heap.size, 3, none⟩ = false := frozen_of_block hri
    have HUI := hide hui
    by_cases hltk : k < n
    · have hcl := hui.cell (HX0.out k hltk)
      have hdr := drop_byte (l := l) (k := k) (by rw [HL.out]; exact hltk)
      obtain ⟨x, hx⟩ : ∃ x, x = l.getD k 0 := ⟨_, rfl⟩
      rw [← hx] at hcl hdr
      have i1 : (0 : Int) ≤ (k : Int) := by omega
      have i2 : (k : Int) < (n : Int) := by omega
      by_cases hz : x = 0
      · have hcz : wr.cell? ⟨b, off + k, none⟩ = some (.int .u8 0) := by rw [hz] at hcl; exact hcl
        rw [hz] at hdr
        replace hx := hide hx
        clear hcl hz
        by_cases hlt2 : k + 1 < n
        · have hcy := hui.cell (HX0.out (k + 1) hlt2)
          have hdr2 := drop_byte (l := l) (k := k + 1) (by rw [HL.out]; exact hlt2)
          obtain ⟨y, hy⟩ : ∃ y, y = l.getD (k + 1) 0 := ⟨_, rfl⟩
          rw [← hy] at hcy hdr2
          rw [hdr2] at hdr
          replace hy := hide hy
          have j1 : (k : Int) + 1 < (n : Int) := by omega
          have j0 : (0 : Int) ≤ (k : Int) + 1 := by omega
          have jn : ((k : Int) + 1 == (n : Int)) = false := beq_eq_false_iff_ne.2 (by omega)
          by_cases hy1 : y = 1
          · have hyes : unescL mm = some (got, l.drop (k + 2)) := by
              have := he.out
              rw [hdr, hy1, unescL_end] at this
              simpa using this
            have t1 : ((y.toNat : Int) == 1) = true := by rw [hy1]; rfl
            have t1b : ((y.toNat : Int) != 1) = false := by simp [bne, t1]
            have hcv := ho.conv
            obtain ⟨ag, cg, hag, _, _, _⟩ := ho.bts
            subst hag
            replace hyes := hide hyes
            clear hdr hdr2 he hki hri hui ho hy1
            by_cases h60 : (60 : Int) < (got.length : Int)
            · have h60b := hide h60
              go_wp2
              refine bodyPost_ret (v := .tuple #[.agg #[.int .i64 3, .int .i64 0, .string ⟨got.toArray⟩, .float .f64 0], .int .i64 0]) (by simp [results, Try.results23, go_sem, r0, r1, r2, r3]) rfl ⟨?_, .inr ⟨.inr ⟨_, _, hyes.out, by have := h60b.out; omega⟩, (3, 0, ⟨got.toArray⟩, 0), rfl⟩⟩
              exact (((((HUI.out.setCell (p := ⟨w.heap.size + 1, 2, none⟩) (Nat.le_succ _) _).setCell (p := ⟨w.heap.size, 0, none⟩) (Nat.le_refl _) _).setCell (p := ⟨w.heap.size, 1, none⟩) (Nat.le_refl _) _).setCell (p := ⟨w.heap.size, 2, none⟩) (Nat.le_refl _) _).setCell (p := ⟨w.heap.size, 3, none⟩) (Nat.le_refl _) _)
            · have h60b := hide h60
              go_wp2
              refine bodyPost_ret (v := .tuple #[.agg #[.int .i64 3, .int .i64 0, .string ⟨got.toArray⟩, .float .f64 0], .int .i64 ((k + 2 : Nat) : Int)]) (by simp [results, Try.results23, go_sem, r0, r1, r2, r3]) rfl ⟨?_, .inl ⟨_, k + 2, hyes.out, by have := h60b.out; omega, by omega, by rw [HL.out]; omega, rfl⟩⟩
              exact (((((HUI.out.setCell (p := ⟨w.heap.size + 1, 2, none⟩) (Nat.le_succ _) _).setCell (p := ⟨w.heap.size, 0, none⟩) (Nat.le_refl _) _).setCell (p := ⟨w.heap.size, 1, none⟩) (Nat.le_refl _) _).setCell (p := ⟨w.heap.size, 2, none⟩) (Nat.le_refl _) _).setCell (p := ⟨w.heap.size, 3, none⟩) (Nat.le_refl _) _)
          · have t1 : ((y.toNat : Int) == 1) = false := beq_nat 1 hy1
            have t1b : ((y.toNat : Int) != 1) = true := by simp [bne, t1]
            by_cases hy2 : y = 255
            · have hst : unescL mm = (unescL (l.drop (k + 2))).map fun p => ((got ++ [0]) ++ p.1, p.2) := by
                rw [he.out, hdr, hy2, unescL_zero]
                cases unescL (l.drop (k + 2)) <;> simp
              have t2 : ((y.toNat : Int) == 255) = true := by rw [hy2]; rfl
              have t2b : ((y.toNat : Int) != 255) = false := by simp [bne, t2]
              replace hst := hide hst
              clear hdr hdr2 he hy1 hy2
              go_wp2_with (at_builtin; refine append_bytes rfl (.tmp 123) (.tmp 124) rfl w.heap.size _ _ rfl (ho.alloc _) _ 1 1 [0] rfl rfl (byte_new rfl) (by omega) (Nat.le_trans hsi (by simp)) ?_)
              intro u5 w5 ho5 hg5
              have hb5 : Hid (Up w w5) := hide (below_append HUI.out hsi ho hg5)
              have hk5 := hide (kept_append ho hg5 hki (by decide))
              have hr5 := hide (kept_append ho hg5 hri (by decide))
              replace ho5 := hide ho5
              clear hg5 ho hki hri hui HUI hcz hcy e0 e1 e2 e3 r0 r1 r2 r3 fv0 fv1 fv2 fv3 fr0 fr1 fr2 fr3
              go_wp2
              go_roundw
              case rel => exact ⟨k + 2, got ++ [0], by omega, by omega, by go_num, by simp; omega, ho5.out, hb5.out, hk5.out, hr5.out, hst.out⟩
              case measure => simp [intOf]; omega
            · have t2 : ((y.toNat : Int) == 255) = false := beq_nat 255 hy2
              have t2b : ((y.toNat : Int) != 255) = true := by simp [bne, t2]
              have hno : unescL mm = none := by
                have := he.out
                rw [hdr, unescL_bad hy1 hy2] at this
                simpa using this
              replace hno := hide hno
              clear hdr hdr2 he ho hki hri hui hy1 hy2
              go_wp2
              refine bodyPost_ret (v := .tuple #[.agg #[.int .i64 3, .int .i64 0, .string ⟨#[]⟩, .float .f64 0], .int .i64 0]) (by simp [results, Try.results23, go_sem, r0, r1, r2, r3]) rfl ⟨?_, .inr ⟨.inl hno.out, (3, 0, ⟨#[]⟩, 0), rfl⟩⟩
              exact ((((HUI.out.setCell (p := ⟨w.heap.size, 0, none⟩) (Nat.le_refl _) _).setCell (p := ⟨w.heap.size, 1, none⟩) (Nat.le_refl _) _).setCell (p := ⟨w.heap.size, 2, none⟩) (Nat.le_refl _) _).setCell (p := ⟨w.heap.size, 3, none⟩) (Nat.le_refl _) _)
        · have hno : unescL mm = none := by
            have := he.out
            rw [hdr, List.drop_eq_nil_of_le (by rw [HL.out]; omega), unescL_last] at this
            simpa using this
          replace hno := hide hno
          have jn : ((k : Int) + 1 == (n : Int)) = true := by
            rw [beq_iff_eq]; omega
          clear hdr he ho hki hri hui
          go_wp2
          refine bodyPost_ret (v := .tuple #[.agg #[.int .i64 3, .int .i64 0, .string ⟨#[]⟩, .float .f64 0], .int .i64 0]) (by simp [results, Try.results23, go_sem, r0, r1, r2, r3]) rfl ⟨?_, .inr ⟨.inl hno.out, (3, 0, ⟨#[]⟩, 0), rfl⟩⟩
          exact ((((HUI.out.setCell (p := ⟨w.heap.size, 0, none⟩) (Nat.le_refl _) _).setCell (p := ⟨w.heap.size, 1, none⟩) (Nat.le_refl _) _).setCell (p := ⟨w.heap.size, 2, none⟩) (Nat.le_refl _) _).setCell (p := ⟨w.heap.size, 3, none⟩) (Nat.le_refl _) _)
      · have hst : unescL mm = (unescL (l.drop (k + 1))).map fun p => ((got ++ [x]) ++ p.1, p.2) := by
          rw [he.out, hdr, unescL_char hz]
          cases unescL (l.drop (k + 1)) <;> simp
        have ht : ((x.toNat : Int) == 0) = false := beq_nat 0 hz
        have ht2 : ((x.toNat : Int) != 0) = true := by simp [bne, ht]
        replace hst := hide hst
        replace hx := hide hx
        clear hz hdr he
        go_wp2_with (at_builtin; refine append_bytes rfl (.tmp 78) (.tmp 83) rfl w.heap.size _ _ rfl (ho.alloc _) _ 1 1 [x] rfl rfl (byte_new rfl) (by omega) (Nat.le_trans hsi (by simp)) ?_)
        intro u5 w5 ho5 hg5
        have hb5 : Hid (Up w w5) := hide (below_append HUI.out hsi ho hg5)
        have hk5 := hide (kept_append ho hg5 hki (by decide))
        have hr5 := hide (kept_append ho hg5 hri (by decide))
        replace ho5 := hide ho5
        clear hg5 ho hki hri hui HUI hcl e0 e1 e2 e3 r0 r1 r2 r3 fv0 fv1 fv2 fv3 fr0 fr1 fr2 fr3
        go_wp2
        go_roundw
        case rel => exact ⟨k + 1, got ++ [x], by omega, by omega, by go_num, by simp; omega, ho5.out, hb5.out, hk5.out, hr5.out, hst.out⟩
        case measure => simp [intOf]; omega
    · obtain rfl : k = n := by omega
      have hno : unescL mm = none := by
        have := he.out
        rw [List.drop_eq_nil_of_le (by rw [HL.out]; omega), unescL_nil] at this
        simpa using this
      replace hno := hide hno
      clear he ho hki hri hui
      go_wp2
      refine bodyPost_ret (v := .tuple #[.agg #[.int .i64 3, .int .i64 0, .string ⟨#[]⟩, .float .f64 0], .int .i64 0]) (by simp [results, Try.results23, go_sem, r0, r1, r2, r3]) rfl ⟨?_, .inr ⟨.inl hno.out, (3, 0, ⟨#[]⟩, 0), rfl⟩⟩
      exact ((((HUI.out.setCell (p := ⟨w.heap.size, 0, none⟩) (Nat.le_refl _) _).setCell (p := ⟨w.heap.size, 1, none⟩) (Nat.le_refl _) _).setCell (p := ⟨w.heap.size, 2, none⟩) (Nat.le_refl _) _).setCell (p := ⟨w.heap.size, 3, none⟩) (Nat.le_refl _) _)


set_option maxRecDepth 20000 in
set_option maxHeartbeats 4000000 in
theorem rv_str4 (b off n c : Nat) (l : List UInt8) (w : World) (hn : n ≤ 1000000) (h0 : 0 < n) (hc : n ≤ c) (hm : c ≤ maxLen) (hl : l.length = n) (hx : ∀ i, i < n → w.cell? ⟨b, off + i, none⟩ = some (.int .u8 ((l.getD i 0).toNat : Int))) (mm : List UInt8) (hmm : mm = l.drop 1) (hk : l.getD 0 0 = 4) :
    Calls Try.prog 23 #[.slice (some ⟨b, off, none⟩) n c] w fun e w' => RStr w mm l 4 e w' := by
  have hcell : w.cell? ⟨b, off, none⟩ = some (.int .u8 4) := by
    have := hx 0 (by omega)
    rw [hk] at this
    exact this
  have hlt : b < w.heap.size := World.block_lt_of_cell? w _ hcell
  have i0 : (0 : Int) < (n : Int) := by omega
  have HX := hide hx
  have HL := hide hl
  have HU : Hid (Up w ((w.alloc (.cells #[.int .i64 0, .int .i64 0, .string ⟨#[]⟩, .float .f64 0] 41)).alloc (.cells #[.int .i64 4, .int .i64 0, .string ⟨#[]⟩, .float .f64 0] 41))) := hide (((Up.refl _).alloc _).alloc _)
  clear hx hl
  have HMM := hide hmm
  clear hmm
  go_enter Try.func23, Try.ntmps23
  go_wp2_with fail
  obtain ⟨W, hW⟩ : ∃ W, (w.alloc (.cells #[.int .i64 0, .int .i64 0, .string ⟨#[]⟩, .float .f64 0] 41)).alloc (.cells #[.int .i64 4, .int .i64 0, .string ⟨#[]⟩, .float .f64 0] 41) = W := ⟨_, rfl⟩
  have hbb : W.heap[w.heap.size + 1]? = some (.cells #[.int .i64 4, .int .i64 0, .string ⟨#[]⟩, .float .f64 0] 41 (0, 0)) := by subst hW; exact (blocks_two w _ _).2
  have hrr : W.heap[w.heap.size]? = some (.cells #[.int .i64 0, .int .i64 0, .string ⟨#[]⟩, .float .f64 0] 41 (0, 0)) := by subst hW; exact (blocks_two w _ _).1
  rw [hW] at HU ⊢
  clear hW
  have e0 : W.cell? ⟨w.heap.size + 1, 0, none⟩ = some (.int .i64 4) := cell_of_block hbb
  have e1 : W.cell? ⟨w.heap.size + 1, 1, none⟩ = some (.int .i64 0) := cell_of_block hbb
  have e2 : W.cell? ⟨w.heap.size + 1, 2, none⟩ = some (.string ⟨#[]⟩) := cell_of_block hbb
  have e3 : W.cell? ⟨w.heap.size + 1, 3, none⟩ = some (.float .f64 0) := cell_of_block hbb
  have r0 : W.cell? ⟨w.heap.size, 0, none⟩ = some (.int .i64 0) := cell_of_block hrr
  have r1 : W.cell? ⟨w.heap.size, 1, none⟩ = some (.int .i64 0) := cell_of_block hrr
  have r2 : W.cell? ⟨w.heap.size, 2, none⟩ = some (.string ⟨#[]⟩) := cell_of_block hrr
  have r3 : W.cell? ⟨w.heap.size, 3, none⟩ = some (.float .f64 0) := cell_of_block hrr
  have fv0 : W.frozen? ⟨w.heap.size + 1, 0, none⟩ = false := frozen_of_block hbb
  have fr0 : W.frozen? ⟨w.heap.size, 0, none⟩ = false := frozen_of_block hrr
  have fv1 : W.frozen? ⟨w.heap.size + 1, 1, none⟩ = false := frozen_of_block hbb
  have fr1 : W.frozen? ⟨w.heap.size, 1, none⟩ = false := frozen_of_block hrr
  have fv2 : W.frozen? ⟨w.heap.size + 1, 2, none⟩ = false := frozen_of_block hbb
  have fr2 : W.frozen? ⟨w.heap.size, 2, none⟩ = false := frozen_of_block hrr
  have fv3 : W.frozen? ⟨w.heap.size + 1, 3, none⟩ = false := frozen_of_block hbb
  have fr3 : W.frozen? ⟨w.heap.size, 3, none⟩ = false := frozen_of_block hrr
  have HX0 := HX
  have HBB := hide hbb
  have HRR := hide hrr
  clear hbb hrr
  clear e0 e1 e2 e3 r0 r1 r2 r3 fv0 fv1 fv2 fv3 fr0 fr1 fr2 fr3
  go_loopw [7, 8] (fun u i wi => ∃ (k : Nat) (got : List UInt8), 1 ≤ k ∧ k ≤ n ∧ i = .int .i64 k ∧ got.length ≤ k ∧ Own wi w.heap.size u got ∧ Up w wi ∧ wi.heap[w.heap.size + 1]? = some (.cells #[.int .i64 4, .int .i64 0, .string ⟨#[]⟩, .float .f64 0] 41 (0, 0)) ∧ wi.heap[w.heap.size]? = some (.cells #[.int .i64 0, .int .i64 0, .string ⟨#[]⟩, .float .f64 0] 41 (0, 0)) ∧ Hid (unescL mm = (unescL (l.drop k)).map fun p => (got ++ p.1, p.2))) (fun _ i _ => n - (intOf i).toNat)
  case atStart => exact ⟨1, [], Nat.le_refl _, by omega, rfl, by simp, Own.nil _ _, HU.out, HBB.out, HRR.out, by rw [HMM.out]; simp [Hid]⟩
  case round =>
    obtain ⟨k, got, hk1, hkn, rfl, hgl, ho, hui, hki, hri, he⟩ := hrel
    have hsi := hui.size
    have e0 : wr.cell? ⟨w.heap.size + 1, 0, none⟩ = some (.int .i64 4) := cell_of_block hki
    have e1 : wr.cell? ⟨w.heap.size + 1, 1, none⟩ = some (.int .i64 0) := cell_of_block hki
    have e2 : wr.cell? ⟨w.heap.size + 1, 2, none⟩ = some (.string ⟨#[]⟩) := cell_of_block hki
    have e3 : wr.cell? ⟨w.heap.size + 1, 3, none⟩ = some (.float .f64 0) := cell_of_block hki
    have r0 : wr.cell? ⟨w.heap.size, 0, none⟩ = some (.int .i64 0) := cell_of_block hri
    have r1 : wr.cell? ⟨w.heap.size, 1, none⟩ = some (.int .i64 0) := cell_of_block hri
    have r2 : wr.cell? ⟨w.heap.size, 2, none⟩ = some (.string ⟨#[]⟩) := cell_of_block hri
    have r3 : wr.cell? ⟨w.heap.size, 3, none⟩ = some (.float .f64 0) := cell_of_block hri
    have fv0 : wr.frozen? ⟨w.heap.size + 1, 0, none⟩ = false := frozen_of_block hki
    have fr0 : wr.frozen? ⟨w.heap.size, 0, none⟩ = false := frozen_of_block hri
    have fv1 : wr.frozen? ⟨w.heap.size + 1, 1, none⟩ = false := frozen_of_block hki
    have fr1 : wr.frozen? ⟨w.heap.size, 1, none⟩ = false := frozen_of_block hri
    have fv2 : wr.frozen? ⟨w.heap.size + 1, 2, none⟩ = false := frozen_of_block hki
    have fr2 : wr.frozen? ⟨w.heap.size, 2, none⟩ = false := frozen_of_block hri
    have fv3 : wr.frozen? ⟨w.heap.size + 1, 3, none⟩ = false := frozen_of_block hki
    have fr3 : wr.frozen? ⟨w.heap.size, 3, none⟩ = false := frozen_of_block hri
    have HUI := hide hui
    by_cases hltk : k < n
    · have hcl := hui.cell (HX0.out k hltk)
      have hdr := drop_byte (l := l) (k := k) (by rw [HL.out]; exact hltk)
      obtain ⟨x, hx⟩ : ∃ x, x = l.getD k 0 := ⟨_, rfl⟩
      rw [← hx] at hcl hdr
      have i1 : (0 : Int) ≤ (k : Int) := by omega
      have i2 : (k : Int) < (n : Int) := by omega
      by_cases hz : x = 0
      · have hcz : wr.cell? ⟨b, off + k, none⟩ = some (.int .u8 0) := by rw [hz] at hcl; exact hcl
        rw [hz] at hdr
        replace hx := hide hx
        clear hcl hz
        by_cases hlt2 : k + 1 < n
        · have hcy := hui.cell (HX0.out (k + 1) hlt2)
          have hdr2 := drop_byte (l := l) (k := k + 1) (by rw [HL.out]; exact hlt2)
          obtain ⟨y, hy⟩ : ∃ y, y = l.getD (k + 1) 0 := ⟨_, rfl⟩
          rw [← hy] at hcy hdr2
          rw [hdr2] at hdr
          replace hy := hide hy
          have j1 : (k : Int) + 1 < (n : Int) := by omega
          have j0 : (0 : Int) ≤ (k : Int) + 1 := by omega
          have jn : ((k : Int) + 1 == (n : Int)) = false := beq_eq_false_iff_ne.2 (by omega)
          by_cases hy1 : y = 1
          · have hyes : unescL mm = some (got, l.drop (k + 2)) := by
              have := he.out
              rw [hdr, hy1, unescL_end] at this
              simpa using this
            have t1 : ((y.toNat : Int) == 1) = true := by rw [hy1]; rfl
            have t1b : ((y.toNat : Int) != 1) = false := by simp [bne, t1]
            have hcv := ho.conv
            obtain ⟨ag, cg, hag, _, _, _⟩ := ho.bts
            subst hag
            replace hyes := hide hyes
            clear hdr hdr2 he hki hri hui ho hy1
            by_cases h60 : (60 : Int) < (got.length : Int)
            · have h60b := hide h60
              go_wp2
              refine bodyPost_ret (v := .tuple #[.agg #[.int .i64 4, .int .i64 0, .string ⟨got.toArray⟩, .float .f64 0], .int .i64 0]) (by simp [results, Try.results23, go_sem, r0, r1, r2, r3]) rfl ⟨?_, .inr ⟨.inr ⟨_, _, hyes.out, by have := h60b.out; omega⟩, (4, 0, ⟨got.toArray⟩, 0), rfl⟩⟩
              exact (((((HUI.out.setCell (p := ⟨w.heap.size + 1, 2, none⟩) (Nat.le_succ _) _).setCell (p := ⟨w.heap.size, 0, none⟩) (Nat.le_refl _) _).setCell (p := ⟨w.heap.size, 1, none⟩) (Nat.le_refl _) _).setCell (p := ⟨w.heap.size, 2, none⟩) (Nat.le_refl _) _).setCell (p := ⟨w.heap.size, 3, none⟩) (Nat.le_refl _) _)
            · have h60b := hide h60
              go_wp2
              refine bodyPost_ret (v := .tuple #[.agg #[.int .i64 4, .int .i64 0, .string ⟨got.toArray⟩, .float .f64 0], .int .i64 ((k + 2 : Nat) : Int)]) (by simp [results, Try.results23, go_sem, r0, r1, r2, r3]) rfl ⟨?_, .inl ⟨_, k + 2, hyes.out, by have := h60b.out; omega, by omega, by rw [HL.out]; omega, rfl⟩⟩
              exact (((((HUI.out.setCell (p := ⟨w.heap.size + 1, 2, none⟩) (Nat.le_succ _) _).setCell (p := ⟨w.heap.size, 0, none⟩) (Nat.le_refl _) _).setCell (p := ⟨w.heap.size, 1, none⟩) (Nat.le_refl _) _).setCell (p := ⟨w.heap.size, 2, none⟩) (Nat.le_refl _) _).setCell (p := ⟨w.heap.size, 3, none⟩) (Nat.le_refl _) _)
          · have t1 : ((y.toNat : Int) == 1) = false := beq_nat 1 hy1
            have t1b : ((y.toNat : Int) != 1) = true := by simp [bne, t1]
            by_cases hy2 : y = 255
            · have hst : unescL mm = (unescL (l.drop (k + 2))).map fun p => ((got ++ [0]) ++ p.1, p.2) := by
                rw [he.out, hdr, hy2, unescL_zero]
                cases unescL (l.drop (k + 2)) <;> simp
              have t2 : ((y.toNat : Int) == 255) = true := by rw [hy2]; rfl
              have t2b : ((y.toNat : Int) != 255) = false := by simp [bne, t2]
              replace hst := hide hst
              clear hdr hdr2 he hy1 hy2
              go_wp2_with (at_builtin; refine append_bytes rfl (.tmp 123) (.tmp 124) rfl w.heap.size _ _ rfl (ho.alloc _) _ 1 1 [0] rfl rfl (byte_new rfl) (by omega) (Nat.le_trans hsi (by simp)) ?_)
              intro u5 w5 ho5 hg5
              have hb5 : Hid (Up w w5) := hide (below_append HUI.out hsi ho hg5)
              have hk5 := hide (kept_append ho hg5 hki (by decide))
              have hr5 := hide (kept_append ho hg5 hri (by decide))
              replace ho5 := hide ho5
              clear hg5 ho hki hri hui HUI hcz hcy e0 e1 e2 e3 r0 r1 r2 r3 fv0 fv1 fv2 fv3 fr0 fr1 fr2 fr3
              go_wp2
              go_roundw
              case rel => exact ⟨k + 2, got ++ [0], by omega, by omega, by go_num, by simp; omega, ho5.out, hb5.out, hk5.out, hr5.out, hst.out⟩
              case measure => simp [intOf]; omega
            · have t2 : ((y.toNat : Int) == 255) = false := beq_nat 255 hy2
              have t2b : ((y.toNat : Int) != 255) = true := by simp [bne, t2]
              have hno : unescL mm = none := by
                have := he.out
                rw [hdr, unescL_bad hy1 hy2] at this
                simpa using this
              replace hno := hide hno
              clear hdr hdr2 he ho hki hri hui hy1 hy2
              go_wp2
              refine bodyPost_ret (v := .tuple #[.agg #[.int .i64 4, .int .i64 0, .string ⟨#[]⟩, .float .f64 0], .int .i64 0]) (by simp [results, Try.results23, go_sem, r0, r1, r2, r3]) rfl ⟨?_, .inr ⟨.inl hno.out, (4, 0, ⟨#[]⟩, 0), rfl⟩⟩
              exact ((((HUI.out.setCell (p := ⟨w.heap.size, 0, none⟩) (Nat.le_refl _) _).setCell (p := ⟨w.heap.size, 1, none⟩) (Nat.le_refl _) _).setCell (p := ⟨w.heap.size, 2, none⟩) (Nat.le_refl _) _).setCell (p := ⟨w.heap.size, 3, none⟩) (Nat.le_refl _) _)
        · have hno : unescL mm = none := by
            have := he.out
            rw [hdr, List.drop_eq_nil_of_le (by rw [HL.out]; omega), unescL_last] at this
            simpa using this
          replace hno := hide hno
          have jn : ((k : Int) + 1 == (n : Int)) = true := by
            rw [beq_iff_eq]; omega
          clear hdr he ho hki hri hui
          go_wp2
          refine bodyPost_ret (v := .tuple #[.agg #[.int .i64 4, .int .i64 0, .string ⟨#[]⟩, .float .f64 0], .int .i64 0]) (by simp [results, Try.results23, go_sem, r0, r1, r2, r3]) rfl ⟨?_, .inr ⟨.inl hno.out, (4, 0, ⟨#[]⟩, 0), rfl⟩⟩
          exact ((((HUI.out.setCell (p := ⟨w.heap.size, 0, none⟩) (Nat.le_refl _) _).setCell (p := ⟨w.heap.size, 1, none⟩) (Nat.le_refl _) _).setCell (p := ⟨w.heap.size, 2, none⟩) (Nat.le_refl _) _).setCell (p := ⟨w.heap.size, 3, none⟩) (Nat.le_refl _) _)
      · have hst : unescL mm = (unescL (l.drop (k + 1))).map fun p => ((got ++ [x]) ++ p.1, p.2) := by
          rw [he.out, hdr, unescL_char hz]
          cases unescL (l.drop (k + 1)) <;> simp
        have ht : ((x.toNat : Int) == 0) = false := beq_nat 0 hz
        have ht2 : ((x.toNat : Int) != 0) = true := by simp [bne, ht]
        replace hst := hide hst
        replace hx := hide hx
        clear hz hdr he
        go_wp2_with (at_builtin; refine append_bytes rfl (.tmp 78) (.tmp 83) rfl w.heap.size _ _ rfl (ho.alloc _) _ 1 1 [x] rfl rfl (byte_new rfl) (by omega) (Nat.le_trans hsi (by simp)) ?_)
        intro u5 w5 ho5 hg5
        have hb5 : Hid (Up w w5) := hide (below_append HUI.out hsi ho hg5)
        have hk5 := hide (kept_append ho hg5 hki (by decide))
        have hr5 := hide (kept_append ho hg5 hri (by decide))
        replace ho5 := hide ho5
        clear hg5 ho hki hri hui HUI hcl e0 e1 e2 e3 r0 r1 r2 r3 fv0 fv1 fv2 fv3 fr0 fr1 fr2 fr3
        go_wp2
        go_roundw
        case rel => exact ⟨k + 1, got ++ [x], by omega, by omega, by go_num, by simp; omega, ho5.out, hb5.out, hk5.out, hr5.out, hst.out⟩
        case measure => simp [intOf]; omega
    · obtain rfl : k = n := by omega
      have hno : unescL mm = none := by
        have := he.out
        rw [List.drop_eq_nil_of_le (by rw [HL.out]; omega), unescL_nil] at this
        simpa using this
      replace hno := hide hno
      clear he ho hki hri hui
      go_wp2
      refine bodyPost_ret (v := .tuple #[.agg #[.int .i64 4, .int .i64 0, .string ⟨#[]⟩, .float .f64 0], .int .i64 0]) (by simp [results, Try.results23, go_sem, r0, r1, r2, r3]) rfl ⟨?_, .inr ⟨.inl hno.out, (4, 0, ⟨#[]⟩, 0), rfl⟩⟩
      exact ((((HUI.out.setCell (p := ⟨w.heap.size, 0, none⟩) (Nat.le_refl _) _).setCell (p := ⟨w.heap.size, 1, none⟩) (Nat.le_refl _) _).setCell (p := ⟨w.heap.size, 2, none⟩) (Nat.le_refl _) _).setCell (p := ⟨w.heap.size, 3, none⟩) (Nat.le_refl _) _)


end Go.Proofs.Ytlhaohioolagoaa
