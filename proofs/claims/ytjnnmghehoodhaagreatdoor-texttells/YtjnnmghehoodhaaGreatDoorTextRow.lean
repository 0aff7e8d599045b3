/-
  What text.Row answers of every row of values that isn't too long, as its text runs.
-/
import Derived.Test.YtjnnmghehoodhaaGreatDoorTextPrints
import Derived.Test.YtjnnmghehoodhaaGreatDoorRefAll
import Derived.Lib.SlBytesConst
namespace Go.Proofs.YtjnnmghehoodhaaGreatDoor
open Go.ChangeShapes Go.WideShapes Go.ChangeAt Go.RowKit
attribute [local go_sem ↓] Go.wp_at_zero Go.wp_at_succ
attribute [local go_sem] run_store_float
set_option linter.unusedVariables false
set_option maxRecDepth 100000

theorem mk_one (w : World) (c : UInt8) : Mk (w.alloc (.cells #[.int .u8 (c.toNat : Int)] 5 (1, 2))) w.heap.size (.slice (some ⟨w.heap.size, 0, none⟩) 1 1) [c] :=
  .inr ⟨w.heap.size, c, rfl, Nat.le_refl _, heap_alloc_new _ _, rfl⟩
theorem kept_grow {w w' : World} {base g : Nat} {v : Value} {l : List UInt8} {cs : Array Value} {t : TypeId} {fz : Nat × Nat} (hown : Mk w base v l) (hg : w.grownBy w' v.ownBlock) (hc : w.heap[g]? = some (.cells cs t fz)) (ht : t ≠ 5) :
    w'.heap[g]? = some (.cells cs t fz) := by
  have hlt : g < w.heap.size := by
    rcases Nat.lt_or_ge g w.heap.size with h' | h'
    · exact h'
    · rw [Array.getElem?_eq_none h'] at hc; cases hc
  rw [hg.block g hlt ?_]
  · exact hc
  · intro e
    rcases hown with hown | ⟨g', c', rfl, _, hk, _⟩
    · rcases hown.2 with ⟨rfl, _⟩ | ⟨g', cap, cur, rfl, _, hk, _⟩
      · cases e
      · simp only [Value.ownBlock, Option.some.injEq] at e
        subst e
        rw [hc] at hk
        injection hk with hk
        injection hk with _ hk
        exact ht hk
    · simp only [Value.ownBlock, Option.some.injEq] at e
      subst e
      rw [hc] at hk
      injection hk with hk
      injection hk with _ hk
      exact ht hk
theorem take_getD {l : List VT} {k : Nat} (h : k < l.length) : l.take (k + 1) = l.take k ++ [l.getD k zeroT] := by
  rw [List.take_add_one, List.getElem?_eq_getElem h, List.getD_eq_getElem?_getD, List.getElem?_eq_getElem h]
  rfl

set_option maxHeartbeats 8000000 in
theorem trow_calls (a : Option Addr) (n c : Nat) (l : List VT) (w : World) (hn : n ≤ 1000) (h : Vals w a n l) (hT : Tabs w) : Calls Tryz.prog 8 #[.slice a n c] w fun e w' => e = .returned (.string ⟨(rowT l).toArray⟩) ∧ Up w w' := by
  have V := hide h
  have HT := hide hT
  have hbig := hT.big
  have hkc := Go.Lib.run_convert_bytes_const (P := Tryz.prog) w 42 5 #[.int .u8 40] 1 1 Tryz.underlying42 Tryz.underlying5
  have hsz1 : (#[Value.int .u8 40] : Array Value).size = 1 := rfl
  rw [hsz1] at hkc
  obtain ⟨W, hW⟩ : ∃ W, w.alloc (.cells #[.int .u8 40] 5 (1, 1 + 1)) = W := ⟨_, rfl⟩
  rw [hW] at hkc
  have HO : Hid (Mk W w.heap.size (.slice (some ⟨w.heap.size, 0, none⟩) 1 1) (rowB (l.take 0))) := by subst hW; exact mk_one w 40
  have HU : Hid (Up w W) := by subst hW; exact (Up.refl _).alloc _
  clear h hT
  go_enter Tryz.func8, Tryz.ntmps8
  go_wp2_with fail
  go_loopw [3, 10] (fun b i wr => ∃ k : Nat, k ≤ n ∧ i = .int .i64 (k : Int) ∧ Hid (Mk wr w.heap.size b (rowB (l.take k)) ∧ Up w wr)) (fun _ i _ => n - (intOf i).toNat)
  case atStart => exact ⟨0, Nat.zero_le _, rfl, HO.out, HU.out⟩
  case round =>
    obtain ⟨k, hk, rfl, HH⟩ := hrel
    clear HO HU hW
    have hlen : (rowB (l.take k)).length ≤ 1 + 252 * k := by
      have := rowB_len (l.take k) (fun v hv => fits_mem V.out.2.1 v (List.mem_of_mem_take hv))
      rw [List.length_take] at this
      omega
    by_cases hlt : k < n
    · obtain ⟨b0, o0, rfl, hat⟩ : ∃ b off, a = some ⟨b, off, none⟩ ∧ At wr b (off + k * 4) (l.getD k zeroT) := by
        rcases V.out.2.2 with h | ⟨b, off, rfl, hx⟩
        · omega
        · exact ⟨b, off, rfl, (hx k hlt).up HH.out.2⟩
      obtain ⟨c0, c1, c2, c3⟩ := hat
      have hf := V.out.2.1 k
      have HS := hide (take_getD (l := l) (k := k) (by rw [V.out.1]; exact hlt))
      obtain ⟨⟨q, m, s, f⟩, hx⟩ : ∃ x, x = l.getD k zeroT := ⟨_, rfl⟩
      rw [← hx] at c0 c1 c2 c3 hf HS
      clear hx
      simp only at c0 c1 c2 c3
      have i0 : (0 : Int) ≤ (k : Int) := by omega
      have i1 : (k : Int) < (n : Int) := by omega
      obtain ⟨W1, hW1⟩ : ∃ W1, wr.alloc (.cells #[.int .i64 q, .int .i64 m, .string s, .float .f64 f] 24) = W1 := ⟨_, rfl⟩
      have hc1 : W1.heap[wr.heap.size]? = some (.cells #[.int .i64 q, .int .i64 m, .string s, .float .f64 f] 24 (0, 0)) := by subst hW1; exact heap_alloc_new _ _
      have hu1 : Up wr W1 := by subst hW1; exact (Up.refl _).alloc _
      have ho1 : Mk W1 w.heap.size _ (rowB (l.take k)) := HH.out.1.up hu1
      have hU1 := HH.out.2.trans hu1
      have hbs := hU1.size
      have HTW := hide (HT.out.up hU1)
      have HU1 := hide hU1
      by_cases hz : k = 0
      · have z1 : ¬ (0 : Int) < (k : Int) := by omega
        have d0 : W1.cell? ⟨wr.heap.size, 0, none⟩ = some (.int .i64 q) := t_cell hc1 rfl
        have d1 : W1.cell? ⟨wr.heap.size, 1, none⟩ = some (.int .i64 m) := t_cell hc1 rfl
        have d2 : W1.cell? ⟨wr.heap.size, 2, none⟩ = some (.string s) := t_cell hc1 rfl
        have d3 : W1.cell? ⟨wr.heap.size, 3, none⟩ = some (.float .f64 f) := t_cell hc1 rfl
        have HE : Hid (rowB (l.take (k + 1)) = rowB (l.take k) ++ prnV (q, m, s, f)) := by rw [HS.out, hz]; exact rowB_first _
        have hP := tputValue_calls w.heap.size _ _ q m s f W1 hf HTW.out hbig ho1 hbs (by omega)
        replace hz := hide hz
        clear hc1 hu1 hU1 ho1 HH HTW hlen hf
        go_wp2_with fail
        go_at_call 16
        refine hP.mono ?_
        rintro _ w2 ⟨b2, rfl, ho2, hb2⟩
        have HU2 : Hid (Up w w2) := HU1.out.below.trans hb2
        replace ho2 := hide ho2
        clear hb2 hP hW1
        go_wp2
        go_roundw
        case rel => exact ⟨k + 1, by omega, by go_num, by rw [HE.out]; exact ho2.out.mk, HU2.out⟩
        case measure => simp [intOf]; omega
      · have z1 : (0 : Int) < (k : Int) := by omega
        have HE : Hid (rowB (l.take (k + 1)) = rowB (l.take k) ++ [44, 32] ++ prnV (q, m, s, f)) := by
          rw [HS.out, rowB_next _ _ ?_, List.append_assoc]
          · rfl
          · intro e
            have := congrArg List.length e
            rw [List.length_take, V.out.1, List.length_nil] at this
            omega
        go_wp2_with (at_builtin; refine mk_append_str rfl _ _ rfl w.heap.size _ _ rfl ho1 ⟨#[44, 32]⟩ rfl (by decide) (by show (rowB (l.take k)).length + 2 ≤ _; omega) hbs ?_)
        intro b2 w2 ho2 hg2
        have hc2 := kept_grow ho1 hg2 hc1 (by decide)
        have hb2 := mk_below_grow HU1.out.below hbs ho1 hg2
        have hbs2 : w.heap.size ≤ w2.heap.size := hb2.size
        have HT2 := hide (HT.out.up hb2)
        have d0 : w2.cell? ⟨wr.heap.size, 0, none⟩ = some (.int .i64 q) := t_cell hc2 rfl
        have d1 : w2.cell? ⟨wr.heap.size, 1, none⟩ = some (.int .i64 m) := t_cell hc2 rfl
        have d2 : w2.cell? ⟨wr.heap.size, 2, none⟩ = some (.string s) := t_cell hc2 rfl
        have d3 : w2.cell? ⟨wr.heap.size, 3, none⟩ = some (.float .f64 f) := t_cell hc2 rfl
        have hP := tputValue_calls w.heap.size _ _ q m s f w2 hf HT2.out hbig ho2.mk hbs2 (by rw [List.length_append]; show (rowB (l.take k)).length + 2 ≤ _; omega)
        have HB2 := hide hb2
        clear hc1 hc2 hu1 hU1 ho1 HH HTW hlen hf hg2 hb2 ho2 hW1 c0 c1 c2 c3
        go_wp2_with fail
        go_at_call 16
        refine hP.mono ?_
        rintro _ w3 ⟨b3, rfl, ho3, hb3⟩
        have HU3 : Hid (Up w w3) := HB2.out.trans hb3
        replace ho3 := hide ho3
        clear hb3 hP
        go_wp2
        go_roundw
        case rel => exact ⟨k + 1, by omega, by go_num, by rw [HE.out]; exact ho3.out.mk, HU3.out⟩
        case measure => simp [intOf]; omega
    · obtain rfl : k = n := by omega
      have ho := HH.out.1
      have HU1 := hide HH.out.2
      have hbs := HU1.out.size
      have hal : l.take k = l := List.take_of_length_le (by rw [V.out.1]; omega)
      rw [hal] at ho hlen
      clear HH
      go_wp2_with (at_builtin; refine mk_append_str rfl _ _ rfl w.heap.size _ _ rfl ho ⟨#[41]⟩ rfl (by decide) (by show (rowB l).length + 1 ≤ _; omega) hbs ?_)
      intro b2 w2 ho2 hg2
      have HU2 : Hid (Up w w2) := mk_below_grow HU1.out.below hbs ho hg2
      have hcv := ho2.conv
      have e : rowB l ++ (⟨#[41]⟩ : ByteArray).data.toList = rowT l := rfl
      rw [e] at hcv
      clear hg2 ho ho2 e
      go_wp2
      go_ret
      exact ⟨rfl, HU2.out⟩

end Go.Proofs.YtjnnmghehoodhaaGreatDoor
