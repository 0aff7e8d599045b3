/-
  What the document's own writers (package rialtoref3: eight, Put) answer, as their text runs: the same bytes as package code's.
-/
import Derived.Test.YtlhaohioolagoaaCodePutL
import Derived.Test.YtlhaohioolagoaaRefVals
namespace Go.Proofs.Ytlhaohioolagoaa
open Go.ChangeShapes Go.WideShapes Go.ChangeAt Go.RowKit
attribute [local go_sem ↓] Go.wp_at_zero Go.wp_at_succ
attribute [local go_sem] run_store_float

set_option maxHeartbeats 4000000 in
theorem eight_calls (base : Nat) (v : Value) (l : List UInt8) (x : Nat) (w : World) (hown : Own w base v l) (hb : base ≤ w.heap.size) (hlen : l.length ≤ 1000000) :
    Calls Try.prog 20 #[v, .int .u64 (x : Int)] w fun e w' => ∃ v', e = .returned v' ∧ Own w' base v' (l ++ wordL x) ∧ Below base w w' := by
  have hsg : IntKind.u64.signed = false := rfl
  have HO := hide hown
  clear hown
  go_enter Try.func20, Try.ntmps20
  go_wp2_with fail
  go_loopw [0, 5] (fun u i wr => ∃ k : Nat, k ≤ 8 ∧ i = .int .i64 (56 - 8 * (k : Int)) ∧ Own wr base u (l ++ (wordL x).take k) ∧ Below base w wr) (fun _ i _ => (intOf i + 8).toNat)
  case atStart => exact ⟨0, Nat.zero_le _, rfl, by simpa using HO.out, Below.refl _ _⟩
  case round =>
    obtain ⟨k, hk, rfl, ho, hbel⟩ := hrel
    have hbs := Nat.le_trans hb hbel.size
    by_cases hlt : k < 8
    · have hl2 : (l ++ (wordL x).take k).length + 1 ≤ 1000000000000 := by simp [wordL]; omega
      rcases eight_cases hlt with rfl | rfl | rfl | rfl | rfl | rfl | rfl | rfl
      · go_wp2_with (at_builtin; refine append_bytes rfl _ _ rfl base _ _ rfl (ho.alloc _) _ 1 1 [byteOf x 72057594037927936] rfl rfl (byte_new (byteOf_int x 72057594037927936)) hl2 (Nat.le_trans hbs (by simp)) ?_)
        intro u1 w1 ho1 hg1
        have hb1 := hide (below_append hbel hbs ho hg1)
        replace ho1 := hide ho1
        clear hg1 ho hl2 hbs hbel
        go_wp2
        go_roundw
        case rel => exact ⟨1, by omega, rfl, by simpa [wordL] using ho1.out, hb1.out⟩
        case measure => simp [intOf]
      · go_wp2_with (at_builtin; refine append_bytes rfl _ _ rfl base _ _ rfl (ho.alloc _) _ 1 1 [byteOf x 281474976710656] rfl rfl (byte_new (byteOf_int x 281474976710656)) hl2 (Nat.le_trans hbs (by simp)) ?_)
        intro u1 w1 ho1 hg1
        have hb1 := hide (below_append hbel hbs ho hg1)
        replace ho1 := hide ho1
        clear hg1 ho hl2 hbs hbel
        go_wp2
        go_roundw
        case rel => exact ⟨2, by omega, rfl, by simpa [wordL] using ho1.out, hb1.out⟩
        case measure => simp [intOf]
      · go_wp2_with (at_builtin; refine append_bytes rfl _ _ rfl base _ _ rfl (ho.alloc _) _ 1 1 [byteOf x 1099511627776] rfl rfl (byte_new (byteOf_int x 1099511627776)) hl2 (Nat.le_trans hbs (by simp)) ?_)
        intro u1 w1 ho1 hg1
        have hb1 := hide (below_append hbel hbs ho hg1)
        replace ho1 := hide ho1
        clear hg1 ho hl2 hbs hbel
        go_wp2
        go_roundw
        case rel => exact ⟨3, by omega, rfl, by simpa [wordL] using ho1.out, hb1.out⟩
        case measure => simp [intOf]
      · go_wp2_with (at_builtin; refine append_bytes rfl _ _ rfl base _ _ rfl (ho.alloc _) _ 1 1 [byteOf x 4294967296] rfl rfl (byte_new (byteOf_int x 4294967296)) hl2 (Nat.le_trans hbs (by simp)) ?_)
        intro u1 w1 ho1 hg1
        have hb1 := hide (below_append hbel hbs ho hg1)
        replace ho1 := hide ho1
        clear hg1 ho hl2 hbs hbel
        go_wp2
        go_roundw
        case rel => exact ⟨4, by omega, rfl, by simpa [wordL] using ho1.out, hb1.out⟩
        case measure => simp [intOf]
      · go_wp2_with (at_builtin; refine append_bytes rfl _ _ rfl base _ _ rfl (ho.alloc _) _ 1 1 [byteOf x 16777216] rfl rfl (byte_new (byteOf_int x 16777216)) hl2 (Nat.le_trans hbs (by simp)) ?_)
        intro u1 w1 ho1 hg1
        have hb1 := hide (below_append hbel hbs ho hg1)
        replace ho1 := hide ho1
        clear hg1 ho hl2 hbs hbel
        go_wp2
        go_roundw
        case rel => exact ⟨5, by omega, rfl, by simpa [wordL] using ho1.out, hb1.out⟩
        case measure => simp [intOf]
      · go_wp2_with (at_builtin; refine append_bytes rfl _ _ rfl base _ _ rfl (ho.alloc _) _ 1 1 [byteOf x 65536] rfl rfl (byte_new (byteOf_int x 65536)) hl2 (Nat.le_trans hbs (by simp)) ?_)
        intro u1 w1 ho1 hg1
        have hb1 := hide (below_append hbel hbs ho hg1)
        replace ho1 := hide ho1
        clear hg1 ho hl2 hbs hbel
        go_wp2
        go_roundw
        case rel => exact ⟨6, by omega, rfl, by simpa [wordL] using ho1.out, hb1.out⟩
        case measure => simp [intOf]
      · go_wp2_with (at_builtin; refine append_bytes rfl _ _ rfl base _ _ rfl (ho.alloc _) _ 1 1 [byteOf x 256] rfl rfl (byte_new (byteOf_int x 256)) hl2 (Nat.le_trans hbs (by simp)) ?_)
        intro u1 w1 ho1 hg1
        have hb1 := hide (below_append hbel hbs ho hg1)
        replace ho1 := hide ho1
        clear hg1 ho hl2 hbs hbel
        go_wp2
        go_roundw
        case rel => exact ⟨7, by omega, rfl, by simpa [wordL] using ho1.out, hb1.out⟩
        case measure => simp [intOf]
      · go_wp2_with (at_builtin; refine append_bytes rfl _ _ rfl base _ _ rfl (ho.alloc _) _ 1 1 [byteOf x 1] rfl rfl (byte_new (byteOf_int1 x)) hl2 (Nat.le_trans hbs (by simp)) ?_)
        intro u1 w1 ho1 hg1
        have hb1 := hide (below_append hbel hbs ho hg1)
        replace ho1 := hide ho1
        clear hg1 ho hl2 hbs hbel
        go_wp2
        go_roundw
        case rel => exact ⟨8, by omega, rfl, by simpa [wordL] using ho1.out, hb1.out⟩
        case measure => simp [intOf]
    · obtain rfl : k = 8 := by omega
      replace ho := hide ho
      replace hbel := hide hbel
      go_wp2
      go_ret
      exact ⟨_, rfl, by simpa [wordL] using ho.out, hbel.out⟩

theorem heap_up {w w' : World} (h : Up w w') {g : Nat} {o : Obj} (ho : w.heap[g]? = some o) : w'.heap[g]? = some o := by
  have hlt : g < w.heap.size := by
    rcases Nat.lt_or_ge g w.heap.size with h' | h'
    · exact h'
    · rw [Array.getElem?_eq_none h'] at ho; cases ho
  exact (h.below.block g hlt).trans ho

/-- Put of the document, of a row of no values. -/
theorem rput_none (a : Option Addr) (c : Nat) (w : World) : Calls Try.prog 11 #[.slice a 0 c] w fun e w' => PutPost w [] 20 e w' := by
  go_enter Try.func11, Try.ntmps11
  go_wp2_with fail
  refine wp_loop_rounds 1 ?_
  rw [rounds_succ]
  go_wp2
  go_ret2
  exact ⟨Up.refl _, .inl ⟨rfl, _, rfl, Own.nil _ _⟩⟩

set_option maxHeartbeats 8000000 in
theorem rput_some (b off n c : Nat) (l : List VT) (w : World) (hl : l.length = n) (hn : n ≤ 1000) (hg : ∀ i, Fits (l.getD i zeroT)) (hx : ∀ i, i < n → At w b (off + i * 4) (l.getD i zeroT)) :
    Calls Try.prog 11 #[.slice (some ⟨b, off, none⟩) n c] w fun e w' => PutPost w l 20 e w' := by
  have H := hide hx
  have G := hide hg
  have HL := hide hl
  clear hx hg hl
  go_enter Try.func11, Try.ntmps11
  go_wp2_with fail
  go_loopw [4, 5] (fun u i wr => ∃ k : Nat, k ≤ n ∧ i = .int .i64 k ∧ Own wr w.heap.size u (putL (l.take k)) ∧ Up w wr ∧ Hid (∀ j, j < k → isB (l.getD j zeroT) = true)) (fun _ i _ => n - (intOf i).toNat)
  case atStart => exact ⟨0, Nat.zero_le _, rfl, Own.nil _ _, Up.refl _, fun j hj => absurd hj (Nat.not_lt_zero j)⟩
  case round =>
    obtain ⟨k, hk, rfl, ho, hu, he⟩ := hrel
    by_cases hlt : k < n
    · obtain ⟨l0, l1, l2, l3⟩ := (H.out k hlt).up hu
      have hfit := G.out k
      have hstep := putL_take l k (by rw [HL.out]; exact hlt)
      have hlen := putL_length (l.take k) (fun j hj => by
        rw [List.length_take] at hj
        have := he.out j (by omega)
        rwa [List.getD_eq_getElem?_getD, List.getElem?_take, if_pos (by omega), ← List.getD_eq_getElem?_getD])
      rw [List.length_take] at hlen
      have hbad := all_bad (l := l) (k := k) (by rw [HL.out]; exact hlt)
      have hgood : isB (l.getD k zeroT) = true → ∀ j, j < k + 1 → isB (l.getD j zeroT) = true := fun h j hj => by
        rcases Nat.lt_succ_iff_lt_or_eq.1 hj with hj | rfl
        · exact he.out j hj
        · exact h
      obtain ⟨⟨q, m, s, f⟩, hx⟩ : ∃ x, x = l.getD k zeroT := ⟨_, rfl⟩
      rw [← hx] at l0 l1 l2 l3 hfit hstep hbad hgood
      simp only at l0 l1 l2 l3
      obtain ⟨B, hB⟩ : ∃ B, B = putL (l.take k) := ⟨_, rfl⟩
      rw [← hB] at ho hstep hlen
      have hlB : B.length ≤ 500000 := by omega
      have hfn : IntKind.i64.min ≤ m ∧ m ≤ IntKind.i64.max := ⟨hfit.2.2.1, hfit.2.2.2.1⟩
      have hff : f < whole := hfit.2.2.2.2.2
      have FN := hide hfn
      have ST := hide hstep
      have BA := hide hbad
      have GO := hide hgood
      clear hfit hstep hbad hgood hlen hB hx he hfn
      have i0 : (0 : Int) ≤ (k : Int) := by omega
      have i1 : (k : Int) < (n : Int) := by omega
      obtain ⟨W, hW⟩ : ∃ W, wr.alloc (.cells #[.int .i64 q, .int .i64 m, .string s, .float .f64 f] 41) = W := ⟨_, rfl⟩
      have hbW : W.heap[wr.heap.size]? = some (.cells #[.int .i64 q, .int .i64 m, .string s, .float .f64 f] 41 (0, 0)) := by subst hW; exact heap_alloc_new _ _
      have c0 : W.cell? ⟨wr.heap.size, 0, none⟩ = some (.int .i64 q) := cell_of_block hbW
      have c1 : W.cell? ⟨wr.heap.size, 1, none⟩ = some (.int .i64 m) := cell_of_block hbW
      have c2 : W.cell? ⟨wr.heap.size, 2, none⟩ = some (.string s) := cell_of_block hbW
      have c3 : W.cell? ⟨wr.heap.size, 3, none⟩ = some (.float .f64 f) := cell_of_block hbW
      have hu2 : Hid (Up w W) := by subst hW; exact hu.alloc _
      replace ho : Hid (Own W w.heap.size u4 B) := by subst hW; exact ho.alloc _
      replace hu := hide hu
      have HBW := hide hbW
      clear hbW
      go_wp2_with fail
      go_at_call 19
      refine (ris_calls q m s f _).mono ?_
      rintro _ w1 ⟨rfl, hu1⟩
      replace c0 := hu1.cell c0
      replace c1 := hu1.cell c1
      replace c2 := hu1.cell c2
      replace c3 := hu1.cell c3
      replace ho := hide (ho.out.up hu1)
      replace hu2 := hide (hu2.out.trans hu1)
      have hb1 := hide (heap_up hu1 HBW.out)
      have hs1 := hu2.out.size
      clear hu1 hW l0 l1 l2 l3 HBW hu
      cases hisb : isB (q, m, s, f)
      · go_wp2
        go_ret2
        exact ⟨hu2.out, .inr ⟨BA.out hisb, rfl⟩⟩
      have hgd := hide (GO.out hisb)
      rcases isB_cases hisb with ⟨rfl, _⟩ | ⟨rfl, hm, _⟩ | ⟨rfl | rfl, _, hs, _⟩ | ⟨rfl, _⟩
      · clear BA GO
        have hup := wrap_up m FN.out
        go_wp2_with (at_builtin; refine append_bytes rfl (.tmp 21) (.tmp 25) rfl w.heap.size _ _ rfl (ho.out.alloc _) _ 1 1 [1] rfl rfl (byte_new rfl) (by omega) (Nat.le_trans hs1 (by simp)) ?_)
        intro u2 w2 ho2 hg2
        have hb2 : Up w w2 := below_append hu2.out hs1 ho.out hg2
        have hk2 := kept_append ho.out hg2 hb1.out (by decide)
        have hs2 := hb2.size
        have d0 : w2.cell? ⟨wr.heap.size, 0, none⟩ = some (.int .i64 1) := cell_of_block hk2
        have d1 : w2.cell? ⟨wr.heap.size, 1, none⟩ = some (.int .i64 m) := cell_of_block hk2
        have d2 : w2.cell? ⟨wr.heap.size, 2, none⟩ = some (.string s) := cell_of_block hk2
        have d3 : w2.cell? ⟨wr.heap.size, 3, none⟩ = some (.float .f64 f) := cell_of_block hk2
        have HK := hide hk2
        have HB2 := hide hb2
        have hl2 : (B ++ [1]).length + 1 ≤ 1000000 := by rw [List.length_append]; simp only [List.length_singleton]; omega
        clear hk2 hg2 ho hb1 hu2 hb2 c0 c1 c2 c3
        go_wp2_with fail
        go_at_call 20
        refine (eight_calls w.heap.size _ _ (upI m) _ ho2 hs2 (by omega)).mono ?_
        rintro _ w9 ⟨u9, rfl, ho9, hb9⟩
        have hu9 : Hid (Up w w9) := hide (HB2.out.below.trans hb9)
        replace ho9 := hide ho9
        clear hb9 HB2 ho2 d0 d1 d2 d3 HK
        go_wp2
        go_roundw
        case rel => exact ⟨k + 1, by omega, by go_num, by rw [ST.out]; simpa [putV, bodyV] using ho9.out, hu9.out, hgd.out⟩
        case measure => simp [intOf]; omega
      · clear BA GO
        go_wp2_with (at_builtin; refine append_bytes rfl (.tmp 21) (.tmp 25) rfl w.heap.size _ _ rfl (ho.out.alloc _) _ 1 1 [2] rfl rfl (byte_new rfl) (by omega) (Nat.le_trans hs1 (by simp)) ?_)
        intro u2 w2 ho2 hg2
        have hb2 : Up w w2 := below_append hu2.out hs1 ho.out hg2
        have hk2 := kept_append ho.out hg2 hb1.out (by decide)
        have hs2 := hb2.size
        have d0 : w2.cell? ⟨wr.heap.size, 0, none⟩ = some (.int .i64 2) := cell_of_block hk2
        have d1 : w2.cell? ⟨wr.heap.size, 1, none⟩ = some (.int .i64 m) := cell_of_block hk2
        have d2 : w2.cell? ⟨wr.heap.size, 2, none⟩ = some (.string s) := cell_of_block hk2
        have d3 : w2.cell? ⟨wr.heap.size, 3, none⟩ = some (.float .f64 f) := cell_of_block hk2
        have HK := hide hk2
        have HB2 := hide hb2
        have hl2 : (B ++ [2]).length + 1 ≤ 1000000 := by rw [List.length_append]; simp only [List.length_singleton]; omega
        clear hk2 hg2 ho hb1 hu2 hb2 c0 c1 c2 c3
        have hby := hide (bool_byte m hm)
        clear hm
        go_wp2_with (at_builtin; refine append_bytes rfl (.tmp 64) (.tmp 68) rfl w.heap.size _ _ rfl (ho2.alloc _) _ 1 1 [UInt8.ofNat m.toNat] rfl rfl (byte_new hby.out) (Nat.le_trans hl2 (by omega)) (Nat.le_trans hs2 (by simp)) ?_)
        intro u9 w9 ho9 hg9
        have hu9 : Hid (Up w w9) := hide (below_append HB2.out.below hs2 ho2 hg9)
        replace ho9 := hide ho9
        clear hg9 HB2 ho2 d0 d1 d2 d3 HK
        go_wp2
        go_roundw
        case rel => exact ⟨k + 1, by omega, by go_num, by rw [ST.out]; simpa [putV, bodyV] using ho9.out, hu9.out, hgd.out⟩
        case measure => simp [intOf]; omega
      · clear BA GO
        go_wp2_with (at_builtin; refine append_bytes rfl (.tmp 21) (.tmp 25) rfl w.heap.size _ _ rfl (ho.out.alloc _) _ 1 1 [3] rfl rfl (byte_new rfl) (by omega) (Nat.le_trans hs1 (by simp)) ?_)
        intro u2 w2 ho2 hg2
        have hb2 : Up w w2 := below_append hu2.out hs1 ho.out hg2
        have hk2 := kept_append ho.out hg2 hb1.out (by decide)
        have hs2 := hb2.size
        have d0 : w2.cell? ⟨wr.heap.size, 0, none⟩ = some (.int .i64 3) := cell_of_block hk2
        have d1 : w2.cell? ⟨wr.heap.size, 1, none⟩ = some (.int .i64 m) := cell_of_block hk2
        have d2 : w2.cell? ⟨wr.heap.size, 2, none⟩ = some (.string s) := cell_of_block hk2
        have d3 : w2.cell? ⟨wr.heap.size, 3, none⟩ = some (.float .f64 f) := cell_of_block hk2
        have HK := hide hk2
        have HB2 := hide hb2
        have hl2 : (B ++ [3]).length + 1 ≤ 1000000 := by rw [List.length_append]; simp only [List.length_singleton]; omega
        clear hk2 hg2 ho hb1 hu2 hb2 c0 c1 c2 c3
        obtain ⟨vb, hvb⟩ : ∃ vb, wr.heap.size = vb := ⟨_, rfl⟩
        rw [hvb] at d0 d1 d2 d3 HK
        go_wp2_with fail
        rw [hvb]
        clear hvb
        go_loopw [4, 7] (fun u i wi => ∃ j : Nat, j ≤ s.size ∧ i = .int .i64 j ∧ Own wi w.heap.size u ((B ++ [3]) ++ escL (s.data.toList.take j)) ∧ Up w wi ∧ wi.heap[vb]? = some (.cells #[.int .i64 3, .int .i64 m, .string s, .float .f64 f] 41 (0, 0))) (fun _ i _ => s.size - (intOf i).toNat)
        case atStart => exact ⟨0, Nat.zero_le _, rfl, by simpa [escL] using ho2, HB2.out, HK.out⟩
        case round =>
          obtain ⟨j, hj, rfl, hoi, hui, hki⟩ := hrel
          have hsi := hui.size
          have hel := esc_len s j
          have HST := hide (fun h => esc_step s j h)
          obtain ⟨C, hC⟩ : ∃ C, C = (B ++ [3]) ++ escL (s.data.toList.take j) := ⟨_, rfl⟩
          have hlc : C.length + 2 ≤ 1000000000000 := by rw [hC, List.length_append]; omega
          rw [← hC] at hoi
          replace hC := hide hC
          have e2 := cell_of_block (i := 2) hki
          simp only [List.getElem?_toArray, List.getElem?_cons_succ, List.getElem?_cons_zero] at e2
          by_cases hlt2 : j < s.size
          · have j0 : (0 : Int) ≤ (j : Int) := by omega
            have j1 : (j : Int) < (s.size : Int) := by omega
            have hst := hide (HST.out hlt2)
            by_cases hz : s[j] = 0
            · have ht : ((s[j].toNat : Int) == 0) = true := by rw [hz]; rfl
              have HZ := hide hz
              clear hz
              go_wp2_with (at_builtin; refine append_bytes rfl (.tmp 36) (.tmp 41) rfl w.heap.size _ _ rfl (hoi.alloc _) _ 1 1 [s[j]] rfl rfl (byte_new rfl) (by omega) (Nat.le_trans hsi (by simp)) ?_)
              intro u5 w5 ho5 hg5
              have hb5 : Up w w5 := below_append hui hsi hoi hg5
              have hk5 := kept_append hoi hg5 hki (by decide)
              have e5 := cell_of_block (i := 2) hk5
              simp only [List.getElem?_toArray, List.getElem?_cons_succ, List.getElem?_cons_zero] at e5
              have hs5 := hb5.size
              have hl5 : (C ++ [s[j]]).length + 1 ≤ 1000000000000 := by rw [List.length_append]; simp only [List.length_singleton]; omega
              clear hg5 hoi e2 hki hui
              go_wp2_with (at_builtin; refine append_bytes rfl (.tmp 48) (.tmp 49) rfl w.heap.size _ _ rfl (ho5.alloc _) _ 1 1 [255] rfl rfl (byte_new rfl) hl5 (Nat.le_trans hs5 (by simp)) ?_)
              intro u6 w6 ho6 hg6
              have hb6 : Hid (Up w w6) := hide (below_append hb5 hs5 ho5 hg6)
              have hk6 := hide (kept_append ho5 hg6 hk5 (by decide))
              replace ho6 := hide ho6
              clear hg6 ho5 hk5 e5 hb5
              go_wp2
              go_roundw
              case rel =>
                refine ⟨j + 1, by omega, by go_num, ?_, hb6.out, hk6.out⟩
                have h2 := ho6.out
                rw [hst.out, if_pos HZ.out, ← List.append_assoc, ← hC.out]
                rw [HZ.out] at h2
                simpa using h2
              case measure => simp [intOf]; omega
            · have ht : ((s[j].toNat : Int) == 0) = false := by
                refine beq_eq_false_iff_ne.2 fun e => hz ?_
                exact UInt8.toNat_inj.1 (by simpa using e)
              have HZ := hide hz
              clear hz
              go_wp2_with (at_builtin; refine append_bytes rfl (.tmp 36) (.tmp 41) rfl w.heap.size _ _ rfl (hoi.alloc _) _ 1 1 [s[j]] rfl rfl (byte_new rfl) (by omega) (Nat.le_trans hsi (by simp)) ?_)
              intro u5 w5 ho5 hg5
              have hb5 : Hid (Up w w5) := hide (below_append hui hsi hoi hg5)
              have hk5 := kept_append hoi hg5 hki (by decide)
              have e5 := cell_of_block (i := 2) hk5
              simp only [List.getElem?_toArray, List.getElem?_cons_succ, List.getElem?_cons_zero] at e5
              replace hk5 := hide hk5
              replace ho5 := hide ho5
              clear hg5 hoi e2 hki hui
              go_wp2
              go_roundw
              case rel =>
                refine ⟨j + 1, by omega, by go_num, ?_, hb5.out, hk5.out⟩
                have h2 := ho5.out
                rw [hst.out, if_neg HZ.out, ← List.append_assoc, ← hC.out]
                exact h2
              case measure => simp [intOf]; omega
          · obtain rfl : j = s.size := by omega
            go_wp2_with (at_builtin; refine append_bytes rfl (.tmp 51) (.tmp 52) rfl w.heap.size _ _ rfl (hoi.alloc _) _ 2 2 [0, 1] rfl rfl (bytes_new2 rfl rfl) hlc (Nat.le_trans hsi (by simp)) ?_)
            intro u9 w9 ho9 hg9
            have hu9 : Hid (Up w w9) := hide (below_append hui hsi hoi hg9)
            have h9 : Hid (Own w9 w.heap.size u9 (B ++ putV (3, m, s, f))) := by
              have e : s.data.toList.take s.size = s.data.toList := List.take_of_length_le (by simp)
              have hc2 := hC.out
              rw [e] at hc2
              have e2 : B ++ putV (3, m, s, f) = C ++ [0, 1] := by
                rw [hc2]
                simp [putV, bodyV, strL]
              rw [e2]
              exact ho9
            clear hg9 hoi e2 hki hui ho9
            go_wp2
            go_roundw
            case rel => exact ⟨k + 1, by omega, by go_num, by rw [ST.out]; exact h9.out, hu9.out, hgd.out⟩
            case measure => simp [intOf]; omega
      · clear BA GO
        go_wp2_with (at_builtin; refine append_bytes rfl (.tmp 21) (.tmp 25) rfl w.heap.size _ _ rfl (ho.out.alloc _) _ 1 1 [4] rfl rfl (byte_new rfl) (by omega) (Nat.le_trans hs1 (by simp)) ?_)
        intro u2 w2 ho2 hg2
        have hb2 : Up w w2 := below_append hu2.out hs1 ho.out hg2
        have hk2 := kept_append ho.out hg2 hb1.out (by decide)
        have hs2 := hb2.size
        have d0 : w2.cell? ⟨wr.heap.size, 0, none⟩ = some (.int .i64 4) := cell_of_block hk2
        have d1 : w2.cell? ⟨wr.heap.size, 1, none⟩ = some (.int .i64 m) := cell_of_block hk2
        have d2 : w2.cell? ⟨wr.heap.size, 2, none⟩ = some (.string s) := cell_of_block hk2
        have d3 : w2.cell? ⟨wr.heap.size, 3, none⟩ = some (.float .f64 f) := cell_of_block hk2
        have HK := hide hk2
        have HB2 := hide hb2
        have hl2 : (B ++ [4]).length + 1 ≤ 1000000 := by rw [List.length_append]; simp only [List.length_singleton]; omega
        clear hk2 hg2 ho hb1 hu2 hb2 c0 c1 c2 c3
        obtain ⟨vb, hvb⟩ : ∃ vb, wr.heap.size = vb := ⟨_, rfl⟩
        rw [hvb] at d0 d1 d2 d3 HK
        go_wp2_with fail
        rw [hvb]
        clear hvb
        go_loopw [4, 7] (fun u i wi => ∃ j : Nat, j ≤ s.size ∧ i = .int .i64 j ∧ Own wi w.heap.size u ((B ++ [4]) ++ escL (s.data.toList.take j)) ∧ Up w wi ∧ wi.heap[vb]? = some (.cells #[.int .i64 4, .int .i64 m, .string s, .float .f64 f] 41 (0, 0))) (fun _ i _ => s.size - (intOf i).toNat)
        case atStart => exact ⟨0, Nat.zero_le _, rfl, by simpa [escL] using ho2, HB2.out, HK.out⟩
        case round =>
          obtain ⟨j, hj, rfl, hoi, hui, hki⟩ := hrel
          have hsi := hui.size
          have hel := esc_len s j
          have HST := hide (fun h => esc_step s j h)
          obtain ⟨C, hC⟩ : ∃ C, C = (B ++ [4]) ++ escL (s.data.toList.take j) := ⟨_, rfl⟩
          have hlc : C.length + 2 ≤ 1000000000000 := by rw [hC, List.length_append]; omega
          rw [← hC] at hoi
          replace hC := hide hC
          have e2 := cell_of_block (i := 2) hki
          simp only [List.getElem?_toArray, List.getElem?_cons_succ, List.getElem?_cons_zero] at e2
          by_cases hlt2 : j < s.size
          · have j0 : (0 : Int) ≤ (j : Int) := by omega
            have j1 : (j : Int) < (s.size : Int) := by omega
            have hst := hide (HST.out hlt2)
            by_cases hz : s[j] = 0
            · have ht : ((s[j].toNat : Int) == 0) = true := by rw [hz]; rfl
              have HZ := hide hz
              clear hz
              go_wp2_with (at_builtin; refine append_bytes rfl (.tmp 36) (.tmp 41) rfl w.heap.size _ _ rfl (hoi.alloc _) _ 1 1 [s[j]] rfl rfl (byte_new rfl) (by omega) (Nat.le_trans hsi (by simp)) ?_)
              intro u5 w5 ho5 hg5
              have hb5 : Up w w5 := below_append hui hsi hoi hg5
              have hk5 := kept_append hoi hg5 hki (by decide)
              have e5 := cell_of_block (i := 2) hk5
              simp only [List.getElem?_toArray, List.getElem?_cons_succ, List.getElem?_cons_zero] at e5
              have hs5 := hb5.size
              have hl5 : (C ++ [s[j]]).length + 1 ≤ 1000000000000 := by rw [List.length_append]; simp only [List.length_singleton]; omega
              clear hg5 hoi e2 hki hui
              go_wp2_with (at_builtin; refine append_bytes rfl (.tmp 48) (.tmp 49) rfl w.heap.size _ _ rfl (ho5.alloc _) _ 1 1 [255] rfl rfl (byte_new rfl) hl5 (Nat.le_trans hs5 (by simp)) ?_)
              intro u6 w6 ho6 hg6
              have hb6 : Hid (Up w w6) := hide (below_append hb5 hs5 ho5 hg6)
              have hk6 := hide (kept_append ho5 hg6 hk5 (by decide))
              replace ho6 := hide ho6
              clear hg6 ho5 hk5 e5 hb5
              go_wp2
              go_roundw
              case rel =>
                refine ⟨j + 1, by omega, by go_num, ?_, hb6.out, hk6.out⟩
                have h2 := ho6.out
                rw [hst.out, if_pos HZ.out, ← List.append_assoc, ← hC.out]
                rw [HZ.out] at h2
                simpa using h2
              case measure => simp [intOf]; omega
            · have ht : ((s[j].toNat : Int) == 0) = false := by
                refine beq_eq_false_iff_ne.2 fun e => hz ?_
                exact UInt8.toNat_inj.1 (by simpa using e)
              have HZ := hide hz
              clear hz
              go_wp2_with (at_builtin; refine append_bytes rfl (.tmp 36) (.tmp 41) rfl w.heap.size _ _ rfl (hoi.alloc _) _ 1 1 [s[j]] rfl rfl (byte_new rfl) (by omega) (Nat.le_trans hsi (by simp)) ?_)
              intro u5 w5 ho5 hg5
              have hb5 : Hid (Up w w5) := hide (below_append hui hsi hoi hg5)
              have hk5 := kept_append hoi hg5 hki (by decide)
              have e5 := cell_of_block (i := 2) hk5
              simp only [List.getElem?_toArray, List.getElem?_cons_succ, List.getElem?_cons_zero] at e5
              replace hk5 := hide hk5
              replace ho5 := hide ho5
              clear hg5 hoi e2 hki hui
              go_wp2
              go_roundw
              case rel =>
                refine ⟨j + 1, by omega, by go_num, ?_, hb5.out, hk5.out⟩
                have h2 := ho5.out
                rw [hst.out, if_neg HZ.out, ← List.append_assoc, ← hC.out]
                exact h2
              case measure => simp [intOf]; omega
          · obtain rfl : j = s.size := by omega
            go_wp2_with (at_builtin; refine append_bytes rfl (.tmp 51) (.tmp 52) rfl w.heap.size _ _ rfl (hoi.alloc _) _ 2 2 [0, 1] rfl rfl (bytes_new2 rfl rfl) hlc (Nat.le_trans hsi (by simp)) ?_)
            intro u9 w9 ho9 hg9
            have hu9 : Hid (Up w w9) := hide (below_append hui hsi hoi hg9)
            have h9 : Hid (Own w9 w.heap.size u9 (B ++ putV (4, m, s, f))) := by
              have e : s.data.toList.take s.size = s.data.toList := List.take_of_length_le (by simp)
              have hc2 := hC.out
              rw [e] at hc2
              have e2 : B ++ putV (4, m, s, f) = C ++ [0, 1] := by
                rw [hc2]
                simp [putV, bodyV, strL]
              rw [e2]
              exact ho9
            clear hg9 hoi e2 hki hui ho9
            go_wp2
            go_roundw
            case rel => exact ⟨k + 1, by omega, by go_num, by rw [ST.out]; exact h9.out, hu9.out, hgd.out⟩
            case measure => simp [intOf]; omega
      · clear BA GO
        go_wp2_with (at_builtin; refine append_bytes rfl (.tmp 21) (.tmp 25) rfl w.heap.size _ _ rfl (ho.out.alloc _) _ 1 1 [5] rfl rfl (byte_new rfl) (by omega) (Nat.le_trans hs1 (by simp)) ?_)
        intro u2 w2 ho2 hg2
        have hb2 : Up w w2 := below_append hu2.out hs1 ho.out hg2
        have hk2 := kept_append ho.out hg2 hb1.out (by decide)
        have hs2 := hb2.size
        have d0 : w2.cell? ⟨wr.heap.size, 0, none⟩ = some (.int .i64 5) := cell_of_block hk2
        have d1 : w2.cell? ⟨wr.heap.size, 1, none⟩ = some (.int .i64 m) := cell_of_block hk2
        have d2 : w2.cell? ⟨wr.heap.size, 2, none⟩ = some (.string s) := cell_of_block hk2
        have d3 : w2.cell? ⟨wr.heap.size, 3, none⟩ = some (.float .f64 f) := cell_of_block hk2
        have HK := hide hk2
        have HB2 := hide hb2
        have hl2 : (B ++ [5]).length + 1 ≤ 1000000 := by rw [List.length_append]; simp only [List.length_singleton]; omega
        clear hk2 hg2 ho hb1 hu2 hb2 c0 c1 c2 c3
        go_wp2_with fail
        go_at_call 21
        refine (rorder_calls f hff _).mono ?_
        rintro _ w3 ⟨rfl, hw3⟩
        obtain rfl : w2 = w3 := hw3.symm
        go_wp2_with fail
        go_at_call 20
        refine (eight_calls w.heap.size _ _ (ordN f) _ ho2 hs2 (by omega)).mono ?_
        rintro _ w9 ⟨u9, rfl, ho9, hb9⟩
        have hu9 : Hid (Up w w9) := hide (HB2.out.below.trans hb9)
        replace ho9 := hide ho9
        clear hb9 HB2 ho2 d0 d1 d2 d3 HK
        go_wp2
        go_roundw
        case rel => exact ⟨k + 1, by omega, by go_num, by rw [ST.out]; simpa [putV, bodyV] using ho9.out, hu9.out, hgd.out⟩
        case measure => simp [intOf]; omega
    · obtain rfl : k = n := by omega
      have ht : l.take k = l := List.take_of_length_le (by rw [HL.out]; exact Nat.le_refl _)
      rw [ht] at ho
      have hgd := hide (all_good (l := l) (fun j hj => he.out j (by rw [HL.out] at hj; exact hj)))
      replace ho := hide ho
      replace hu := hide hu
      clear ht he
      go_wp2
      go_ret2
      exact ⟨hu.out, .inl ⟨hgd.out, _, rfl, ho.out⟩⟩

theorem rput_calls (a : Option Addr) (n c : Nat) (l : List VT) (w : World) (hn : n ≤ 1000) (hv : Vals w a n l) : Calls Try.prog 11 #[.slice a n c] w fun e w' => PutPost w l 20 e w' := by
  obtain ⟨hl, hg, h⟩ := hv
  rcases h with rfl | ⟨b, off, rfl, hx⟩
  · obtain rfl : l = [] := List.length_eq_zero_iff.1 hl
    exact rput_none _ _ _
  · exact rput_some _ _ _ _ l w hl hn hg hx

end Go.Proofs.Ytlhaohioolagoaa
