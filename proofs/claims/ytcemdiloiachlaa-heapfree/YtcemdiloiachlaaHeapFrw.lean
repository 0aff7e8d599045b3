/-
  HeapFree, walked.
-/
import Derived.Test.YtcemdiloiachlaaHeapFrm
import Derived.Deep.AppendLies
namespace Go.Proofs.Ytcemdiloiachlaa
open Go.ChangeShapes Go.WideShapes Go.ChangeAt Go.RowKit
set_option linter.unusedVariables false

theorem append_lies {w : World} {ops : Array Oper} {rest : List Oper} {o : Oper} {a : Act} {Q : Exit → Act → World → Prop} (hgd : o.guard = none) (s x : Operand)
    (ho : o.op = .call { callee := .builtin .append, args := #[s, x], argTypes := #[43, 43] }) (base : Nat) (v : Value) (l : List ETN) (hs : a.eval s = v) (hown : OwnEN w base v l)
    (ad : Addr) (c : Nat) (new : ETN) (hx : a.eval x = .slice (some ad) 1 c) (hnews : ∀ j u, (eCellsN new)[j]? = some u → w.cell? (ad.add j) = some u)
    (hlen : l.length + 1 ≤ 1000000) (hbase : base ≤ w.heap.size)
    (h : ∀ g cap w', OwnEN w' base (.slice (some ⟨g, 0, none⟩) (l.length + 1) cap) (l ++ [new]) → w.grownBy w' v.ownBlock → (v.ownBlock = some g ∨ w.heap.size ≤ g) → wpList Try.prog ops Q rest (a.put o.dst (.slice (some ⟨g, 0, none⟩) (l.length + 1) cap)) w') : wpList Try.prog ops Q (o :: rest) a w := by
  obtain ⟨i0, hi, hz0, hz1, hz2⟩ := info_parts info_eN
  refine wpList_plain hgd fun K hK => ?_
  refine wp_append_lies w s x 43 ho base 3 i0 (.int .i64 0) 1 8 Try.underlying43 hi hz0 hz1 hz2 rfl (by decide) v l.length (l.flatMap eCellsN) hs hown ad 1 c (eCellsN new) hx rfl hnews (eN_one new) (by decide) (by unfold maxLen; omega) (by omega) hbase w.heap.size rfl fun g cap w' h1 h2 h3 h4 => hK _ _ (h g cap w' ?_ h2 ?_)
  · unfold OwnEN OwnG
    rw [List.length_append, List.flatMap_append, List.flatMap_singleton]
    exact h1
  · rcases h3 with h3 | h3
    · exact .inl h3
    · exact .inr (Nat.le_of_eq h3.symm)

/-- append of a row to nothing: new memory. -/
theorem append_from {w : World} {ops : Array Oper} {rest : List Oper} {o : Oper} {a : Act} {Q : Exit → Act → World → Prop} (hgd : o.guard = none) (s x : Operand)
    (ho : o.op = .call { callee := .builtin .append, args := #[s, x], argTypes := #[43, 43] }) (base : Nat) (hs : a.eval s = .slice none 0 0)
    (ad : Addr) (c : Nat) (m : List ETN) (M : Nat) (hM : M = m.length) (hx : a.eval x = .slice (some ad) M c) (hnews : ∀ j u, (m.flatMap eCellsN)[j]? = some u → w.cell? (ad.add j) = some u)
    (hlen : m.length ≤ 1000000) (hbase : base ≤ w.heap.size)
    (h : ∀ v' w', OwnEN w' base v' m → Up w w' → (∀ g, v'.ownBlock = some g → w.heap.size ≤ g) → wpList Try.prog ops Q rest (a.put o.dst v') w') : wpList Try.prog ops Q (o :: rest) a w := by
  subst hM
  obtain ⟨i0, hi, hz0, hz1, hz2⟩ := info_parts info_eN
  have hnl : (m.flatMap eCellsN).length = m.length * 1 := flatG_length (k := 1) (fun _ => rfl) m
  have hone : ∀ u ∈ m.flatMap eCellsN, u.oneCell' = true := fun u hu => by
    obtain ⟨y, _, hy⟩ := List.mem_flatMap.1 hu
    exact eN_one y u hy
  have hup : ∀ w', w.grownBy w' (Value.slice none 0 0).ownBlock → Up w w' := fun w' hg => Below.grown (Below.refl _ _) hg (Nat.le_refl _) (fun g hg => by cases hg)
  by_cases hm : m = []
  · subst hm
    refine wpList_append_own w hgd s x _ ho base 3 i0 (.int .i64 0) 1 8 Try.underlying43 hi hz0 hz1 hz2 rfl (by decide) (.slice none 0 0) 0 [] hs (World.ownsRow_nil _ _ _ _) ad 0 c [] hx rfl (fun j u hj => by cases hj) (fun u hu => by cases hu) (by decide) (by decide) hbase fun v' w' h1 h2 h3 => ?_
    obtain rfl := h3.2 ⟨rfl, rfl⟩
    exact h _ w' (OwnG.nil _ _ _ _ _) (hup w' h2) (fun g hg => by cases hg)
  · have hpos : 0 < m.length := List.length_pos_iff.2 hm
    refine wpList_plain hgd fun K hK => ?_
    refine wp_append_lies w s x 43 ho base 3 i0 (.int .i64 0) 1 8 Try.underlying43 hi hz0 hz1 hz2 rfl (by decide) (.slice none 0 0) 0 [] hs (World.ownsRow_nil _ _ _ _) ad m.length c (m.flatMap eCellsN) hx hnl hnews hone hpos (by unfold maxLen; omega) (by omega) hbase w.heap.size rfl fun g cap w' h1 h2 h3 h4 => hK _ _ (h _ w' ?_ (hup w' h2) ?_)
    · unfold OwnEN OwnG
      rw [List.nil_append, Nat.zero_add] at h1
      rw [Nat.zero_add]
      exact h1
    · intro g' hg'
      cases hg'
      rcases h3 with h3 | h3
      · cases h3
      · exact Nat.le_of_eq h3.symm

/-- The bag and the row beside it. -/
structure FInv (p b : Nat) (w : World) (v : Value) (xs S : List Int) (i : Nat) : Prop where
  st : StF p b w xs
  own : OwnEN w (p + 1) v S
  perm : xs.Perm S
  srt : Srt rkN S
  heap : HeapFrom 0 ahN xs xs.length 0
  small : xs.length ≤ i
  apart : ∀ g, v.ownBlock = some g → g ≠ b
  bp : p ≤ b

set_option maxRecDepth 20000 in
set_option maxHeartbeats 16000000 in
theorem heapFree_all (a : Option Addr) (len c : Nat) (l : List Int) (w : World) (h : InG 1 (fun x => [.int .i16 x]) 0 w a len c l) (hr : ∀ i, -32768 ≤ l.getD i 0 ∧ l.getD i 0 ≤ 32767) :
    Calls Try.prog 5 #[.slice a len c] w fun e w' => e = .returned (.bool true) ∧ Up w w' := by
  obtain ⟨h1, h2, h3, blk, off, h4, h5⟩ := h
  have H5 := hide h5
  have H1 := hide h1
  have H4 := hide h4
  have HR := hide hr
  clear h5 h1 h4 hr
  go_enter Try.func5, Try.ntmps5
  go_wp2_with fail
  go_at_call 8
  refine (known_calls w).mono ?_
  rintro _ w1 ⟨rfl, hu1⟩
  have U := hide hu1
  clear hu1
  by_cases hbig : 150 < len
  · have t1 : decide ((len : Int) > 150) = true := decide_eq_true (by omega)
    go_wp2
    go_ret
    exact ⟨rfl, U.out⟩
  have t1 : decide ((len : Int) > 150) = false := decide_eq_false (by omega)
  go_wp2_with fail
  go_at_call 16
  refine (newFree_calls w1).mono ?_
  rintro _ w2 ⟨rfl, hs2, hu2, hz2⟩
  obtain ⟨p, hp⟩ : ∃ p, p = w1.heap.size := ⟨_, rfl⟩
  have hwp : w.heap.size ≤ p := by rw [hp]; exact U.out.size
  rw [← hp] at hs2 hz2 ⊢
  replace U : Hid (Up w w2) := U.out.trans hu2
  have HS2 := hide hs2
  clear hu2 hp hs2
  go_wp2_with fail
  go_loopw [4, 5] (fun v u wr => ∃ (i b : Nat) (xs S : List Int), i ≤ len ∧ u = .int .i64 i ∧ FInv p b wr v xs S i ∧ Up w wr) (fun _ u _ => len - (intOf u).toNat)
  case atStart => exact ⟨0, p, [], [], Nat.zero_le _, rfl, ⟨HS2.out, OwnG.nil _ _ _ _ _, .refl _, List.Pairwise.nil, fun k h0 hk => by simp at hk, Nat.le_refl _, fun g hg => (by cases hg), Nat.le_refl _⟩, U.out⟩
  case round =>
    clear HS2 U
    obtain ⟨i, b, xs, S, hi, rfl, hinv, hu⟩ := hrel
    by_cases hlt : i < len
    · have t2 : decide ((i : Int) < len) = true := decide_eq_true (by omega)
      obtain rfl := H4.out (by omega)
      have x0 := hu.cell (H5.out i hlt 0 _ rfl)
      have hrx := HR.out i
      obtain ⟨y, hy⟩ : ∃ y, y = l.getD i 0 := ⟨_, rfl⟩
      rw [← hy] at x0 hrx
      simp only [Nat.mul_one, Nat.add_zero] at x0
      obtain ⟨r1, r2⟩ := hrx
      have HY := hide hy
      clear hy
      by_cases hput : -8000 ≤ y
      · have t3 : decide (y ≥ -8000) = true := decide_eq_true (by omega)
        have hdv : -33 ≤ y.tdiv 1000 ∧ y.tdiv 1000 ≤ 33 := by
          rcases Int.le_total 0 y with h | h
          · rw [Int.tdiv_eq_ediv_of_nonneg h]; omega
          · rw [show y = -(-y) by omega, Int.neg_tdiv, Int.tdiv_eq_ediv_of_nonneg (by omega)]; omega
        obtain ⟨hst, hown, hperm, hsrt, hheap, hsmall, hap, hbp⟩ := hinv
        have hSl : S.length = xs.length := hperm.length_eq.symm
        have hpw : p + 1 ≤ wr.heap.size := by
          obtain ⟨_, cc, hcc⟩ := hst.any
          exact World.block_lt_of_cell? wr ⟨p, 0, none⟩ hcc
        have HST0 := hide hst
        have HO0 := hide hown
        have HPM := hide hperm
        have HSRT := hide hsrt
        have HHP := hide hheap
        have HAP0 := hide hap
        have HU0 := hide hu
        clear hst hown hperm hsrt hheap hap hu
        obtain ⟨x, hx⟩ : ∃ x, x = y.tdiv 1000 := ⟨_, rfl⟩
        rw [← hx] at hdv
        have hx' := hx.symm
        clear hx
        go_wp2_with fail
        go_at_call 17
        refine (put_calls p b xs x wr (by omega) HST0.out).mono ?_
        rintro _ w1 ⟨rfl, b1, hs1, hc1, hb1⟩
        have hz1 := hc1.size
        have hb1p : p ≤ b1 := by omega
        have HST := hide hs1
        have HO : Hid (OwnEN w1 (p + 1) u4 S) := HO0.out.chg2 hc1 (fun g hg => by
          have h1 := (HO0.out.lt g hg).1
          have h2 := HAP0.out g hg
          rintro (e | e) <;> omega)
        have HAP : Hid (∀ g, u4.ownBlock = some g → g ≠ b1) := fun g hg => by
          have h1 := (HO0.out.lt g hg).2
          have h2 := HAP0.out g hg
          omega
        have HU : Hid (Up w w1) := HU0.out.thenChg hc1 (by rintro y hy (e | e) <;> omega)
        have hszp : p + 1 ≤ w1.heap.size := by omega
        clear hs1 hc1 hb1 HST0 HO0 HAP0 HU0 x0 hx'
        obtain ⟨a', c', rfl, hin, _⟩ := HO.out.inG (z := eZeroN) (fun _ => rfl)
        obtain ⟨_, g2, g3, blk', off', g4, g5⟩ := hin
        have HG4 := hide g4
        have HG5 := hide g5
        clear g4 g5
        have hsS : S.length ≤ 150 := by omega
        have hsX : xs.length ≤ 150 := by omega
        have HSLX := hide hSl
        clear hSl
        have hil : Hid ((insS rkN x S).length = S.length + 1) := by
          show _ = _
          rw [(insS_perm rkN x S).length_eq]; rfl
        go_wp2_with fail
        go_loopw [7] (fun u wi => ∃ k : Nat, k ≤ S.length ∧ u = .int .i64 k ∧ Up w1 wi ∧ ∀ j, k ≤ j → j < S.length → x < S.getD j 0) (fun u _ => (intOf u).toNat)
        case atStart => exact ⟨S.length, Nat.le_refl _, rfl, Up.refl _, fun j h1 h2 => by omega⟩
        case round =>
          obtain ⟨k, hk, rfl, hui, hall⟩ := hrel
          replace hall := hide hall
          by_cases hk0 : 0 < k
          · obtain rfl := HG4.out (by omega)
            have y0 := hui.cell (HG5.out (k - 1) (by omega) 0 _ rfl)
            obtain ⟨k, rfl⟩ : ∃ q, k = q + 1 := ⟨k - 1, by omega⟩
            simp only [Nat.add_zero, Nat.add_sub_cancel, Nat.mul_one] at y0
            obtain ⟨z, hz⟩ : ∃ z, z = S.getD k 0 := ⟨_, rfl⟩
            replace y0 : wr.cell? ⟨blk', off' + k, none⟩ = some (.int .i64 (S.getD k 0)) := y0
            rw [← hz] at y0
            have HZ := hide hz
            have HUI := hide hui
            clear hz hui
            by_cases hgt : x < z
            · go_wp2
              go_roundw
              case rel =>
                refine ⟨k, by omega, by go_num, HUI.out, fun j h1 h2 => ?_⟩
                by_cases e : j = k
                · subst e; rw [← HZ.out]; exact hgt
                · exact hall.out j (by omega) h2
              case measure => simp [intOf]
            · have HSTP : Hid (S.getD k 0 ≤ x) := by
                show S.getD k 0 ≤ x
                rw [← HZ.out]
                omega
              have HSTOP : Hid ((k + 1) = 0 ∨ S.getD ((k + 1) - 1) 0 ≤ x) := .inr HSTP.out
              have HUQ := hide HUI.out
              have HSTQ : Hid (StF p b1 wr (pushL 0 ahN xs x)) := HST.out.up HUQ.out
              have HFIN : Hid ((shiftL (S ++ [(0 : Int)]) ((k + 1))).set ((k + 1)) x = insS rkN x S) := by
                rw [← insN_at HSRT.out (k := (k + 1)) (by omega) (fun j h1 h2 => hall.out j h1 (by omega)) HSTOP.out]
                exact shift_set S (0 : Int) x (by omega)
              have hl3 : Hid ((S ++ [(0 : Int)]).length = S.length + 1) := by show _ = _; simp
              have hszq : p + 1 ≤ wr.heap.size := Nat.le_trans hszp HUQ.out.size
              clear HSTOP hall
              go_wp2_with (at_builtin; refine append_lies rfl _ _ rfl (p + 1) _ S rfl (OwnG.alloc (OwnG.up HO.out HUQ.out) _) _ _ (0 : Int) rfl (eN_new (0 : Int)) (by omega) (by simp; omega) ?_)
              intro g cap3 w3 ho3 hg3 hgb
              have hch3 : Chg (fun y => Value.ownBlock _ = some y) (wr.alloc _) w3 := ⟨⟨hg3.os, hg3.tape, hg3.output, hg3.size, fun k hk => absurd hk (Nat.not_lt_zero k)⟩, fun y hy hn => hg3.block y hy (fun e => hn e.symm)⟩
              have HU3 : Hid (Up w w3) := ((HU.out.trans HUQ.out).alloc _).thenChg hch3 (fun y hy h => by have := (HO.out.lt y h).1; omega)
              have HST3 : Hid (StF p b1 w3 (pushL 0 ahN xs x)) := (HSTQ.out.up ((Up.refl _).alloc _)).chg hch3 (fun h => by have := (HO.out.lt p h).1; omega) (fun h => HAP.out b1 h rfl)
              have hgb1 : g ≠ b1 := by
                rcases hgb with h | h
                · exact HAP.out g h
                · intro e
                  obtain ⟨_, _, _, _, _, hlt, _⟩ := HSTQ.out.form (by rw [pushL_length]; omega)
                  try simp at h
                  omega
              have hc3 : S.length + 1 ≤ cap3 := by
                rcases ho3.2 with ⟨h, _⟩ | ⟨g', c', cur, h, _, _, h1, _⟩
                · cases h
                · injection h with _ _ h9; rw [hl3.out] at h1; omega
              have hgp : p + 1 ≤ g := (ho3.lt g rfl).1
              have HO3 : Hid (OwnEN w3 (p + 1) (.slice (some ⟨g, 0, none⟩) (S ++ [(0 : Int)]).length cap3) (S ++ [(0 : Int)])) := by show OwnG _ _ _ _ _ _ _; rw [hl3.out]; exact ho3
              clear hg3 hch3 ho3 HUQ HUI HSTQ HST HO HG4 HG5 HAP hgb
              have hw1 : IntKind.i64.wrap ((k : Int) + 1 + 1) = (k : Int) + 1 + 1 := IntWalk.i64_in _ (by omega)
              have hw2 : (0 : Int) ≤ (k : Int) + 1 + 1 := by omega
              have hw3 : (k : Int) + 1 + 1 ≤ (S.length : Int) + 1 := by omega
              have hw4 : ((k : Int) + 1 + 1).toNat = k + 1 + 1 := by omega
              have hw5 : (0 : Int) ≤ (k : Int) + 1 := by omega
              have hw6 : (k : Int) + 1 ≤ (S.length : Int) + 1 := by omega
              have hw7 : ((k : Int) + 1).toNat = k + 1 := by omega
              by_cases hcap : cap3 = (k + 1) + 1
              · subst hcap
                obtain ⟨w4, hrun, ho4, hg4⟩ := run_copy_shift (w := w3.drew) Try.underlying43 size_int (fun _ => rfl) eN_one (p + 1) 3 (some ⟨g, 0, none⟩) (some ⟨g, k + 1, none⟩) 0 0 (S.length - k) 1 g ((k + 1) + 1) (k + 1) (S ++ [(0 : Int)]) (World.ownsRow.drew HO3.out) (by have := hl3.out; omega) (by have := hl3.out; omega) (by have := hl3.out; omega) (fun hpos => absurd hpos (by have := hl3.out; omega)) (fun hpos => absurd hpos (by have := hl3.out; omega))
                have hch4 : Chg (fun y => y = g) w3 w4 := (Chg.of_up (C := fun y => y = g) (Up.refl w3).drew).trans ⟨⟨hg4.os, hg4.tape, hg4.output, hg4.size, fun k hk => absurd hk (Nat.not_lt_zero k)⟩, fun y hy hn => hg4.block y hy (fun e => hn (Option.some.inj e))⟩ (fun _ _ h => h)
                have hl4 : (shiftL (S ++ [(0 : Int)]) (k + 1)).length = (S ++ [(0 : Int)]).length := shiftL_length _ _ (by have := hl3.out; omega)
                rw [← hl4] at ho4
                have f0 := World.ownsRow.frozenAt ho4 (k + 1)
                have hlf : ((shiftL (S ++ [(0 : Int)]) (k + 1)).flatMap eCellsN).length = S.length + 1 := by rw [flatG_length (cs := eCellsN) (k := 1) (fun _ => rfl), hl4, hl3.out, Nat.mul_one]
                have z0 := World.ownsRow.cellAt ho4 (k + 1) (by rw [hl4, hl3.out]; omega)
                rw [List.getElem?_eq_getElem (by rw [hlf]; omega)] at z0
                generalize ((shiftL (S ++ [(0 : Int)]) (k + 1)).flatMap eCellsN)[(k + 1)] = zz0 at z0
                obtain ⟨W5, hW5⟩ : ∃ W5, W5 = w4.setCell ⟨g, (k + 1), none⟩ (.int .i64 x) := ⟨_, rfl⟩
                have hch5 : Chg (fun y => y = g) w3 W5 := by rw [hW5]; exact hch4.set (p := ⟨g, (k + 1), none⟩) (fun _ => rfl) _
                have HFINAL : Hid (OwnEN W5 (p + 1) (.slice (some ⟨g, 0, none⟩) (S.length + 1) ((k + 1) + 1)) (insS rkN x S)) := by
                  rw [← HFIN.out]
                  have h9 := own_set1 ho4 (k + 1) x W5 hW5
                  rw [hl4, hl3.out] at h9
                  exact h9
                have HU5 : Hid (Up w W5) := HU3.out.thenChg hch5 (fun y hy h => by omega)
                have HST5 : Hid (StF p b1 W5 (pushL 0 ahN xs x)) := HST3.out.chg hch5 (by omega) (by intro e; exact hgb1 e.symm)
                have hW5' := hW5.symm
                clear ho4 hg4 hl4 hlf hch4 hch5 HFIN HO3 HU3 HST3 hW5
                go_wp2_with fail
                go_region
                all_goals
                  go_wp2_with fail
                  go_at_call 19
                  refine (flen_calls p b1 (pushL 0 ahN xs x) W5 HST5.out).mono ?_
                  rintro _ w9 ⟨rfl, hw9⟩
                  obtain rfl : W5 = w9 := hw9.symm
                  clear hw9
                  rw [pushL_length, ← HSLX.out]
                  go_wp2
                  go_roundw
                  case rel => exact ⟨i + 1, b1, pushL 0 ahN xs x, insS rkN x S, by omega, by go_num, ⟨HST5.out, HFINAL.out, bag_put HPM.out x, insS_srt rkN HSRT.out, by rw [pushL_length]; exact pushL_heap 0 ahN ahN_order x HHP.out, by rw [pushL_length]; omega, fun g' hg' => by cases hg'; exact hgb1, hb1p⟩, HU5.out⟩
                  case measure => simp [intOf]; omega
              · obtain ⟨w4, hrun, ho4, hg4⟩ := run_copy_shift (w := w3.drew) Try.underlying43 size_int (fun _ => rfl) eN_one (p + 1) 3 (some ⟨g, k + 1 + 1, none⟩) (some ⟨g, k + 1, none⟩) (S.length - (k + 1)) (cap3 - (k + 1 + 1)) (S.length - k) (cap3 - (k + 1)) g cap3 (k + 1) (S ++ [(0 : Int)]) (World.ownsRow.drew HO3.out) (by have := hl3.out; omega) (by have := hl3.out; omega) (by have := hl3.out; omega) (fun _ => by simp) (fun _ => by simp)
                have hch4 : Chg (fun y => y = g) w3 w4 := (Chg.of_up (C := fun y => y = g) (Up.refl w3).drew).trans ⟨⟨hg4.os, hg4.tape, hg4.output, hg4.size, fun k hk => absurd hk (Nat.not_lt_zero k)⟩, fun y hy hn => hg4.block y hy (fun e => hn (Option.some.inj e))⟩ (fun _ _ h => h)
                have hl4 : (shiftL (S ++ [(0 : Int)]) (k + 1)).length = (S ++ [(0 : Int)]).length := shiftL_length _ _ (by have := hl3.out; omega)
                rw [← hl4] at ho4
                have f0 := World.ownsRow.frozenAt ho4 (k + 1)
                have hlf : ((shiftL (S ++ [(0 : Int)]) (k + 1)).flatMap eCellsN).length = S.length + 1 := by rw [flatG_length (cs := eCellsN) (k := 1) (fun _ => rfl), hl4, hl3.out, Nat.mul_one]
                have z0 := World.ownsRow.cellAt ho4 (k + 1) (by rw [hl4, hl3.out]; omega)
                rw [List.getElem?_eq_getElem (by rw [hlf]; omega)] at z0
                generalize ((shiftL (S ++ [(0 : Int)]) (k + 1)).flatMap eCellsN)[(k + 1)] = zz0 at z0
                obtain ⟨W5, hW5⟩ : ∃ W5, W5 = w4.setCell ⟨g, (k + 1), none⟩ (.int .i64 x) := ⟨_, rfl⟩
                have hch5 : Chg (fun y => y = g) w3 W5 := by rw [hW5]; exact hch4.set (p := ⟨g, (k + 1), none⟩) (fun _ => rfl) _
                have HFINAL : Hid (OwnEN W5 (p + 1) (.slice (some ⟨g, 0, none⟩) (S.length + 1) cap3) (insS rkN x S)) := by
                  rw [← HFIN.out]
                  have h9 := own_set1 ho4 (k + 1) x W5 hW5
                  rw [hl4, hl3.out] at h9
                  exact h9
                have HU5 : Hid (Up w W5) := HU3.out.thenChg hch5 (fun y hy h => by omega)
                have HST5 : Hid (StF p b1 W5 (pushL 0 ahN xs x)) := HST3.out.chg hch5 (by omega) (by intro e; exact hgb1 e.symm)
                have hW5' := hW5.symm
                clear ho4 hg4 hl4 hlf hch4 hch5 HFIN HO3 HU3 HST3 hW5
                go_wp2_with fail
                go_region
                all_goals
                  go_wp2_with fail
                  go_at_call 19
                  refine (flen_calls p b1 (pushL 0 ahN xs x) W5 HST5.out).mono ?_
                  rintro _ w9 ⟨rfl, hw9⟩
                  obtain rfl : W5 = w9 := hw9.symm
                  clear hw9
                  rw [pushL_length, ← HSLX.out]
                  go_wp2
                  go_roundw
                  case rel => exact ⟨i + 1, b1, pushL 0 ahN xs x, insS rkN x S, by omega, by go_num, ⟨HST5.out, HFINAL.out, bag_put HPM.out x, insS_srt rkN HSRT.out, by rw [pushL_length]; exact pushL_heap 0 ahN ahN_order x HHP.out, by rw [pushL_length]; omega, fun g' hg' => by cases hg'; exact hgb1, hb1p⟩, HU5.out⟩
                  case measure => simp [intOf]; omega
          · obtain rfl : k = 0 := by omega
            have HUI := hide hui
            clear hui
            have HSTOP : Hid (0 = 0 ∨ S.getD (0 - 1) 0 ≤ x) := .inl rfl
            have HUQ := hide HUI.out
            have HSTQ : Hid (StF p b1 wr (pushL 0 ahN xs x)) := HST.out.up HUQ.out
            have HFIN : Hid ((shiftL (S ++ [(0 : Int)]) (0)).set (0) x = insS rkN x S) := by
              rw [← insN_at HSRT.out (k := 0) (by omega) (fun j h1 h2 => hall.out j h1 (by omega)) (.inl rfl)]
              exact shift_set S (0 : Int) x (by omega)
            have hl3 : Hid ((S ++ [(0 : Int)]).length = S.length + 1) := by show _ = _; simp
            have hszq : p + 1 ≤ wr.heap.size := Nat.le_trans hszp HUQ.out.size
            clear HSTOP hall
            go_wp2_with (at_builtin; refine append_lies rfl _ _ rfl (p + 1) _ S rfl (OwnG.alloc (OwnG.up HO.out HUQ.out) _) _ _ (0 : Int) rfl (eN_new (0 : Int)) (by omega) (by simp; omega) ?_)
            intro g cap3 w3 ho3 hg3 hgb
            have hch3 : Chg (fun y => Value.ownBlock _ = some y) (wr.alloc _) w3 := ⟨⟨hg3.os, hg3.tape, hg3.output, hg3.size, fun k hk => absurd hk (Nat.not_lt_zero k)⟩, fun y hy hn => hg3.block y hy (fun e => hn e.symm)⟩
            have HU3 : Hid (Up w w3) := ((HU.out.trans HUQ.out).alloc _).thenChg hch3 (fun y hy h => by have := (HO.out.lt y h).1; omega)
            have HST3 : Hid (StF p b1 w3 (pushL 0 ahN xs x)) := (HSTQ.out.up ((Up.refl _).alloc _)).chg hch3 (fun h => by have := (HO.out.lt p h).1; omega) (fun h => HAP.out b1 h rfl)
            have hgb1 : g ≠ b1 := by
              rcases hgb with h | h
              · exact HAP.out g h
              · intro e
                obtain ⟨_, _, _, _, _, hlt, _⟩ := HSTQ.out.form (by rw [pushL_length]; omega)
                try simp at h
                omega
            have hc3 : S.length + 1 ≤ cap3 := by
              rcases ho3.2 with ⟨h, _⟩ | ⟨g', c', cur, h, _, _, h1, _⟩
              · cases h
              · injection h with _ _ h9; rw [hl3.out] at h1; omega
            have hgp : p + 1 ≤ g := (ho3.lt g rfl).1
            have HO3 : Hid (OwnEN w3 (p + 1) (.slice (some ⟨g, 0, none⟩) (S ++ [(0 : Int)]).length cap3) (S ++ [(0 : Int)])) := by show OwnG _ _ _ _ _ _ _; rw [hl3.out]; exact ho3
            clear hg3 hch3 ho3 HUQ HUI HSTQ HST HO HG4 HG5 HAP hgb
            have hw1 : IntKind.i64.wrap 1 = 1 := IntWalk.i64_in _ (by omega)
            have hw2 : IntKind.i64.wrap (0 + 1) = 1 := IntWalk.i64_in _ (by omega)
            have hw3 : (1 : Int) ≤ (S.length : Int) + 1 := by omega
            have hw4 : (0 : Int) ≤ (S.length : Int) + 1 := by omega
            by_cases hcap : cap3 = 0 + 1
            · subst hcap
              obtain ⟨w4, hrun, ho4, hg4⟩ := run_copy_shift (w := w3.drew) Try.underlying43 size_int (fun _ => rfl) eN_one (p + 1) 3 (some ⟨g, 0, none⟩) (some ⟨g, 0, none⟩) 0 0 (S.length + 1) 1 g (0 + 1) 0 (S ++ [(0 : Int)]) (World.ownsRow.drew HO3.out) (by have := hl3.out; omega) (by have := hl3.out; omega) (by have := hl3.out; omega) (fun hpos => absurd hpos (by have := hl3.out; omega)) (fun hpos => absurd hpos (by have := hl3.out; omega))
              have hch4 : Chg (fun y => y = g) w3 w4 := (Chg.of_up (C := fun y => y = g) (Up.refl w3).drew).trans ⟨⟨hg4.os, hg4.tape, hg4.output, hg4.size, fun k hk => absurd hk (Nat.not_lt_zero k)⟩, fun y hy hn => hg4.block y hy (fun e => hn (Option.some.inj e))⟩ (fun _ _ h => h)
              have hl4 : (shiftL (S ++ [(0 : Int)]) 0).length = (S ++ [(0 : Int)]).length := shiftL_length _ _ (by have := hl3.out; omega)
              rw [← hl4] at ho4
              have f0 := World.ownsRow.frozenAt ho4 0
              have hlf : ((shiftL (S ++ [(0 : Int)]) 0).flatMap eCellsN).length = S.length + 1 := by rw [flatG_length (cs := eCellsN) (k := 1) (fun _ => rfl), hl4, hl3.out, Nat.mul_one]
              have z0 := World.ownsRow.cellAt ho4 0 (by rw [hl4, hl3.out]; omega)
              rw [List.getElem?_eq_getElem (by rw [hlf]; omega)] at z0
              generalize ((shiftL (S ++ [(0 : Int)]) 0).flatMap eCellsN)[0] = zz0 at z0
              obtain ⟨W5, hW5⟩ : ∃ W5, W5 = w4.setCell ⟨g, 0, none⟩ (.int .i64 x) := ⟨_, rfl⟩
              have hch5 : Chg (fun y => y = g) w3 W5 := by rw [hW5]; exact hch4.set (p := ⟨g, 0, none⟩) (fun _ => rfl) _
              have HFINAL : Hid (OwnEN W5 (p + 1) (.slice (some ⟨g, 0, none⟩) (S.length + 1) (0 + 1)) (insS rkN x S)) := by
                rw [← HFIN.out]
                have h9 := own_set1 ho4 0 x W5 hW5
                rw [hl4, hl3.out] at h9
                exact h9
              have HU5 : Hid (Up w W5) := HU3.out.thenChg hch5 (fun y hy h => by omega)
              have HST5 : Hid (StF p b1 W5 (pushL 0 ahN xs x)) := HST3.out.chg hch5 (by omega) (by intro e; exact hgb1 e.symm)
              have hW5' := hW5.symm
              clear ho4 hg4 hl4 hlf hch4 hch5 HFIN HO3 HU3 HST3 hW5
              go_wp2_with fail
              go_region
              all_goals
                go_wp2_with fail
                go_at_call 19
                refine (flen_calls p b1 (pushL 0 ahN xs x) W5 HST5.out).mono ?_
                rintro _ w9 ⟨rfl, hw9⟩
                obtain rfl : W5 = w9 := hw9.symm
                clear hw9
                rw [pushL_length, ← HSLX.out]
                go_wp2
                go_roundw
                case rel => exact ⟨i + 1, b1, pushL 0 ahN xs x, insS rkN x S, by omega, by go_num, ⟨HST5.out, HFINAL.out, bag_put HPM.out x, insS_srt rkN HSRT.out, by rw [pushL_length]; exact pushL_heap 0 ahN ahN_order x HHP.out, by rw [pushL_length]; omega, fun g' hg' => by cases hg'; exact hgb1, hb1p⟩, HU5.out⟩
                case measure => simp [intOf]; omega
            · obtain ⟨w4, hrun, ho4, hg4⟩ := run_copy_shift (w := w3.drew) Try.underlying43 size_int (fun _ => rfl) eN_one (p + 1) 3 (some ⟨g, 1, none⟩) (some ⟨g, 0, none⟩) S.length (cap3 - 1) (S.length + 1) cap3 g cap3 0 (S ++ [(0 : Int)]) (World.ownsRow.drew HO3.out) (by have := hl3.out; omega) (by have := hl3.out; omega) (by have := hl3.out; omega) (fun _ => by simp) (fun _ => by simp)
              have hch4 : Chg (fun y => y = g) w3 w4 := (Chg.of_up (C := fun y => y = g) (Up.refl w3).drew).trans ⟨⟨hg4.os, hg4.tape, hg4.output, hg4.size, fun k hk => absurd hk (Nat.not_lt_zero k)⟩, fun y hy hn => hg4.block y hy (fun e => hn (Option.some.inj e))⟩ (fun _ _ h => h)
              have hl4 : (shiftL (S ++ [(0 : Int)]) 0).length = (S ++ [(0 : Int)]).length := shiftL_length _ _ (by have := hl3.out; omega)
              rw [← hl4] at ho4
              have f0 := World.ownsRow.frozenAt ho4 0
              have hlf : ((shiftL (S ++ [(0 : Int)]) 0).flatMap eCellsN).length = S.length + 1 := by rw [flatG_length (cs := eCellsN) (k := 1) (fun _ => rfl), hl4, hl3.out, Nat.mul_one]
              have z0 := World.ownsRow.cellAt ho4 0 (by rw [hl4, hl3.out]; omega)
              rw [List.getElem?_eq_getElem (by rw [hlf]; omega)] at z0
              generalize ((shiftL (S ++ [(0 : Int)]) 0).flatMap eCellsN)[0] = zz0 at z0
              obtain ⟨W5, hW5⟩ : ∃ W5, W5 = w4.setCell ⟨g, 0, none⟩ (.int .i64 x) := ⟨_, rfl⟩
              have hch5 : Chg (fun y => y = g) w3 W5 := by rw [hW5]; exact hch4.set (p := ⟨g, 0, none⟩) (fun _ => rfl) _
              have HFINAL : Hid (OwnEN W5 (p + 1) (.slice (some ⟨g, 0, none⟩) (S.length + 1) cap3) (insS rkN x S)) := by
                rw [← HFIN.out]
                have h9 := own_set1 ho4 0 x W5 hW5
                rw [hl4, hl3.out] at h9
                exact h9
              have HU5 : Hid (Up w W5) := HU3.out.thenChg hch5 (fun y hy h => by omega)
              have HST5 : Hid (StF p b1 W5 (pushL 0 ahN xs x)) := HST3.out.chg hch5 (by omega) (by intro e; exact hgb1 e.symm)
              have hW5' := hW5.symm
              clear ho4 hg4 hl4 hlf hch4 hch5 HFIN HO3 HU3 HST3 hW5
              go_wp2_with fail
              go_region
              all_goals
                go_wp2_with fail
                go_at_call 19
                refine (flen_calls p b1 (pushL 0 ahN xs x) W5 HST5.out).mono ?_
                rintro _ w9 ⟨rfl, hw9⟩
                obtain rfl : W5 = w9 := hw9.symm
                clear hw9
                rw [pushL_length, ← HSLX.out]
                go_wp2
                go_roundw
                case rel => exact ⟨i + 1, b1, pushL 0 ahN xs x, insS rkN x S, by omega, by go_num, ⟨HST5.out, HFINAL.out, bag_put HPM.out x, insS_srt rkN HSRT.out, by rw [pushL_length]; exact pushL_heap 0 ahN ahN_order x HHP.out, by rw [pushL_length]; omega, fun g' hg' => by cases hg'; exact hgb1, hb1p⟩, HU5.out⟩
                case measure => simp [intOf]; omega
      · have t3 : decide (y ≥ -8000) = false := decide_eq_false (by omega)
        have t4 : ¬ -8000 ≤ y := hput
        obtain ⟨hst, hown, hperm, hsrt, hheap, hsmall, hap, hbp⟩ := hinv
        obtain ⟨a', c', rfl, hin, _⟩ := hown.inG (z := eZeroN) (fun _ => rfl)
        obtain ⟨_, g2, g3, blk', off', g4, g5⟩ := hin
        have hpw : p + 1 ≤ wr.heap.size := by
          obtain ⟨_, cc, hcc⟩ := hst.any
          exact World.block_lt_of_cell? wr ⟨p, 0, none⟩ hcc
        cases S with
        | nil =>
          obtain rfl : xs = [] := List.length_eq_zero_iff.1 hperm.length_eq
          have HST := hide hst
          have HO := hide hown
          have HAP := hide hap
          have HU := hide hu
          clear hst hown hperm hsrt hheap hap hu g4 g5 g2
          simp only [List.length_nil]
          go_wp2_with fail
          go_at_call 18
          refine (take_none p b wr HST.out).mono ?_
          rintro _ w9 ⟨rfl, hw9⟩
          obtain rfl : wr = w9 := hw9.symm
          clear hw9
          go_wp2_with fail
          go_at_call 19
          refine (flen_calls p b [] wr HST.out).mono ?_
          rintro _ w9 ⟨rfl, hw9⟩
          obtain rfl : wr = w9 := hw9.symm
          clear hw9
          simp only [List.length_nil]
          go_wp2
          go_roundw
          case rel => exact ⟨i + 1, b, [], [], by omega, by go_num, ⟨HST.out, HO.out, .refl _, List.Pairwise.nil, fun k h0 hk => by simp at hk, Nat.zero_le _, HAP.out, hbp⟩, HU.out⟩
          case measure => simp [intOf]; omega
        | cons s S' =>
          obtain ⟨hmin, hpop⟩ := bag_least hperm hsrt hheap rfl
          have hxl : xs.length = S'.length + 1 := hperm.length_eq
          obtain ⟨capb, _, _, _, hpb, hbw, _⟩ := hst.form (by omega)
          obtain rfl := g4 (by simp)
          have HST0 := hide hst
          have HO0 := hide hown
          have HAP0 := hide hap
          have HU0 := hide hu
          have HPOP := hide hpop
          have HSRT : Hid (Srt rkN S') := (List.pairwise_cons.1 hsrt).2
          have HHP : Hid (HeapFrom 0 ahN (popL 0 ahN xs) (popL 0 ahN xs).length 0) := by
            show HeapFrom 0 ahN (popL 0 ahN xs) (popL 0 ahN xs).length 0
            rw [popL_length]
            exact popL_heap 0 ahN ahN_order (fun k h0 hk hp => hheap k h0 hk (Nat.zero_le _))
          have HG5 := hide g5
          have HXL := hide hxl
          have hSs : S'.length ≤ 150 := by omega
          clear hst hown hperm hsrt hheap hap hu hpop g4 g5
          simp only [List.length_cons] at g2 ⊢
          go_wp2_with fail
          go_at_call 18
          refine (take_some p b xs wr HST0.out (by have := HXL.out; omega)).mono ?_
          rintro _ w1 ⟨rfl, hs1, hc1⟩
          rw [hmin]
          have hz1 := hc1.size
          have hg5' : Hid (∀ q, q < (s :: S').length → w1.cell? ⟨blk', off' + q, none⟩ = some (.int .i64 ((s :: S').getD q 0))) := fun q hq => by
            have h1 := HG5.out q hq 0 _ rfl
            rw [Nat.mul_one, Nat.add_zero] at h1
            refine hc1.cell h1 ?_
            have h2 := (HO0.out.lt blk' rfl).1
            have h3 := HAP0.out blk' rfl
            rintro (e | e) <;> (simp only at e; omega)
          have y0 := hg5'.out 0 (by simp)
          replace y0 : w1.cell? ⟨blk', off', none⟩ = some (.int .i64 s) := y0
          have HST := hide hs1
          have HU : Hid (Up w w1) := HU0.out.thenChg hc1 (by rintro y hy (e | e) <;> omega)
          clear hs1 hc1 HST0 HO0 HAP0 HU0 HG5 x0
          have HN1 : Hid (∀ (ad : Addr), (0 < S'.length → ad = ⟨blk', off' + 1, none⟩) → ∀ j u, (S'.flatMap eCellsN)[j]? = some u → w1.cell? (ad.add j) = some u) := by
            intro ad hadr j u hj
            have hjl : j < S'.length := by
              rcases Nat.lt_or_ge j S'.length with h | h
              · exact h
              · rw [List.getElem?_eq_none (by rw [flatG_length (cs := eCellsN) (k := 1) (fun _ => rfl)]; omega)] at hj; cases hj
            rw [hadr (by omega)]
            have h1 := hg5'.out (j + 1) (by simp; omega)
            have h2 := flatG_get (cs := eCellsN) (k := 1) (fun _ => rfl) (0 : Int) S' j 0 hjl (by decide)
            rw [Nat.mul_one, Nat.add_zero] at h2
            rw [h2] at hj
            have h3 : (⟨blk', off' + 1, none⟩ : Addr).add j = ⟨blk', off' + 1 + j, none⟩ := by unfold Addr.add; split <;> simp_all
            rw [h3, show off' + 1 + j = off' + (j + 1) by omega, h1]
            exact hj
          have hcp : 0 < c' := by omega
          by_cases hc1' : c' = 1
          · subst hc1'
            have hS0 : S'.length = 0 := by omega
            go_wp2_with (at_builtin; refine append_from rfl _ _ rfl (p + 1) rfl ⟨blk', off', none⟩ _ S' _ (by first | rfl | omega) rfl (HN1.out _ (fun h => by omega)) (by omega) (by omega) ?_)
            intro v3 w3 ho3 hu3 hf3
            have HST3 : Hid (StF p b w3 (popL 0 ahN xs)) := HST.out.up hu3
            have HU3 : Hid (Up w w3) := HU.out.trans hu3
            have HAP3 : Hid (∀ g, v3.ownBlock = some g → g ≠ b) := fun g hg => by have := hf3 g hg; omega
            have HO3 := hide ho3
            clear hu3 hf3 HST HU HN1 hg5' y0
            obtain ⟨a3, c3, rfl, _, _⟩ := ho3.inG (z := eZeroN) (fun _ => rfl)
            clear ho3
            go_wp2_with fail
            go_at_call 19
            refine (flen_calls p b (popL 0 ahN xs) w3 HST3.out).mono ?_
            rintro _ w9 ⟨rfl, hw9⟩
            obtain rfl : w3 = w9 := hw9.symm
            clear hw9
            have hpl : (popL 0 ahN xs).length = S'.length := by rw [popL_length]; have := HXL.out; omega
            rw [hpl]
            replace hpl := hide hpl
            go_wp2
            go_roundw
            case rel => exact ⟨i + 1, b, popL 0 ahN xs, S', by omega, by go_num, ⟨HST3.out, (by first | exact HO3.out | (have h9 := HO3.out; rw [hS0] at h9; exact h9)), HPOP.out, HSRT.out, HHP.out, by have := hpl.out; have := HXL.out; omega, (by first | exact HAP3.out | (have h9 := HAP3.out; rw [hS0] at h9; exact h9)), hbp⟩, HU3.out⟩
            case measure => simp [intOf]; omega
          · go_wp2_with (at_builtin; refine append_from rfl _ _ rfl (p + 1) rfl ⟨blk', off' + 1, none⟩ _ S' _ (by first | rfl | simp) rfl (HN1.out _ (fun _ => rfl)) (by omega) (by omega) ?_)
            intro v3 w3 ho3 hu3 hf3
            have HST3 : Hid (StF p b w3 (popL 0 ahN xs)) := HST.out.up hu3
            have HU3 : Hid (Up w w3) := HU.out.trans hu3
            have HAP3 : Hid (∀ g, v3.ownBlock = some g → g ≠ b) := fun g hg => by have := hf3 g hg; omega
            have HO3 := hide ho3
            clear hu3 hf3 HST HU HN1 hg5' y0
            obtain ⟨a3, c3, rfl, _, _⟩ := ho3.inG (z := eZeroN) (fun _ => rfl)
            clear ho3
            go_wp2_with fail
            go_at_call 19
            refine (flen_calls p b (popL 0 ahN xs) w3 HST3.out).mono ?_
            rintro _ w9 ⟨rfl, hw9⟩
            obtain rfl : w3 = w9 := hw9.symm
            clear hw9
            have hpl : (popL 0 ahN xs).length = S'.length := by rw [popL_length]; have := HXL.out; omega
            rw [hpl]
            replace hpl := hide hpl
            go_wp2
            go_roundw
            case rel => exact ⟨i + 1, b, popL 0 ahN xs, S', by omega, by go_num, ⟨HST3.out, (by first | exact HO3.out | (have h9 := HO3.out; rw [hS0] at h9; exact h9)), HPOP.out, HSRT.out, HHP.out, by have := hpl.out; have := HXL.out; omega, (by first | exact HAP3.out | (have h9 := HAP3.out; rw [hS0] at h9; exact h9)), hbp⟩, HU3.out⟩
            case measure => simp [intOf]; omega
    · have t2 : decide ((i : Int) < len) = false := decide_eq_false (by omega)
      have HU := hide hu
      clear hu hinv
      go_wp2
      go_ret
      exact ⟨rfl, HU.out⟩

end Go.Proofs.Ytcemdiloiachlaa
