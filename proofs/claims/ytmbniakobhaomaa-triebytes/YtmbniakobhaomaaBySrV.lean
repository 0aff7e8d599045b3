/-
  The library's reverseRange, order2, median, medianAdjacent at a row of slots.
-/
import Derived.Test.YtmbniakobhaomaaBySrt
namespace Go.Proofs.Ytmbniakobhaomaa
open Go.ChangeShapes Go.WideShapes Go.ChangeAt Go.RowKit
open Go.Sort (swp reverseLoop order2 median medianAdjacent)
set_option linter.unusedVariables false

set_option maxRecDepth 20000 in
set_option maxHeartbeats 16000000 in
theorem reverse_calls (g cap n a b : Nat) (W0 : World) (ok : Int → Prop) (d : Array Int) (w : World) (hs : SrtB W0 g ok n d w) (hab : a ≤ b) (hb : b + 1 ≤ n) (hn : n ≤ 100000) :
    Calls Try.prog 62 #[.slice (some ⟨g, 0, none⟩) n cap, .int .i64 a, .int .i64 ((b + 1 : Nat) : Int)] w fun e w' => e = .returned (.tuple #[]) ∧ SrtB W0 g ok n (Go.Sort.reverseRange d a (b + 1)) w' := by
  have HS := hide hs
  clear hs
  go_enter Try.func62, Try.ntmps62
  go_wp2_with fail
  go_loopw [6, 7] (fun u v wr => ∃ (i j : Nat) (dk : Array Int), u = .int .i64 i ∧ v = .int .i64 j ∧ i ≤ n ∧ j < n ∧ SrtB W0 g ok n dk wr ∧ Hid (reverseLoop i j dk = reverseLoop a b d)) (fun u v _ => (intOf v).toNat - (intOf u).toNat)
  case atStart => exact ⟨a, b, d, rfl, by go_num, by omega, by omega, HS.out, rfl⟩
  case round =>
    obtain ⟨i, j, dk, rfl, rfl, hi, hj, hsk, HO⟩ := hrel
    have HK := hide hsk
    clear hsk
    by_cases hlt : i < j
    · have t1 : decide ((i : Int) < j) = true := decide_eq_true (by omega)
      have y1 := HK.out.cell i (by omega)
      have y0 := HK.out.cell j (by omega)
      have f1 := HK.out.froz i (by omega)
      have f0 := HK.out.froz j (by omega)
      have hswp := hide (HK.out.swap (i := i) (j := j) (by omega) (by omega))
      have HGO : Hid (reverseLoop (i + 1) (j - 1) (swp dk i j) = reverseLoop a b d) := by
        show _ = _
        rw [← HO.out, reverseLoop.eq_1 i j dk, if_pos hlt]
      generalize dk[i]! = X at y1 hswp
      generalize dk[j]! = Y at y0 hswp
      have z1 : (i : Int) < n := by omega
      have z2 : (j : Int) < n := by omega
      have hne : ¬ i = j := by omega
      have hne2 : ¬ j = i := by omega
      go_wp2_with fail
      go_region
      all_goals
        go_wp2
        go_roundw
        case rel => exact ⟨i + 1, j - 1, swp dk i j, by go_num, by first | go_num | (simp; omega), by omega, by omega, (by first | exact hswp.out | exact hswp.out.drewN _ | exact hswp.out.drew), HGO.out⟩
        case measure => simp [intOf]; omega
    · have t1 : decide ((i : Int) < j) = false := decide_eq_false (by omega)
      have HOUT : Hid (dk = Go.Sort.reverseRange d a (b + 1)) := by
        show _ = _
        unfold Go.Sort.reverseRange
        rw [Nat.add_sub_cancel, ← HO.out, reverseLoop.eq_1 i j dk, if_neg hlt]
      go_wp2
      go_end0
      exact ⟨rfl, by rw [← HOUT.out]; exact HK.out⟩

/-- A world of the sort's, and the count of swaps. -/
structure CntW (W0 : World) (g : Nat) (ok : Int → Prop) (n : Nat) (d : Array Int) (c s : Nat) (wr : World) : Prop where
  srt : SrtB W0 g ok n d wr
  cnt : wr.cell? ⟨c, 0, none⟩ = some (.int .i64 s)
  fro : wr.frozen? ⟨c, 0, none⟩ = false
  new : W0.heap.size ≤ c
  ne : ¬ c = g
theorem CntW.drewN {W0 wr : World} {g n c s : Nat} {ok : Int → Prop} {d : Array Int} (h : CntW W0 g ok n d c s wr) (q : Nat) : CntW W0 g ok n d c s (wr.drewN q) := ⟨h.srt.drewN q, h.cnt, h.fro, h.new, h.ne⟩
theorem CntW.bump {W0 wr : World} {g n c s t : Nat} {ok : Int → Prop} {d : Array Int} (h : CntW W0 g ok n d c s wr) : CntW W0 g ok n d c t (wr.setCell ⟨c, 0, none⟩ (.int .i64 t)) := by
  refine ⟨⟨h.srt.size, h.srt.ok, h.srt.chg.set (p := ⟨c, 0, none⟩) (fun hlt => absurd hlt (by have := h.new; show ¬ c < _; omega)) _, fun i hi => ?_, fun i hi => ?_⟩, World.cell?_setCell_same _ _ _ h.cnt, ?_, h.new, h.ne⟩
  · rw [World.cell?_setCell_other _ _ _ _ (by intro e'; simp only [Addr.mk.injEq] at e'; exact h.ne e'.1)]
    exact h.srt.cell i hi
  · rw [World.frozen?_setCell]; exact h.srt.froz i hi
  · rw [World.frozen?_setCell]; exact h.fro

set_option maxRecDepth 20000 in
set_option maxHeartbeats 16000000 in
theorem order2_calls (g cap n a b c s : Nat) (W0 : World) (ok : Int → Prop) (d : Array Int) (w : World) (hs : CntW W0 g ok n d c s w) (ha : a < n) (hb : b < n) (hn : n ≤ 100000) (hs9 : s ≤ 1000) :
    Calls Try.prog 77 #[.slice (some ⟨g, 0, none⟩) n cap, .int .i64 a, .int .i64 b, .pointer (some ⟨c, 0, none⟩)] w fun e w' => e = .returned (.tuple #[.int .i64 (order2 ltB d a b s).1, .int .i64 (order2 ltB d a b s).2.1]) ∧ CntW W0 g ok n d c (order2 ltB d a b s).2.2 w' := by
  have HS := hide hs
  have y1 := hs.srt.cell b hb
  have y0 := hs.srt.cell a ha
  have cc0 := hs.cnt
  have fc := hs.fro
  have hcm : Hid (∀ q, Calls Try.prog 64 #[.int .u8 d[b]!, .int .u8 d[a]!] (w.drewN q) fun e w' => e = .returned (.bool (ltB d[b]! d[a]!)) ∧ ∃ m, w' = (w.drewN q).drewN m) := fun q => lessB_calls _ _ _
  have hneg : True := trivial
  have ho : order2 ltB d a b s = if ltB d[b]! d[a]! then (b, a, s + 1) else (a, b, s) := rfl
  have z1 : (a : Int) < n := by omega
  have z2 : (b : Int) < n := by omega
  rw [ho]
  clear hs ho
  cases hl : ltB d[b]! d[a]! with
  | true =>
    rw [hl] at hcm
    clear hl
    generalize d[b]! = X at *
    generalize d[a]! = Y at *
    have hb2 : Hid (∀ q, CntW W0 g ok n d c (s + 1) ((w.drewN q).setCell ⟨c, 0, none⟩ (.int .i64 ((s + 1 : Nat) : Int)))) := fun q => (HS.out.drewN q).bump
    simp only [if_true]
    go_enter Try.func77, Try.ntmps77
    go_wp2_with fail
    go_quiet ((go_at_call 64; exact Calls.quiet_of (hcm.out _)))
    go_wp2
    go_ret2
    exact ⟨rfl, by have h9 := hb2.out nq; simpa using h9⟩
  | false =>
    rw [hl] at hcm
    clear hl
    generalize d[b]! = X at *
    generalize d[a]! = Y at *
    simp only [Bool.false_eq_true, if_false]
    go_enter Try.func77, Try.ntmps77
    go_wp2_with fail
    go_quiet ((go_at_call 64; exact Calls.quiet_of (hcm.out _)))
    go_wp2
    go_ret2
    exact ⟨rfl, HS.out.drewN _⟩

theorem order2_lt {lt : Int → Int → Bool} {d : Array Int} {a b s n : Nat} (ha : a < n) (hb : b < n) : (order2 lt d a b s).1 < n ∧ (order2 lt d a b s).2.1 < n ∧ (order2 lt d a b s).2.2 ≤ s + 1 := by
  unfold order2
  split
  · exact ⟨hb, ha, Nat.le_refl _⟩
  · exact ⟨ha, hb, by show s ≤ s + 1; omega⟩

set_option maxRecDepth 20000 in
set_option maxHeartbeats 16000000 in
theorem median_calls (g cap n a b e c s : Nat) (W0 : World) (ok : Int → Prop) (d : Array Int) (w : World) (hs : CntW W0 g ok n d c s w) (ha : a < n) (hb : b < n) (he : e < n) (hn : n ≤ 100000) (hs9 : s ≤ 990) :
    Calls Try.prog 74 #[.slice (some ⟨g, 0, none⟩) n cap, .int .i64 a, .int .i64 b, .int .i64 e, .pointer (some ⟨c, 0, none⟩)] w fun x w' => x = .returned (.int .i64 (median ltB d a b e s).1) ∧ CntW W0 g ok n d c (median ltB d a b e s).2 w' ∧ (median ltB d a b e s).1 < n ∧ (median ltB d a b e s).2 ≤ s + 3 := by
  have HS := hide hs
  clear hs
  have hm : median ltB d a b e s = ((order2 ltB d (order2 ltB d a b s).1 (order2 ltB d (order2 ltB d a b s).2.1 e (order2 ltB d a b s).2.2).1 (order2 ltB d (order2 ltB d a b s).2.1 e (order2 ltB d a b s).2.2).2.2).2.1, (order2 ltB d (order2 ltB d a b s).1 (order2 ltB d (order2 ltB d a b s).2.1 e (order2 ltB d a b s).2.2).1 (order2 ltB d (order2 ltB d a b s).2.1 e (order2 ltB d a b s).2.2).2.2).2.2) := rfl
  rw [hm]
  clear hm
  obtain ⟨q1, q2, q3⟩ := order2_lt (lt := ltB) (d := d) (s := s) ha hb
  have c1 := hide (order2_calls g cap n a b c s W0 ok d w HS.out ha hb hn (by omega))
  generalize order2 ltB d a b s = o1 at *
  obtain ⟨a1, b1, s1⟩ := o1
  simp only at q1 q2 q3 c1 ⊢
  obtain ⟨r1, r2, r3⟩ := order2_lt (lt := ltB) (d := d) (s := s1) q2 he
  have c2 : Hid (∀ w, CntW W0 g ok n d c s1 w → _) := fun w h => order2_calls g cap n b1 e c s1 W0 ok d w h q2 he hn (by omega)
  generalize order2 ltB d b1 e s1 = o2 at *
  obtain ⟨b2, e2, s2⟩ := o2
  simp only at r1 r2 r3 c2 ⊢
  obtain ⟨t1, t2, t3⟩ := order2_lt (lt := ltB) (d := d) (s := s2) q1 r1
  have c3 : Hid (∀ w, CntW W0 g ok n d c s2 w → _) := fun w h => order2_calls g cap n a1 b2 c s2 W0 ok d w h q1 r1 hn (by omega)
  generalize order2 ltB d a1 b2 s2 = o3 at *
  obtain ⟨a3, b3, s3⟩ := o3
  simp only at t1 t2 t3 c3 ⊢
  clear HS
  go_enter Try.func74, Try.ntmps74
  go_wp2_with fail
  go_at_call 77
  refine c1.out.mono ?_
  rintro _ w1 ⟨rfl, h1⟩
  have H1 := hide h1
  clear h1 c1
  go_wp2_with fail
  go_at_call 77
  refine (c2.out w1 H1.out).mono ?_
  rintro _ w2 ⟨rfl, h2⟩
  have H2 := hide h2
  clear h2 c2 H1
  go_wp2_with fail
  go_at_call 77
  refine (c3.out w2 H2.out).mono ?_
  rintro _ w3 ⟨rfl, h3⟩
  have H3 := hide h3
  clear h3 c3 H2
  go_wp2
  go_ret
  exact ⟨rfl, H3.out, t2, by omega⟩

set_option maxRecDepth 20000 in
set_option maxHeartbeats 16000000 in
theorem medianAdj_calls (g cap n a c s : Nat) (W0 : World) (ok : Int → Prop) (d : Array Int) (w : World) (hs : CntW W0 g ok n d c s w) (ha : a + 2 < n) (hn : n ≤ 100000) (hs9 : s ≤ 990) :
    Calls Try.prog 73 #[.slice (some ⟨g, 0, none⟩) n cap, .int .i64 ((a + 1 : Nat) : Int), .pointer (some ⟨c, 0, none⟩)] w fun x w' => x = .returned (.int .i64 (medianAdjacent ltB d (a + 1) s).1) ∧ CntW W0 g ok n d c (medianAdjacent ltB d (a + 1) s).2 w' ∧ (medianAdjacent ltB d (a + 1) s).1 < n ∧ (medianAdjacent ltB d (a + 1) s).2 ≤ s + 3 := by
  have hm : medianAdjacent ltB d (a + 1) s = median ltB d a (a + 1) (a + 2) s := rfl
  rw [hm]
  have c1 := hide (median_calls g cap n a (a + 1) (a + 2) c s W0 ok d w hs (by omega) (by omega) ha hn hs9)
  generalize median ltB d a (a + 1) (a + 2) s = o1 at *
  clear hm hs
  obtain ⟨m1, s1⟩ := o1
  simp only at c1 ⊢
  have e2 : ((a + 2 : Nat) : Int) = (a : Int) + 1 + 1 := by omega
  have e1 : ((a + 1 : Nat) : Int) = (a : Int) + 1 := by omega
  rw [e2, e1] at c1
  rw [e1]
  go_enter Try.func73, Try.ntmps73
  go_wp2_with fail
  go_at_call 74
  refine c1.out.mono ?_
  rintro _ w1 ⟨rfl, h1, h2, h3⟩
  have H1 := hide h1
  clear h1 c1
  go_wp2
  go_ret
  exact ⟨rfl, H1.out, h2, h3⟩

end Go.Proofs.Ytmbniakobhaomaa
