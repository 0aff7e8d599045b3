/-
  The ordered sort of bytes: the random numbers that breakPatterns draws by.
  The ordered sort of bytes: nextPowerOfTwo of lengths up to 256.
  The library's reverseRange, order2, median, medianAdjacent at a row of slots.
  The ordered sort of bytes: breakPatterns of rows of at most 256.
  The library's choosePivot at a row of slots.
  The ordered sort of bytes: the insertion sort that gives up.
  The library's partitionEqual at a row of slots.
  The library's partition at a row of slots: its two scans.
  The library's siftDown at a row of slots.
  The library's heapSort at a row of slots.
  The ordered sort of bytes: pdqsortOrdered of rows of at most 256.
  The library's ordered sort of at most 256 bytes.
-/
import Derived.Test.YtmbniakobhaomaaBySmG
import Derived.Sort.LotD5
import Derived.Sort.Row
import Derived.Laws.Bits64
import Derived.Laws.Bits64b
import Derived.Sort.Walk7a
import Derived.Sort.Walk7
import Derived.Deep.CutRange
import Derived.Deep.CutBlock
import Derived.Sort.Walk13a
import Derived.Sort.AssemblyPlain
import Derived.Deep.Cut
import Derived.Deep.LoopGhost
import Derived.BigQuiet
namespace Go.Proofs.Ytmbniakobhaomaa
open Go.ChangeShapes Go.WideShapes Go.ChangeAt Go.RowKit Go.Sort
set_option linter.unusedVariables false
set_option maxRecDepth 100000

theorem setCell_twice (w : World) (c o : Nat) (v v' : Value) : (w.setCell ⟨c, o, none⟩ v).setCell ⟨c, o, none⟩ v' = w.setCell ⟨c, o, none⟩ v' := by
  simp only [Go.Sort.setCell_eq, Go.Sort.mapBlock_mapBlock]
  congr 1
  funext x
  simp
set_option maxHeartbeats 4000000 in
theorem nextBy_calls (c r : Nat) (hr : r < 18446744073709551616) (w : World) (hc : w.cell? ⟨c, 0, none⟩ = some (.int .u64 r)) (hf : w.frozen? ⟨c, 0, none⟩ = false) :
    Calls Try.prog 72 #[.pointer (some ⟨c, 0, none⟩)] w fun e w' => e = .returned (.int .u64 (xorNextN r : Nat)) ∧ ∃ q, w' = (w.setCell ⟨c, 0, none⟩ (.int .u64 (xorNextN r : Nat))).drewN q := by
  obtain ⟨s1, h1⟩ : ∃ s1 : Nat, s1 = r ^^^ (r * 8192 % 18446744073709551616) := ⟨_, rfl⟩
  obtain ⟨s2, h2⟩ : ∃ s2 : Nat, s2 = s1 ^^^ (s1 / 128) := ⟨_, rfl⟩
  obtain ⟨s3, h3⟩ : ∃ s3 : Nat, s3 = s2 ^^^ (s2 * 131072 % 18446744073709551616) := ⟨_, rfl⟩
  have b1 : s1 < 18446744073709551616 := by rw [h1]; exact Nat.xor_lt_two_pow (n := 64) (by omega) (by omega)
  have b2 : s2 < 18446744073709551616 := by rw [h2]; exact Nat.xor_lt_two_pow (n := 64) (by omega) (by omega)
  have q1 : bits .xor .u64 (r : Int) (IntKind.u64.wrap ((r : Int) * 8192)) = (s1 : Int) := by
    have e : ((r : Int) * 8192 % 18446744073709551616) = ((r * 8192 % 18446744073709551616 : Nat) : Int) := by omega
    rw [IntKind.wrap_u64, e, bits_xor_u64_nat _ _ hr (by omega), h1]
  have q2 : bits .xor .u64 (s1 : Int) ((s1 : Int) / 128) = (s2 : Int) := by
    have e : ((s1 : Int) / 128) = ((s1 / 128 : Nat) : Int) := by omega
    rw [e, bits_xor_u64_nat _ _ b1 (by omega), h2]
  have q3 : bits .xor .u64 (s2 : Int) (IntKind.u64.wrap ((s2 : Int) * 131072)) = (s3 : Int) := by
    have e : ((s2 : Int) * 131072 % 18446744073709551616) = ((s2 * 131072 % 18446744073709551616 : Nat) : Int) := by omega
    rw [IntKind.wrap_u64, e, bits_xor_u64_nat _ _ b2 (by omega), h3]
  have hx : xorNextN r = s3 := by unfold xorNextN; simp only []; rw [← h1, ← h2, ← h3]
  rw [hx]
  clear h1 h2 h3 hx
  have ht : ∀ v v', (w.setCell ⟨c, 0, none⟩ v).setCell ⟨c, 0, none⟩ v' = w.setCell ⟨c, 0, none⟩ v' := setCell_twice w c 0
  go_enter Try.func72, Try.ntmps72
  go_wp2
  go_region
  all_goals go_wp2
  all_goals go_region
  all_goals go_wp2
  all_goals go_region
  all_goals go_wp2
  go_ret
  exact ⟨rfl, 3, rfl⟩
end Go.Proofs.Ytmbniakobhaomaa

namespace Go.Proofs.Ytmbniakobhaomaa
open Go.ChangeShapes Go.WideShapes Go.ChangeAt Go.RowKit Go.Sort
set_option linter.unusedVariables false
set_option maxRecDepth 100000

theorem len8_size : Lib.len8tab.size = 256 := by kernel_rfl
theorem len8_at (x : Nat) (h : x < Lib.len8tab.size) : (Lib.len8tab[x]).toNat = bitsLen x := by
  have key : ∀ y : Fin 256, (Lib.len8tab[y.1]'(by rw [len8_size]; exact y.2)).toNat = bitsLen y.1 := by decide +kernel
  exact key ⟨x, by rw [← len8_size]; exact h⟩
set_option maxHeartbeats 4000000 in
theorem len64_at (x : Nat) (w : World) (hx : x < 256) : Calls Try.prog 68 #[.int .u64 x] w fun e w' => e = .returned (.int .i64 (bitsLen x : Nat)) ∧ w' = w := by
  have t1 : decide ((x : Int) ≥ 4294967296) = false := decide_eq_false (by omega)
  have t2 : decide ((x : Int) ≥ 65536) = false := decide_eq_false (by omega)
  have t3 : decide ((x : Int) ≥ 256) = false := decide_eq_false (by omega)
  go_enter Try.func68, Try.ntmps68
  go_wp2
  go_ret
  refine ⟨?_, rfl⟩
  rename_i hx9
  have hb := len8_at x hx9
  have h2 : bitsLen x ≤ 255 := by rw [← hb]; have := (Lib.len8tab[x]).toNat_lt; omega
  have e : wrap64 ((bitsLen x : Nat) : Int) = (bitsLen x : Nat) := by unfold wrap64; omega
  rw [hb, e, e]
  rfl
set_option maxHeartbeats 4000000 in
theorem len64_256 (w : World) : Calls Try.prog 68 #[.int .u64 256] w fun e w' => e = .returned (.int .i64 9) ∧ w' = w := by
  go_enter Try.func68, Try.ntmps68
  go_wp2
  all_goals first | (go_ret; refine ⟨?_, rfl⟩; simp [wrap64]; done) | (exfalso; simp [len8_size] at *; done) | (go_ret; refine ⟨?_, rfl⟩; kernel_rfl)
theorem len64_le (x : Nat) (w : World) (hx : x ≤ 256) : Calls Try.prog 68 #[.int .u64 x] w fun e w' => e = .returned (.int .i64 (bitsLen x : Nat)) ∧ w' = w := by
  by_cases h : x = 256
  · subst h
    have e : bitsLen 256 = 9 := by decide +kernel
    rw [e]
    exact len64_256 w
  · exact len64_at x w (by omega)
set_option maxHeartbeats 4000000 in
theorem len_at (x : Nat) (w : World) (hx : x ≤ 256) : Calls Try.prog 56 #[.int .u64 x] w fun e w' => e = .returned (.int .i64 (bitsLen x : Nat)) ∧ w' = w := by
  go_enter Try.func56, Try.ntmps56
  go_wp2_with fail
  go_at_call 68
  refine (len64_le x w hx).mono ?_
  rintro _ w9 ⟨rfl, hw9⟩
  obtain rfl : w = w9 := hw9.symm
  go_wp2
  go_ret
  exact ⟨rfl, rfl⟩
theorem bitsLen_9 (n : Nat) (hn : n ≤ 256) : bitsLen n ≤ 9 := by
  have key : ∀ y : Fin 257, bitsLen y.1 ≤ 9 := by decide +kernel
  exact key ⟨n, by omega⟩
set_option maxHeartbeats 4000000 in
theorem nextPow_calls (n : Nat) (hn : n ≤ 256) (w : World) : Calls Try.prog 71 #[.int .i64 n] w fun e w' => e = .returned (.int .u64 ((1 <<< bitsLen n : Nat) : Int)) ∧ w' = w := by
  have hk : bitsLen n ≤ 9 := bitsLen_9 n hn
  have hL := hide (len_at n w hn)
  obtain ⟨k, hkk⟩ : ∃ k, k = bitsLen n := ⟨_, rfl⟩
  rw [← hkk] at hL hk ⊢
  have hp := Go.Proofs.wrap_two_pow k (by omega)
  clear hkk
  go_enter Try.func71, Try.ntmps71
  go_wp2_with (go_at_call 56; refine hL.out.mono ?_; rintro _ w9 ⟨rfl, hw9⟩; obtain rfl : w = w9 := hw9.symm)
  go_ret
  exact ⟨rfl, rfl⟩
end Go.Proofs.Ytmbniakobhaomaa

namespace Go.Proofs.Ytmbniakobhaomaa
open Go.ChangeShapes Go.WideShapes Go.ChangeAt Go.RowKit
open Go.Sort (swp reverseLoop order2 median medianAdjacent)
set_option linter.unusedVariables false

set_option maxRecDepth 20000 in
set_option maxHeartbeats 16000000 in
theorem reverse_calls (g cap n a b : Nat) (W0 : World) (ok : Int → Prop) (d : Array Int) (w : World) (hs : SrtB W0 g ok n d w) (hab : a ≤ b) (hb : b + 1 ≤ n) (hn : n ≤ 100000) :
    Calls Try.prog 62 #[.slice (some ⟨g, 0, none⟩) n cap, .int .i64 a, .int .i64 ((b + 1 : Nat) : Int)] w fun e w' => e = .returned (.tuple #[]) ∧ SrtB W0 g ok n (Go.Sort.reverseRange d a (b + 1)) w' := by
  have HS := hide hs
  clear hs
  go_enter Try.func62, Try.ntmps62
  go_wp2_with fail
  go_loopw [6, 7] (fun u v wr => ∃ (i j : Nat) (dk : Array Int), u = .int .i64 i ∧ v = .int .i64 j ∧ i ≤ n ∧ j < n ∧ SrtB W0 g ok n dk wr ∧ Hid (reverseLoop i j dk = reverseLoop a b d)) (fun u v _ => (intOf v).toNat - (intOf u).toNat)
  case atStart => exact ⟨a, b, d, rfl, by go_num, by omega, by omega, HS.out, rfl⟩
  case round =>
    obtain ⟨i, j, dk, rfl, rfl, hi, hj, hsk, HO⟩ := hrel
    have HK := hide hsk
    clear hsk
    by_cases hlt : i < j
    · have t1 : decide ((i : Int) < j) = true := decide_eq_true (by omega)
      have y1 := HK.out.cell i (by omega)
      have y0 := HK.out.cell j (by omega)
      have f1 := HK.out.froz i (by omega)
      have f0 := HK.out.froz j (by omega)
      have hswp := hide (HK.out.swap (i := i) (j := j) (by omega) (by omega))
      have HGO : Hid (reverseLoop (i + 1) (j - 1) (swp dk i j) = reverseLoop a b d) := by
        show _ = _
        rw [← HO.out, reverseLoop.eq_1 i j dk, if_pos hlt]
      generalize dk[i]! = X at y1 hswp
      generalize dk[j]! = Y at y0 hswp
      have z1 : (i : Int) < n := by omega
      have z2 : (j : Int) < n := by omega
      have hne : ¬ i = j := by omega
      have hne2 : ¬ j = i := by omega
      go_wp2_with fail
      go_region
      all_goals
        go_wp2
        go_roundw
        case rel => exact ⟨i + 1, j - 1, swp dk i j, by go_num, by first | go_num | (simp; omega), by omega, by omega, (by first | exact hswp.out | exact hswp.out.drewN _ | exact hswp.out.drew), HGO.out⟩
        case measure => simp [intOf]; omega
    · have t1 : decide ((i : Int) < j) = false := decide_eq_false (by omega)
      have HOUT : Hid (dk = Go.Sort.reverseRange d a (b + 1)) := by
        show _ = _
        unfold Go.Sort.reverseRange
        rw [Nat.add_sub_cancel, ← HO.out, reverseLoop.eq_1 i j dk, if_neg hlt]
      go_wp2
      go_end0
      exact ⟨rfl, by rw [← HOUT.out]; exact HK.out⟩

/-- A world of the sort's, and the count of swaps. -/
structure CntW (W0 : World) (g : Nat) (ok : Int → Prop) (n : Nat) (d : Array Int) (c s : Nat) (wr : World) : Prop where
  srt : SrtB W0 g ok n d wr
  cnt : wr.cell? ⟨c, 0, none⟩ = some (.int .i64 s)
  fro : wr.frozen? ⟨c, 0, none⟩ = false
  new : W0.heap.size ≤ c
  ne : ¬ c = g
theorem CntW.drewN {W0 wr : World} {g n c s : Nat} {ok : Int → Prop} {d : Array Int} (h : CntW W0 g ok n d c s wr) (q : Nat) : CntW W0 g ok n d c s (wr.drewN q) := ⟨h.srt.drewN q, h.cnt, h.fro, h.new, h.ne⟩
theorem CntW.bump {W0 wr : World} {g n c s t : Nat} {ok : Int → Prop} {d : Array Int} (h : CntW W0 g ok n d c s wr) : CntW W0 g ok n d c t (wr.setCell ⟨c, 0, none⟩ (.int .i64 t)) := by
  refine ⟨⟨h.srt.size, h.srt.ok, h.srt.chg.set (p := ⟨c, 0, none⟩) (fun hlt => absurd hlt (by have := h.new; show ¬ c < _; omega)) _, fun i hi => ?_, fun i hi => ?_⟩, World.cell?_setCell_same _ _ _ h.cnt, ?_, h.new, h.ne⟩
  · rw [World.cell?_setCell_other _ _ _ _ (by intro e'; simp only [Addr.mk.injEq] at e'; exact h.ne e'.1)]
    exact h.srt.cell i hi
  · rw [World.frozen?_setCell]; exact h.srt.froz i hi
  · rw [World.frozen?_setCell]; exact h.fro

set_option maxRecDepth 20000 in
set_option maxHeartbeats 16000000 in
theorem order2_calls (g cap n a b c s : Nat) (W0 : World) (ok : Int → Prop) (d : Array Int) (w : World) (hs : CntW W0 g ok n d c s w) (ha : a < n) (hb : b < n) (hn : n ≤ 100000) (hs9 : s ≤ 1000) :
    Calls Try.prog 77 #[.slice (some ⟨g, 0, none⟩) n cap, .int .i64 a, .int .i64 b, .pointer (some ⟨c, 0, none⟩)] w fun e w' => e = .returned (.tuple #[.int .i64 (order2 ltB d a b s).1, .int .i64 (order2 ltB d a b s).2.1]) ∧ CntW W0 g ok n d c (order2 ltB d a b s).2.2 w' := by
  have HS := hide hs
  have y1 := hs.srt.cell b hb
  have y0 := hs.srt.cell a ha
  have cc0 := hs.cnt
  have fc := hs.fro
  have hcm : Hid (∀ q, Calls Try.prog 64 #[.int .u8 d[b]!, .int .u8 d[a]!] (w.drewN q) fun e w' => e = .returned (.bool (ltB d[b]! d[a]!)) ∧ ∃ m, w' = (w.drewN q).drewN m) := fun q => lessB_calls _ _ _
  have hneg : True := trivial
  have ho : order2 ltB d a b s = if ltB d[b]! d[a]! then (b, a, s + 1) else (a, b, s) := rfl
  have z1 : (a : Int) < n := by omega
  have z2 : (b : Int) < n := by omega
  rw [ho]
  clear hs ho
  cases hl : ltB d[b]! d[a]! with
  | true =>
    rw [hl] at hcm
    clear hl
    generalize d[b]! = X at *
    generalize d[a]! = Y at *
    have hb2 : Hid (∀ q, CntW W0 g ok n d c (s + 1) ((w.drewN q).setCell ⟨c, 0, none⟩ (.int .i64 ((s + 1 : Nat) : Int)))) := fun q => (HS.out.drewN q).bump
    simp only [if_true]
    go_enter Try.func77, Try.ntmps77
    go_wp2_with fail
    go_quiet ((go_at_call 64; exact Calls.quiet_of (hcm.out _)))
    go_wp2
    go_ret2
    exact ⟨rfl, by have h9 := hb2.out nq; simpa using h9⟩
  | false =>
    rw [hl] at hcm
    clear hl
    generalize d[b]! = X at *
    generalize d[a]! = Y at *
    simp only [Bool.false_eq_true, if_false]
    go_enter Try.func77, Try.ntmps77
    go_wp2_with fail
    go_quiet ((go_at_call 64; exact Calls.quiet_of (hcm.out _)))
    go_wp2
    go_ret2
    exact ⟨rfl, HS.out.drewN _⟩

theorem order2_lt {lt : Int → Int → Bool} {d : Array Int} {a b s n : Nat} (ha : a < n) (hb : b < n) : (order2 lt d a b s).1 < n ∧ (order2 lt d a b s).2.1 < n ∧ (order2 lt d a b s).2.2 ≤ s + 1 := by
  unfold order2
  split
  · exact ⟨hb, ha, Nat.le_refl _⟩
  · exact ⟨ha, hb, by show s ≤ s + 1; omega⟩

set_option maxRecDepth 20000 in
set_option maxHeartbeats 16000000 in
theorem median_calls (g cap n a b e c s : Nat) (W0 : World) (ok : Int → Prop) (d : Array Int) (w : World) (hs : CntW W0 g ok n d c s w) (ha : a < n) (hb : b < n) (he : e < n) (hn : n ≤ 100000) (hs9 : s ≤ 990) :
    Calls Try.prog 74 #[.slice (some ⟨g, 0, none⟩) n cap, .int .i64 a, .int .i64 b, .int .i64 e, .pointer (some ⟨c, 0, none⟩)] w fun x w' => x = .returned (.int .i64 (median ltB d a b e s).1) ∧ CntW W0 g ok n d c (median ltB d a b e s).2 w' ∧ (median ltB d a b e s).1 < n ∧ (median ltB d a b e s).2 ≤ s + 3 := by
  have HS := hide hs
  clear hs
  have hm : median ltB d a b e s = ((order2 ltB d (order2 ltB d a b s).1 (order2 ltB d (order2 ltB d a b s).2.1 e (order2 ltB d a b s).2.2).1 (order2 ltB d (order2 ltB d a b s).2.1 e (order2 ltB d a b s).2.2).2.2).2.1, (order2 ltB d (order2 ltB d a b s).1 (order2 ltB d (order2 ltB d a b s).2.1 e (order2 ltB d a b s).2.2).1 (order2 ltB d (order2 ltB d a b s).2.1 e (order2 ltB d a b s).2.2).2.2).2.2) := rfl
  rw [hm]
  clear hm
  obtain ⟨q1, q2, q3⟩ := order2_lt (lt := ltB) (d := d) (s := s) ha hb
  have c1 := hide (order2_calls g cap n a b c s W0 ok d w HS.out ha hb hn (by omega))
  generalize order2 ltB d a b s = o1 at *
  obtain ⟨a1, b1, s1⟩ := o1
  simp only at q1 q2 q3 c1 ⊢
  obtain ⟨r1, r2, r3⟩ := order2_lt (lt := ltB) (d := d) (s := s1) q2 he
  have c2 : Hid (∀ w, CntW W0 g ok n d c s1 w → _) := fun w h => order2_calls g cap n b1 e c s1 W0 ok d w h q2 he hn (by omega)
  generalize order2 ltB d b1 e s1 = o2 at *
  obtain ⟨b2, e2, s2⟩ := o2
  simp only at r1 r2 r3 c2 ⊢
  obtain ⟨t1, t2, t3⟩ := order2_lt (lt := ltB) (d := d) (s := s2) q1 r1
  have c3 : Hid (∀ w, CntW W0 g ok n d c s2 w → _) := fun w h => order2_calls g cap n a1 b2 c s2 W0 ok d w h q1 r1 hn (by omega)
  generalize order2 ltB d a1 b2 s2 = o3 at *
  obtain ⟨a3, b3, s3⟩ := o3
  simp only at t1 t2 t3 c3 ⊢
  clear HS
  go_enter Try.func74, Try.ntmps74
  go_wp2_with fail
  go_at_call 77
  refine c1.out.mono ?_
  rintro _ w1 ⟨rfl, h1⟩
  have H1 := hide h1
  clear h1 c1
  go_wp2_with fail
  go_at_call 77
  refine (c2.out w1 H1.out).mono ?_
  rintro _ w2 ⟨rfl, h2⟩
  have H2 := hide h2
  clear h2 c2 H1
  go_wp2_with fail
  go_at_call 77
  refine (c3.out w2 H2.out).mono ?_
  rintro _ w3 ⟨rfl, h3⟩
  have H3 := hide h3
  clear h3 c3 H2
  go_wp2
  go_ret
  exact ⟨rfl, H3.out, t2, by omega⟩

set_option maxRecDepth 20000 in
set_option maxHeartbeats 16000000 in
theorem medianAdj_calls (g cap n a c s : Nat) (W0 : World) (ok : Int → Prop) (d : Array Int) (w : World) (hs : CntW W0 g ok n d c s w) (ha : a + 2 < n) (hn : n ≤ 100000) (hs9 : s ≤ 990) :
    Calls Try.prog 73 #[.slice (some ⟨g, 0, none⟩) n cap, .int .i64 ((a + 1 : Nat) : Int), .pointer (some ⟨c, 0, none⟩)] w fun x w' => x = .returned (.int .i64 (medianAdjacent ltB d (a + 1) s).1) ∧ CntW W0 g ok n d c (medianAdjacent ltB d (a + 1) s).2 w' ∧ (medianAdjacent ltB d (a + 1) s).1 < n ∧ (medianAdjacent ltB d (a + 1) s).2 ≤ s + 3 := by
  have hm : medianAdjacent ltB d (a + 1) s = median ltB d a (a + 1) (a + 2) s := rfl
  rw [hm]
  have c1 := hide (median_calls g cap n a (a + 1) (a + 2) c s W0 ok d w hs (by omega) (by omega) ha hn hs9)
  generalize median ltB d a (a + 1) (a + 2) s = o1 at *
  clear hm hs
  obtain ⟨m1, s1⟩ := o1
  simp only at c1 ⊢
  have e2 : ((a + 2 : Nat) : Int) = (a : Int) + 1 + 1 := by omega
  have e1 : ((a + 1 : Nat) : Int) = (a : Int) + 1 := by omega
  rw [e2, e1] at c1
  rw [e1]
  go_enter Try.func73, Try.ntmps73
  go_wp2_with fail
  go_at_call 74
  refine c1.out.mono ?_
  rintro _ w1 ⟨rfl, h1, h2, h3⟩
  have H1 := hide h1
  clear h1 c1
  go_wp2
  go_ret
  exact ⟨rfl, H1.out, h2, h3⟩

end Go.Proofs.Ytmbniakobhaomaa

namespace Go.Proofs.Ytmbniakobhaomaa
open Go.ChangeShapes Go.WideShapes Go.ChangeAt Go.RowKit Go.Sort
set_option linter.unusedVariables false
set_option maxRecDepth 100000

/-- A world of the sort's, and the random number. -/
structure RndW (W0 : World) (g : Nat) (ok : Int → Prop) (n : Nat) (d : Array Int) (c r : Nat) (wr : World) : Prop where
  srt : SrtB W0 g ok n d wr
  rnd : wr.cell? ⟨c, 0, none⟩ = some (.int .u64 r)
  fro : wr.frozen? ⟨c, 0, none⟩ = false
  new : W0.heap.size ≤ c
  ne : ¬ c = g
theorem RndW.start {W0 wr : World} {g n : Nat} {ok : Int → Prop} {d : Array Int} (h : SrtB W0 g ok n d wr) (hg : g < W0.heap.size) (t : TypeId) (L : Nat) : RndW W0 g ok n d wr.heap.size L (wr.alloc (.cells #[.int .u64 L] t)) := by
  have hsz := h.chg.size
  have hu : Up wr (wr.alloc (.cells #[.int .u64 L] t)) := (Up.refl _).alloc _
  refine ⟨⟨h.size, h.ok, h.chg.alloc _, fun i hi => hu.cell (h.cell i hi), fun i hi => ?_⟩, by simp, by simp, hsz, by omega⟩
  rw [hu.frozen (p := ⟨g, i, none⟩) (by show g < _; omega)]
  exact h.froz i hi
theorem RndW.bump {W0 wr : World} {g n c r t q : Nat} {ok : Int → Prop} {d : Array Int} (h : RndW W0 g ok n d c r wr) : RndW W0 g ok n d c t ((wr.setCell ⟨c, 0, none⟩ (.int .u64 t)).drewN q) := by
  have h0 : RndW W0 g ok n d c t (wr.setCell ⟨c, 0, none⟩ (.int .u64 t)) := by
    refine ⟨⟨h.srt.size, h.srt.ok, h.srt.chg.set (p := ⟨c, 0, none⟩) (fun hlt => absurd hlt (by have := h.new; show ¬ c < _; omega)) _, fun i hi => ?_, fun i hi => ?_⟩, World.cell?_setCell_same _ _ _ h.rnd, ?_, h.new, h.ne⟩
    · rw [World.cell?_setCell_other _ _ _ _ (by intro e'; simp only [Addr.mk.injEq] at e'; exact h.ne e'.1)]
      exact h.srt.cell i hi
    · rw [World.frozen?_setCell]; exact h.srt.froz i hi
    · rw [World.frozen?_setCell]; exact h.fro
  exact ⟨h0.srt.drewN q, h0.rnd, h0.fro, h0.new, h0.ne⟩
theorem RndW.drewN {W0 wr : World} {g n c r : Nat} {ok : Int → Prop} {d : Array Int} (h : RndW W0 g ok n d c r wr) (q : Nat) : RndW W0 g ok n d c r (wr.drewN q) := ⟨h.srt.drewN q, h.rnd, h.fro, h.new, h.ne⟩
theorem RndW.swap {W0 wr : World} {g n c r : Nat} {ok : Int → Prop} {d : Array Int} (h : RndW W0 g ok n d c r wr) {i j : Nat} (hi : i < n) (hj : j < n) : RndW W0 g ok n (swp d i j) c r ((wr.setCell ⟨g, i, none⟩ (.int .u8 d[j]!)).setCell ⟨g, j, none⟩ (.int .u8 d[i]!)) := by
  have hne : ∀ k v (w : World), (w.setCell ⟨g, k, none⟩ v).cell? ⟨c, 0, none⟩ = w.cell? ⟨c, 0, none⟩ := fun k v w => World.cell?_setCell_other _ _ _ _ (by intro e'; simp only [Addr.mk.injEq] at e'; exact h.ne e'.1.symm)
  exact ⟨h.srt.swap hi hj, by rw [hne, hne]; exact h.rnd, by rw [World.frozen?_setCell, World.frozen?_setCell]; exact h.fro, h.new, h.ne⟩

set_option maxHeartbeats 16000000 in
theorem break_go (g cap n a L : Nat) (W0 : World) (ok : Int → Prop) (d : Array Int) (w : World) (hs : SrtB W0 g ok n d w) (hg : g < W0.heap.size) (h8 : 8 ≤ L) (hb : a + L ≤ n) (hn : n ≤ 256) :
    Calls Try.prog 60 #[.slice (some ⟨g, 0, none⟩) n cap, .int .i64 a, .int .i64 ((a + L : Nat) : Int)] w fun e w' => e = .returned (.tuple #[]) ∧ SrtB W0 g ok n (breakPatterns d a (a + L)) w' := by
  rw [Go.Proofs.breakPatterns_eq d a L h8]
  obtain ⟨M, hM⟩ : ∃ M : Nat, M = 1 <<< bitsLen L := ⟨_, rfl⟩
  have hM1 : 1 ≤ M := by rw [hM, Nat.one_shiftLeft]; exact Nat.two_pow_pos _
  have hM2 : M ≤ 2 * L := by rw [hM, Nat.one_shiftLeft]; exact two_pow_bitsLen_le (by omega)
  have hNP : Hid (∀ w, Calls Try.prog 71 #[.int .i64 (L : Int)] w fun e w' => e = .returned (.int .u64 (M : Int)) ∧ w' = w) := by rw [hM]; exact fun w => nextPow_calls L (by omega) w
  rw [← hM]
  have hST := hide (RndW.start hs hg 110 L)
  have hLr : L = (UInt64.ofNat L).toNat := by simp; omega
  obtain ⟨I0, hI0⟩ : ∃ I0, I0 = a + L / 4 * 2 - 1 := ⟨_, rfl⟩
  rw [← hI0]
  obtain ⟨Q, hQ⟩ : ∃ Q, Q = L / 4 := ⟨_, rfl⟩
  have hQ1 : 2 ≤ Q ∧ 4 * Q ≤ L := by omega
  have hQz : (L : Int).tdiv 4 = (Q : Int) := by rw [Int.tdiv_eq_ediv_of_nonneg (by omega)]; omega
  have hQz2 : (L : Int) / 4 = (Q : Int) := by omega
  have hIQ : (I0 : Int) = (a : Int) + (Q : Int) * 2 - 1 := by rw [hI0, ← hQ]; omega
  have eL : ((a : Int) + (L : Int) - (a : Int)) = (L : Int) := by omega
  have HLR := hide hLr
  clear hM hs hLr hI0 hQ
  go_enter Try.func60, Try.ntmps60
  go_wp2_with fail
  refine (hNP.out _).mono ?_
  rintro _ w9 ⟨rfl, hw9⟩
  generalize hc : w.heap.size = c at hST hw9 ⊢
  generalize w.alloc (.cells #[.int .u64 (L : Int)] 110) = W at *
  obtain rfl : W = w9 := hw9.symm
  clear hc
  dsimp only
  go_wp2_with fail
  go_loopw [9] (fun vi wr => ∃ (t : Nat) (r : UInt64) (dk : Array Int), vi = .int .i64 ((I0 + t : Nat) : Int) ∧ t ≤ 3 ∧ Hid (RndW W0 g ok n dk c r.toNat wr ∧ bpRest a L M I0 (3 - t) t (r, dk) = bpRest a L M I0 3 0 (UInt64.ofNat L, d))) (fun vi _ => I0 + 4 - (intOf vi).toNat)
  case atStart =>
    exact ⟨0, UInt64.ofNat L, d, by congr 1; omega, by omega, by rw [← HLR.out]; exact hide ⟨hST.out, rfl⟩⟩
  case round =>
    obtain ⟨t, r, dk, rfl, ht, hr⟩ := hrel
    clear hST
    by_cases h3 : t < 3
    · obtain ⟨R, hRr⟩ : ∃ R : Nat, R = r.toNat := ⟨_, rfl⟩
      have lR : R < 18446744073709551616 := by rw [hRr]; exact r.toNat_lt
      obtain ⟨R', hR'⟩ : ∃ R' : Nat, R' = xorNextN R := ⟨_, rfl⟩
      have lR' : R' < 18446744073709551616 := by rw [hR']; exact xorNextN_lt R lR
      obtain ⟨O, hO⟩ : ∃ O : Nat, O = R' &&& (M - 1) := ⟨_, rfl⟩
      have lO : O ≤ M - 1 := by rw [hO]; exact Nat.and_le_right
      have eAnd : bits .and .u64 (R' : Int) ((M : Int) - 1) = (O : Int) := by
        rw [show ((M : Int) - 1) = ((M - 1 : Nat) : Int) by omega, bits_and_u64_nat _ _ lR' (by omega), hO]
      have HN : Hid (R' = (xorNext r).toNat ∧ O = (xorNext r).toNat &&& (M - 1)) := by
        have e : R' = (xorNext r).toNat := by rw [hR', hRr, xorNext_toNat]
        exact ⟨e, by rw [hO, e]⟩
      have hNX := hide (nextBy_calls c R lR wr (by rw [hRr]; exact hr.out.1.rnd) hr.out.1.fro)
      rw [← hR'] at hNX
      obtain ⟨J, hJ⟩ : ∃ J, J = I0 + t := ⟨_, rfl⟩
      have hJn : J < n := by omega
      have k1 : (J : Int) ≤ (a : Int) + (Q : Int) * 2 + 1 := by omega
      have zj0 : (0 : Int) ≤ (J : Int) := by omega
      have zj1 : (J : Int) < (n : Int) := by omega
      have eJ : IntKind.i64.wrap ((J : Int) + 1) = (J : Int) + 1 := by rw [IntKind.wrap_i64]; omega
      have HBP := hide hr.out.2
      have HRN := hide hr.out.1
      have hM8 : M - 1 < 1000 := by omega
      have hmI : (J : Int) + 1 = ((I0 + (t + 1) : Nat) : Int) := by omega
      have HMI := hide (⟨hmI, hJ⟩ : _ ∧ _)
      rw [← hJ]
      clear hRr hR' hO hr hIQ hmI
      go_wp2_with fail
      refine hNX.out.mono ?_
      rintro _ W2 ⟨rfl, q, hq⟩
      have HR2 : Hid (RndW W0 g ok n dk c R' W2) := by rw [hq]; exact hide HRN.out.bump
      clear hq hNX HRN
      dsimp only
      by_cases hLO : L ≤ O
      · have ho : a + (O - L) < n := by omega
        have hSW : Hid (∀ (W2 : World) (q : Nat), RndW W0 g ok n dk c R' W2 → RndW W0 g ok n (swp dk J (a + (O - L))) c R' ((((W2.drewN q)).setCell ⟨g, J, none⟩ (.int .u8 dk[a + (O - L)]!)).setCell ⟨g, a + (O - L), none⟩ (.int .u8 dk[J]!))) := hide (fun W2 q h => (h.drewN q).swap hJn ho)
        have y1 := HR2.out.srt.cell J hJn
        have y2 := HR2.out.srt.cell (a + (O - L)) ho
        have f1 := HR2.out.srt.froz J hJn
        have f2 := HR2.out.srt.froz (a + (O - L)) ho
        have hstep : Hid (bpRest a L M I0 (3 - (t + 1)) (t + 1) (xorNext r, swp dk J (a + (O - L))) = bpRest a L M I0 3 0 (UInt64.ofNat L, d)) := by
          unfold Hid
          rw [← HBP.out, Go.Proofs.bp_step a L M I0 t r dk ((O - L)) h3 (by rw [← HN.out.2]; rw [if_pos hLO]), hJ]
        obtain ⟨o, hoo⟩ : ∃ o, o = a + (O - L) := ⟨_, rfl⟩
        have hoI : (a : Int) + (((O - L) : Nat) : Int) = (o : Int) := by omega
        rw [← hoo] at hSW y2 f2 hstep ho
        have u1 : (L : Int) ≤ (O : Int) := by omega
        have u2 : (O : Int) - (L : Int) = ((O - L : Nat) : Int) := by omega
        clear hoo HBP hJ
        have zo0 : (0 : Int) ≤ (o : Int) := by omega
        have zo1 : (o : Int) < (n : Int) := by omega
        generalize hX : dk[J]! = X at *
        generalize hY : dk[o]! = Y at *
        have hSW2 : Hid (∀ q, RndW W0 g ok n (swp dk J o) c (xorNext r).toNat (((W2.drewN q).setCell ⟨g, J, none⟩ (.int .u8 Y)).setCell ⟨g, o, none⟩ (.int .u8 X))) := hide (fun q => by have h9 := hSW.out W2 q HR2.out; rw [HN.out.1] at h9; exact h9)
        have HXY : Hid (J = o → X = Y) := hide (fun e => by rw [← hX, ← hY, e])
        clear hSW hX hY HR2
        by_cases hEq : J = o
        · subst hEq
          obtain rfl : X = Y := HXY.out rfl
          clear y2 f2
          go_wp2_with fail
          go_region
          all_goals go_wp2
          all_goals go_roundw
          all_goals first
            | exact ⟨t + 1, xorNext r, swp dk J J, by rw [HMI.out.1], by omega, hide ⟨by first | exact hSW2.out _ | exact (hSW2.out _).drewN _ | exact (hSW2.out 0) | exact (hSW2.out 1), hstep.out⟩⟩
            | (have hm := HMI.out.2; simp [intOf]; omega)
        · have hne : ¬ o = J := fun e => hEq e.symm
          go_wp2_with fail
          go_region
          all_goals go_wp2
          all_goals go_roundw
          all_goals first
            | exact ⟨t + 1, xorNext r, swp dk J o, by rw [HMI.out.1], by omega, hide ⟨by first | exact hSW2.out _ | exact (hSW2.out _).drewN _ | exact (hSW2.out 0) | exact (hSW2.out 1), hstep.out⟩⟩
            | (have hm := HMI.out.2; simp [intOf]; omega)
      · have ho : a + O < n := by omega
        have hSW : Hid (∀ (W2 : World) (q : Nat), RndW W0 g ok n dk c R' W2 → RndW W0 g ok n (swp dk J (a + O)) c R' ((((W2.drewN q)).setCell ⟨g, J, none⟩ (.int .u8 dk[a + O]!)).setCell ⟨g, a + O, none⟩ (.int .u8 dk[J]!))) := hide (fun W2 q h => (h.drewN q).swap hJn ho)
        have y1 := HR2.out.srt.cell J hJn
        have y2 := HR2.out.srt.cell (a + O) ho
        have f1 := HR2.out.srt.froz J hJn
        have f2 := HR2.out.srt.froz (a + O) ho
        have hstep : Hid (bpRest a L M I0 (3 - (t + 1)) (t + 1) (xorNext r, swp dk J (a + O)) = bpRest a L M I0 3 0 (UInt64.ofNat L, d)) := by
          unfold Hid
          rw [← HBP.out, Go.Proofs.bp_step a L M I0 t r dk (O) h3 (by rw [← HN.out.2]; rw [if_neg hLO]), hJ]
        obtain ⟨o, hoo⟩ : ∃ o, o = a + O := ⟨_, rfl⟩
        have hoI : (a : Int) + ((O : Nat) : Int) = (o : Int) := by omega
        rw [← hoo] at hSW y2 f2 hstep ho
        have u1 : ¬ (L : Int) ≤ (O : Int) := by omega
        clear hoo HBP hJ
        have zo0 : (0 : Int) ≤ (o : Int) := by omega
        have zo1 : (o : Int) < (n : Int) := by omega
        generalize hX : dk[J]! = X at *
        generalize hY : dk[o]! = Y at *
        have hSW2 : Hid (∀ q, RndW W0 g ok n (swp dk J o) c (xorNext r).toNat (((W2.drewN q).setCell ⟨g, J, none⟩ (.int .u8 Y)).setCell ⟨g, o, none⟩ (.int .u8 X))) := hide (fun q => by have h9 := hSW.out W2 q HR2.out; rw [HN.out.1] at h9; exact h9)
        have HXY : Hid (J = o → X = Y) := hide (fun e => by rw [← hX, ← hY, e])
        clear hSW hX hY HR2
        by_cases hEq : J = o
        · subst hEq
          obtain rfl : X = Y := HXY.out rfl
          clear y2 f2
          go_wp2_with fail
          go_region
          all_goals go_wp2
          all_goals go_roundw
          all_goals first
            | exact ⟨t + 1, xorNext r, swp dk J J, by rw [HMI.out.1], by omega, hide ⟨by first | exact hSW2.out _ | exact (hSW2.out _).drewN _ | exact (hSW2.out 0) | exact (hSW2.out 1), hstep.out⟩⟩
            | (have hm := HMI.out.2; simp [intOf]; omega)
        · have hne : ¬ o = J := fun e => hEq e.symm
          go_wp2_with fail
          go_region
          all_goals go_wp2
          all_goals go_roundw
          all_goals first
            | exact ⟨t + 1, xorNext r, swp dk J o, by rw [HMI.out.1], by omega, hide ⟨by first | exact hSW2.out _ | exact (hSW2.out _).drewN _ | exact (hSW2.out 0) | exact (hSW2.out 1), hstep.out⟩⟩
            | (have hm := HMI.out.2; simp [intOf]; omega)
    · obtain rfl : t = 3 := by omega
      have k1 : ¬ ((I0 + 3 : Nat) : Int) ≤ (a : Int) + (Q : Int) * 2 + 1 := by omega
      have HR := hide hr.out
      clear hr
      go_wp2
      go_end0
      exact ⟨rfl, by rw [← HR.out.2]; exact HR.out.1.srt⟩
theorem break_calls (g cap n a L : Nat) (W0 : World) (ok : Int → Prop) (d : Array Int) (w : World) (hs : SrtB W0 g ok n d w) (hg : g < W0.heap.size) (hb : a + L ≤ n) (hn : n ≤ 256) :
    Calls Try.prog 60 #[.slice (some ⟨g, 0, none⟩) n cap, .int .i64 a, .int .i64 ((a + L : Nat) : Int)] w fun e w' => e = .returned (.tuple #[]) ∧ SrtB W0 g ok n (breakPatterns d a (a + L)) w' := by
  by_cases h8 : 8 ≤ L
  · exact break_go g cap n a L W0 ok d w hs hg h8 hb hn
  · have hv : breakPatterns d a (a + L) = d := by unfold breakPatterns; simp only [Nat.add_sub_cancel_left]; rw [if_neg h8]
    rw [hv]
    have HS := hide hs
    have eL : ((a : Int) + (L : Int) - (a : Int)) = (L : Int) := by omega
    have t8 : ¬ (8 : Int) ≤ (L : Int) := by omega
    clear hs hv
    go_enter Try.func60, Try.ntmps60
    go_wp2
    go_end0
    exact ⟨rfl, HS.out⟩
end Go.Proofs.Ytmbniakobhaomaa

namespace Go.Proofs.Ytmbniakobhaomaa
open Go.ChangeShapes Go.WideShapes Go.ChangeAt Go.RowKit
open Go.Sort (swp order2 median medianAdjacent choosePivot Hint)
set_option linter.unusedVariables false

def hintN : Hint → Int
  | .unknown => 0
  | .increasing => 1
  | .decreasing => 2
def hintOf (s : Nat) : Hint := if s = 0 then .increasing else if s = 12 then .decreasing else .unknown
theorem CntW.start {W0 wr : World} {g n : Nat} {ok : Int → Prop} {d : Array Int} (h : SrtB W0 g ok n d wr) (hg : g < W0.heap.size) (t : TypeId) : CntW W0 g ok n d wr.heap.size 0 (wr.alloc (.cells #[.int .i64 0] t)) := by
  have hsz := h.chg.size
  have hu : Up wr (wr.alloc (.cells #[.int .i64 0] t)) := (Up.refl _).alloc _
  refine ⟨⟨h.size, h.ok, h.chg.alloc _, fun i hi => hu.cell (h.cell i hi), fun i hi => ?_⟩, by simp, by simp, hsz, by omega⟩
  rw [hu.frozen (p := ⟨g, i, none⟩) (by show g < _; omega)]
  exact h.froz i hi

set_option maxRecDepth 20000 in
set_option maxHeartbeats 16000000 in
theorem choose_calls (g cap n a L : Nat) (W0 : World) (ok : Int → Prop) (d : Array Int) (w : World) (hs : SrtB W0 g ok n d w) (hg : g < W0.heap.size) (hL : 12 < L) (hb : a + L ≤ n) (hn : n ≤ 100000) :
    Calls Try.prog 61 #[.slice (some ⟨g, 0, none⟩) n cap, .int .i64 a, .int .i64 ((a + L : Nat) : Int)] w fun e w' => e = .returned (.tuple #[.int .i64 (choosePivot ltB d a (a + L)).1, .int .i64 (hintN (choosePivot ltB d a (a + L)).2)]) ∧ SrtB W0 g ok n d w' := by
  --P0
  have HS := hide hs
  clear hs
  have hc1 : choosePivot ltB d a (a + L) = if L ≥ 50 then ((median ltB d (medianAdjacent ltB d (a + L / 4) 0).1 (medianAdjacent ltB d (a + L / 4 * 2) (medianAdjacent ltB d (a + L / 4) 0).2).1 (medianAdjacent ltB d (a + L / 4 * 3) (medianAdjacent ltB d (a + L / 4 * 2) (medianAdjacent ltB d (a + L / 4) 0).2).2).1 (medianAdjacent ltB d (a + L / 4 * 3) (medianAdjacent ltB d (a + L / 4 * 2) (medianAdjacent ltB d (a + L / 4) 0).2).2).2).1, hintOf (median ltB d (medianAdjacent ltB d (a + L / 4) 0).1 (medianAdjacent ltB d (a + L / 4 * 2) (medianAdjacent ltB d (a + L / 4) 0).2).1 (medianAdjacent ltB d (a + L / 4 * 3) (medianAdjacent ltB d (a + L / 4 * 2) (medianAdjacent ltB d (a + L / 4) 0).2).2).1 (medianAdjacent ltB d (a + L / 4 * 3) (medianAdjacent ltB d (a + L / 4 * 2) (medianAdjacent ltB d (a + L / 4) 0).2).2).2).2)
      else ((median ltB d (a + L / 4) (a + L / 4 * 2) (a + L / 4 * 3) 0).1, hintOf (median ltB d (a + L / 4) (a + L / 4 * 2) (a + L / 4 * 3) 0).2) := by
    unfold choosePivot hintOf
    simp only [Nat.add_sub_cancel_left, Nat.mul_one]
    rw [if_pos (by omega)]
    by_cases h : L ≥ 50
    · simp only [if_pos h]
    · simp only [if_neg h]
  --P1
  rw [hc1]
  clear hc1
  obtain ⟨Q, hQ⟩ : ∃ Q, Q = L / 4 := ⟨_, rfl⟩
  rw [← hQ]
  have hQ1 : 4 * Q ≤ L := by omega
  have hQ2 : 3 ≤ Q := by omega
  have hQz2 : (L : Int) / 4 = Q := by omega
  have hQz : (L : Int).tdiv 4 = Q := by rw [Int.tdiv_eq_ediv_of_nonneg (by omega)]; omega
  obtain ⟨b, hbL⟩ : ∃ b, b = a + L := ⟨_, rfl⟩
  rw [← hbL]
  have eL : ((b : Int) - (a : Int)) = L := by omega
  clear hQ
  have fin : ∀ (m s : Nat) (w9 : World), CntW W0 g ok n d w.heap.size s w9 → True := fun _ _ _ _ => trivial
  clear fin
  have st := hide (CntW.start HS.out hg 3)
  --P2
  by_cases h50 : L ≥ 50
  · rw [if_pos h50]
    have t5 : decide ((L : Int) ≥ 50) = true := decide_eq_true (by omega)
    have t8 : decide ((L : Int) ≥ 8) = true := decide_eq_true (by omega)
    obtain ⟨q1, hq1⟩ : ∃ q1, q1 + 1 = a + Q := ⟨a + Q - 1, by omega⟩
    obtain ⟨q2, hq2⟩ : ∃ q2, q2 + 1 = a + Q * 2 := ⟨a + Q * 2 - 1, by omega⟩
    obtain ⟨q3, hq3⟩ : ∃ q3, q3 + 1 = a + Q * 3 := ⟨a + Q * 3 - 1, by omega⟩
    have c1 := hide (medianAdj_calls g cap n q1 w.heap.size 0 W0 ok d _ st.out (by omega) hn (by omega))
    rw [hq1] at c1
    generalize medianAdjacent ltB d (a + Q) 0 = m1 at *
    obtain ⟨m1, s1⟩ := m1
    have c2 : Hid (∀ w', s1 ≤ 990 → CntW W0 g ok n d w.heap.size s1 w' → _) := fun w' h9 h => medianAdj_calls g cap n q2 w.heap.size s1 W0 ok d w' h (by omega) hn h9
    rw [hq2] at c2
    simp only at c1 c2 ⊢
    generalize medianAdjacent ltB d (a + Q * 2) s1 = m2 at *
    obtain ⟨m2, s2⟩ := m2
    have c3 : Hid (∀ w', s2 ≤ 990 → CntW W0 g ok n d w.heap.size s2 w' → _) := fun w' h9 h => medianAdj_calls g cap n q3 w.heap.size s2 W0 ok d w' h (by omega) hn h9
    rw [hq3] at c3
    simp only at c2 c3 ⊢
    generalize medianAdjacent ltB d (a + Q * 3) s2 = m3 at *
    obtain ⟨m3, s3⟩ := m3
    have c4 : Hid (∀ w', m1 < n → m2 < n → m3 < n → s3 ≤ 990 → CntW W0 g ok n d w.heap.size s3 w' → _) := fun w' h6 h7 h8 h9 h => median_calls g cap n m1 m2 m3 w.heap.size s3 W0 ok d w' h h6 h7 h8 hn h9
    simp only at c3 c4 ⊢
    generalize median ltB d m1 m2 m3 s3 = m4 at *
    obtain ⟨m4, s4⟩ := m4
    simp only at c4 ⊢
    rw [show ((a + Q : Nat) : Int) = (a : Int) + Q by omega] at c1
    rw [show ((a + Q * 2 : Nat) : Int) = (a : Int) + Q * 2 by omega] at c2
    rw [show ((a + Q * 3 : Nat) : Int) = (a : Int) + Q * 3 by omega] at c3
    clear HS st hbL hq1 hq2 hq3
    --Q1
    go_enter Try.func61, Try.ntmps61
    go_wp2_with fail
    go_at_call 73
    refine c1.out.mono ?_
    rintro _ w1 ⟨rfl, h1, b1, d1⟩
    have H1 := hide h1
    clear h1 c1
    go_wp2_with fail
    go_at_call 73
    refine (c2.out w1 (by omega) H1.out).mono ?_
    rintro _ w2 ⟨rfl, h2, b2, d2⟩
    have H2 := hide h2
    clear h2 c2 H1
    go_wp2_with fail
    go_at_call 73
    refine (c3.out w2 (by omega) H2.out).mono ?_
    rintro _ w3 ⟨rfl, h3, b3, d3⟩
    have H3 := hide h3
    clear h3 c3 H2
    go_wp2_with fail
    go_at_call 74
    refine (c4.out w3 b1 b2 b3 (by omega) H3.out).mono ?_
    rintro _ w4 ⟨rfl, h4, b4, d4⟩
    have cc := h4.cnt
    have H1 := hide h4
    clear h4 c4 H3
    --Q2
    by_cases s0 : s4 = 0
    · subst s0
      go_wp2
      go_ret2
      exact ⟨rfl, H1.out.srt⟩
    · by_cases s42 : s4 = 12
      · subst s42
        go_wp2
        go_ret2
        exact ⟨rfl, H1.out.srt⟩
      · have hh : Hid (hintN (hintOf s4) = 0) := by
          show _ = _
          unfold hintOf
          rw [if_neg s0, if_neg s42]
          rfl
        have u1 : ((s4 : Int) == 0) = false := by simp; omega
        have u2 : ((s4 : Int) == 12) = false := by simp; omega
        go_wp2
        go_ret2
        exact ⟨by show Ending.returned (.tuple #[.int .i64 m4, .int .i64 0]) = _; rw [hh.out], H1.out.srt⟩
  · rw [if_neg h50]
    have t5 : decide ((L : Int) ≥ 50) = false := decide_eq_false (by omega)
    have t8 : decide ((L : Int) ≥ 8) = true := decide_eq_true (by omega)
    have c1 := hide (median_calls g cap n (a + Q) (a + Q * 2) (a + Q * 3) w.heap.size 0 W0 ok d _ st.out (by omega) (by omega) (by omega) hn (by omega))
    generalize median ltB d (a + Q) (a + Q * 2) (a + Q * 3) 0 = m1 at *
    obtain ⟨m1, s1⟩ := m1
    simp only at c1 ⊢
    rw [show ((a + Q : Nat) : Int) = (a : Int) + Q by omega, show ((a + Q * 2 : Nat) : Int) = (a : Int) + Q * 2 by omega, show ((a + Q * 3 : Nat) : Int) = (a : Int) + Q * 3 by omega] at c1
    --P3
    clear HS st hbL
    go_enter Try.func61, Try.ntmps61
    go_wp2_with fail
    go_at_call 74
    --P4
    refine c1.out.mono ?_
    rintro _ w1 ⟨rfl, h1, h2, h3⟩
    have cc := h1.cnt
    have H1 := hide h1
    clear h1 c1
    --P5
    by_cases s0 : s1 = 0
    · subst s0
      go_wp2
      go_ret2
      exact ⟨rfl, H1.out.srt⟩
    · by_cases s12 : s1 = 12
      · subst s12
        go_wp2
        go_ret2
        exact ⟨rfl, H1.out.srt⟩
      · have hh : Hid (hintN (hintOf s1) = 0) := by
          show _ = _
          unfold hintOf
          rw [if_neg s0, if_neg s12]
          rfl
        have u1 : ((s1 : Int) == 0) = false := by simp; omega
        have u2 : ((s1 : Int) == 12) = false := by simp; omega
        go_wp2
        go_ret2
        exact ⟨by show Ending.returned (.tuple #[.int .i64 m1, .int .i64 0]) = _; rw [hh.out], H1.out.srt⟩

end Go.Proofs.Ytmbniakobhaomaa

namespace Go.Proofs.Ytmbniakobhaomaa
open Go.ChangeShapes Go.WideShapes Go.ChangeAt Go.RowKit Go.Sort
set_option linter.unusedVariables false

theorem shD_go {lt : Int → Int → Bool} (j : Nat) (d : Array Int) (hl : lt d[j + 1]! d[j]! = true) : shiftDown lt (j + 1) d = shiftDown lt j (swp d (j + 1) j) := by
  rw [shiftDown, if_neg (by simp [hl])]
theorem shD_stop {lt : Int → Int → Bool} (j : Nat) (d : Array Int) (hl : lt d[j + 1]! d[j]! = false) : shiftDown lt (j + 1) d = d := by
  rw [shiftDown, if_pos (by simp [hl])]
set_option maxRecDepth 20000 in
set_option maxHeartbeats 16000000 in
theorem partialIns_calls (g cap n a b : Nat) (W0 : World) (ok : Int → Prop) (d : Array Int) (w : World) (hs : SrtB W0 g ok n d w) (hab : a < b) (hb : b ≤ n) (hn : n ≤ 100000) :
    Calls Try.prog 63 #[.slice (some ⟨g, 0, none⟩) n cap, .int .i64 a, .int .i64 b] w fun e w' => e = .returned (.bool (partialInsertionSort ltB d a b).2) ∧ SrtB W0 g ok n (partialInsertionSort ltB d a b).1 w' := by
  have HS := hide hs
  clear hs
  obtain ⟨R, hR⟩ : ∃ R, R = partialInsertionSort ltB d a b := ⟨_, rfl⟩
  rw [← hR]
  have HR0 : Hid (partialIns ltB a b 5 (a + 1) d = R) := hR.symm
  clear hR
  go_enter Try.func63, Try.ntmps63
  go_wp2_with fail
  go_loopw [7, 8] (fun u v wr => ∃ (i t s : Nat) (dk : Array Int), u = .int .i64 i ∧ v = .int .i64 t ∧ t + s = 5 ∧ a < i ∧ i ≤ b ∧ SrtB W0 g ok n dk wr ∧ Hid (partialIns ltB a b s i dk = R)) (fun _ v _ => 6 - (intOf v).toNat)
  case atStart => exact ⟨a + 1, 0, 5, d, by go_num, rfl, rfl, by omega, by omega, HS.out, HR0⟩
  case round =>
    obtain ⟨i, t, s, dk, rfl, rfl, hts, hai, hib, hsk, HO⟩ := hrel
    have HK := hide hsk
    clear hsk
    by_cases ht : t < 5
    · obtain ⟨s, rfl⟩ : ∃ q, s = q + 1 := ⟨s - 1, by omega⟩
      have t1 : decide ((t : Int) < 5) = true := decide_eq_true (by omega)
      go_wp2_with fail
      go_loopw [7] (fun u wr => ∃ j : Nat, u = .int .i64 j ∧ a < j ∧ j ≤ b ∧ SrtB W0 g ok n dk wr ∧ Hid (scanSorted ltB dk b j = scanSorted ltB dk b i)) (fun u _ => b + 1 - (intOf u).toNat)
      case atStart => exact ⟨i, rfl, hai, hib, HK.out, rfl⟩
      case round =>
        obtain ⟨j, rfl, haj, hjb, hsj, HI⟩ := hrel
        have HJ := hide hsj
        clear hsj
        have hsc := scanSorted.eq_1 ltB dk b j
        have hpi : Hid (partialIns ltB a b (s + 1) i dk = R) := HO
        by_cases hlt : j < b
        · obtain ⟨j, rfl⟩ : ∃ q, j = q + 1 := ⟨j - 1, by omega⟩
          have t2 : decide (((j : Nat) : Int) + 1 < (b : Int)) = true := decide_eq_true (by omega)
          have y1 := HJ.out.cell (j + 1) (by omega)
          have y0 := HJ.out.cell j (by omega)
          have f1 := HJ.out.froz (j + 1) (by omega)
          have f0 := HJ.out.froz j (by omega)
          have hcm : Hid (∀ q, Calls Try.prog 64 #[.int .u8 dk[j + 1]!, .int .u8 dk[j]!] (wr.drewN q) fun e w' => e = .returned (.bool (ltB dk[j + 1]! dk[j]!)) ∧ ∃ m, w' = (wr.drewN q).drewN m) := fun q => lessB_calls _ _ _
          have jz : (j : Int) + 1 < n := by omega
          have jz0 : (j : Int) < n := by omega
          rw [Nat.add_sub_cancel] at hsc
          cases hl : ltB dk[j + 1]! dk[j]! with
          | false =>
            rw [hl] at hcm
            rw [if_pos (by simp [hlt, hl])] at hsc
            have HGO : Hid (scanSorted ltB dk b (j + 1 + 1) = scanSorted ltB dk b i) := by show _ = _; rw [← hsc]; exact HI.out
            clear hsc hl
            generalize dk[j + 1]! = X at y1 hcm
            generalize dk[j]! = Y at y0 hcm
            go_wp2_with fail
            go_quiet ((go_at_call 64; exact Calls.quiet_of (hcm.out _)))
            go_wp2
            go_roundw
            case rel => exact ⟨j + 1 + 1, by go_num, by omega, by omega, HJ.out.drewN _, HGO.out⟩
            case measure => simp [intOf]; omega
          | true =>
            rw [hl] at hcm
            rw [if_neg (by simp [hl])] at hsc
            have hj1 : ¬ (j + 1 = b) := by omega
            have t3 : ¬ ((j : Int) + 1 = (b : Int)) := by omega
            have HSW := hide (HJ.out)
            obtain ⟨dS, hdS⟩ : ∃ dS, dS = swp dk (j + 1) j := ⟨_, rfl⟩
            have hswp : Hid (∀ q, SrtB W0 g ok n dS (((wr.drewN q).setCell ⟨g, j + 1, none⟩ (.int .u8 dk[j]!)).setCell ⟨g, j, none⟩ (.int .u8 dk[j + 1]!))) := fun q => by rw [hdS]; exact (HJ.out.drewN q).swap (by omega) (by omega)
            obtain ⟨dA, hdA⟩ : ∃ dA, dA = if j + 1 - a ≥ 2 then shiftDown ltB j dS else dS := ⟨_, rfl⟩
            obtain ⟨dB, hdB⟩ : ∃ dB, dB = if b - (j + 1) ≥ 2 then shiftUp ltB b (j + 1 + 1) dA else dA := ⟨_, rfl⟩
            have HP : Hid (R = if b - a < 50 then (dk, false) else partialIns ltB a b s (j + 1) dB) := by
              show _ = _
              rw [← hpi.out, partialIns]
              simp only [← HI.out, hsc, if_neg hj1, Nat.add_sub_cancel, ← hdS, ← hdA, ← hdB]
            have HDA := hide hdA
            have HDB := hide hdB
            clear hsc hl hdS hdA hdB hj1
            generalize dk[j + 1]! = X at y1 hcm hswp
            generalize dk[j]! = Y at y0 hcm hswp
            by_cases h50 : b - a < 50
            · have t4 : decide ((b : Int) - (a : Int) < 50) = true := decide_eq_true (by omega)
              have t5 : (b : Int) - (a : Int) < 50 := by omega
              have HOUT : Hid (R = (dk, false)) := by have := HP.out; rw [if_pos h50] at this; exact this
              clear hswp
              go_wp2_with fail
              go_quiet ((go_at_call 64; exact Calls.quiet_of (hcm.out _)))
              go_wp2
              --W3
              go_ret
              exact ⟨by rw [HOUT.out]; rfl, by rw [HOUT.out]; exact HJ.out.drewN _⟩
            · have t4 : decide ((b : Int) - (a : Int) < 50) = false := decide_eq_false (by omega)
              have t5 : ¬ (b : Int) - (a : Int) < 50 := by omega
              have HOUT : Hid (partialIns ltB a b s (j + 1) dB = R) := by have := HP.out; rw [if_neg h50] at this; exact this.symm
              clear HP
              go_wp2_with fail
              go_quiet ((go_at_call 64; exact Calls.quiet_of (hcm.out _)))
              go_upto_region 11 with fail
              go_cut [9] from 13 to 132 (fun u wx => SrtB W0 g ok n dS wx)
              case first =>
                go_region
                all_goals
                  go_wp2_with fail
                  go_meet
                  first | exact hswp.out _ | exact (hswp.out _).drewN _ | exact (hswp.out _).drew
              case rest =>
                have HC := hide hcut
                clear hcut hcm hswp HJ HSW y0 y1 f0 f1
                go_upto_if 61 with fail
                go_cut [9] from 13 to 132 (fun u wx => SrtB W0 g ok n dA wx)
                case first =>
                  by_cases hd : j + 1 - a ≥ 2
                  · have t6 : decide ((j : Int) + 1 - (a : Int) ≥ 2) = true := decide_eq_true (by omega)
                    have t7 : (j : Int) + 1 - (a : Int) ≥ 2 := by omega
                    have HDA2 : Hid (shiftDown ltB j dS = dA) := by have := HDA.out; rw [if_pos hd] at this; exact this.symm
                    go_wp2_with fail
                    go_loopw [9] (fun u wr => ∃ (k : Nat) (dj : Array Int), u = .int .i64 k ∧ k < n ∧ SrtB W0 g ok n dj wr ∧ Hid (shiftDown ltB k dj = dA)) (fun u _ => (intOf u).toNat)
                    case atStart => exact ⟨j, dS, by go_num, by omega, HC.out, HDA2⟩
                    case round =>
                      obtain ⟨k, dj, rfl, hkn, hsj, HI2⟩ := hrel
                      have HJ := hide hsj
                      clear hsj
                      by_cases hk : 1 ≤ k
                      · obtain ⟨k, rfl⟩ : ∃ q, k = q + 1 := ⟨k - 1, by omega⟩
                        have t8 : decide (((k : Nat) : Int) + 1 ≥ 1) = true := decide_eq_true (by omega)
                        have y1 := HJ.out.cell (k + 1) (by omega)
                        have y0 := HJ.out.cell k (by omega)
                        have f1 := HJ.out.froz (k + 1) (by omega)
                        have f0 := HJ.out.froz k (by omega)
                        have hcm : Hid (∀ q, Calls Try.prog 64 #[.int .u8 dj[k + 1]!, .int .u8 dj[k]!] (wr.drewN q) fun e w' => e = .returned (.bool (ltB dj[k + 1]! dj[k]!)) ∧ ∃ m, w' = (wr.drewN q).drewN m) := fun q => lessB_calls _ _ _
                        have hswp : Hid (∀ q, SrtB W0 g ok n (swp dj (k + 1) k) (((wr.drewN q).setCell ⟨g, k + 1, none⟩ (.int .u8 dj[k]!)).setCell ⟨g, k, none⟩ (.int .u8 dj[k + 1]!))) := fun q => (HJ.out.drewN q).swap (by omega) (by omega)
                        have hgo := shD_go (lt := ltB) k dj
                        have hst := shD_stop (lt := ltB) k dj
                        generalize hX : dj[k + 1]! = X at y1 hcm hswp hgo hst
                        generalize hY : dj[k]! = Y at y0 hcm hswp hgo hst
                        have kz : (k : Int) + 1 < n := by omega
                        have kz0 : (k : Int) < n := by omega
                        cases hl : ltB X Y with
                        | true =>
                          rw [hl] at hcm
                          have HGO : Hid (shiftDown ltB k (swp dj (k + 1) k) = dA) := by show _ = _; rw [← hgo hl]; exact HI2.out
                          clear hgo hst hX hY
                          go_wp2_with fail
                          go_quiet ((go_at_call 64; exact Calls.quiet_of (hcm.out _)))
                          go_wp2_with fail
                          go_region
                          all_goals
                            go_wp2
                            go_roundw
                            case rel => exact ⟨k, swp dj (k + 1) k, by go_num, by omega, (by first | exact hswp.out _ | exact (hswp.out _).drewN _ | exact (hswp.out _).drew), HGO.out⟩
                            case measure => simp [intOf]
                        | false =>
                          rw [hl] at hcm
                          have HST : Hid (dj = dA) := by show _ = _; rw [← hst hl]; exact HI2.out
                          clear hgo hst hX hY
                          go_wp2_with fail
                          go_quiet ((go_at_call 64; exact Calls.quiet_of (hcm.out _)))
                          go_wp2_with fail
                          go_meet
                          rw [← HST.out]
                          exact HJ.out.drewN _
                      · obtain rfl : k = 0 := by omega
                        have HST : Hid (dj = dA) := HI2
                        go_wp2_with fail
                        go_meet
                        rw [← HST.out]
                        exact HJ.out
                  · have t6 : decide ((j : Int) + 1 - (a : Int) ≥ 2) = false := decide_eq_false (by omega)
                    have t7 : ¬ (j : Int) + 1 - (a : Int) ≥ 2 := by omega
                    have HDA2 : Hid (dA = dS) := by have := HDA.out; rw [if_neg hd] at this; exact this
                    go_wp2_with fail
                    go_meet
                    rw [HDA2.out]
                    exact HC.out
                case rest =>
                  have HC2 := hide hcut
                  clear hcut HC
                  · by_cases hd : b - (j + 1) ≥ 2
                    · have t6 : decide ((b : Int) - ((j : Int) + 1) ≥ 2) = true := decide_eq_true (by omega)
                      have t7 : (b : Int) - ((j : Int) + 1) ≥ 2 := by omega
                      have HDB2 : Hid (shiftUp ltB b (j + 1 + 1) dA = dB) := by have := HDB.out; rw [if_pos hd] at this; exact this.symm
                      go_wp2_with fail
                      go_loopw [10] (fun u wr => ∃ (k : Nat) (dj : Array Int), u = .int .i64 k ∧ 1 ≤ k ∧ k ≤ b ∧ SrtB W0 g ok n dj wr ∧ Hid (shiftUp ltB b k dj = dB)) (fun u _ => b + 1 - (intOf u).toNat)
                      case atStart => exact ⟨j + 1 + 1, dA, by go_num, by omega, by omega, HC2.out, HDB2⟩
                      case round =>
                        obtain ⟨k, dj, rfl, hk1, hkb, hsj, HI2⟩ := hrel
                        have HJ := hide hsj
                        clear hsj
                        have hsu := shiftUp.eq_1 ltB b k dj
                        by_cases hk : k < b
                        · obtain ⟨k, rfl⟩ : ∃ q, k = q + 1 := ⟨k - 1, by omega⟩
                          have t8 : decide (((k : Nat) : Int) + 1 < (b : Int)) = true := decide_eq_true (by omega)
                          have y1 := HJ.out.cell (k + 1) (by omega)
                          have y0 := HJ.out.cell k (by omega)
                          have f1 := HJ.out.froz (k + 1) (by omega)
                          have f0 := HJ.out.froz k (by omega)
                          have hcm : Hid (∀ q, Calls Try.prog 64 #[.int .u8 dj[k + 1]!, .int .u8 dj[k]!] (wr.drewN q) fun e w' => e = .returned (.bool (ltB dj[k + 1]! dj[k]!)) ∧ ∃ m, w' = (wr.drewN q).drewN m) := fun q => lessB_calls _ _ _
                          have hswp : Hid (∀ q, SrtB W0 g ok n (swp dj (k + 1) k) (((wr.drewN q).setCell ⟨g, k + 1, none⟩ (.int .u8 dj[k]!)).setCell ⟨g, k, none⟩ (.int .u8 dj[k + 1]!))) := fun q => (HJ.out.drewN q).swap (by omega) (by omega)
                          rw [if_pos hk, Nat.add_sub_cancel] at hsu
                          generalize hX : dj[k + 1]! = X at y1 hcm hswp hsu
                          generalize hY : dj[k]! = Y at y0 hcm hswp hsu
                          have kz : (k : Int) + 1 < n := by omega
                          have kz0 : (k : Int) < n := by omega
                          cases hl : ltB X Y with
                          | true =>
                            rw [hl] at hcm
                            rw [hl] at hsu
                            have HGO : Hid (shiftUp ltB b (k + 1 + 1) (swp dj (k + 1) k) = dB) := by
                              show _ = _
                              rw [← HI2.out, hsu]
                              rfl
                            clear hsu hX hY
                            go_wp2_with fail
                            go_quiet ((go_at_call 64; exact Calls.quiet_of (hcm.out _)))
                            go_wp2_with fail
                            go_region
                            all_goals
                              go_wp2
                              go_roundw
                              case rel => exact ⟨k + 1 + 1, swp dj (k + 1) k, by go_num, by omega, by omega, (by first | exact hswp.out _ | exact (hswp.out _).drewN _ | exact (hswp.out _).drew), HGO.out⟩
                              case measure => simp [intOf]; omega
                          | false =>
                            rw [hl] at hcm
                            rw [hl] at hsu
                            have HST : Hid (dj = dB) := by
                              show _ = _
                              rw [← HI2.out, hsu]
                              rfl
                            clear hsu hX hY
                            go_wp2_with fail
                            go_quiet ((go_at_call 64; exact Calls.quiet_of (hcm.out _)))
                            go_wp2
                            go_roundw
                            case rel => first | exact ⟨j + 1, t + 1, s, dB, by go_num, by go_num, by omega, by omega, by omega, (by rw [← HST.out]; exact HJ.out.drewN _), HOUT⟩ | ((repeat apply Exists.intro); exact ⟨⟨j + 1, t + 1, s, dB, by go_num, by go_num, by omega, by omega, by omega, (by rw [← HST.out]; exact HJ.out.drewN _), HOUT⟩, rfl⟩)
                            case measure => simp [intOf]; omega
                        · have t8 : decide ((k : Int) < (b : Int)) = false := decide_eq_false (by omega)
                          rw [if_neg hk] at hsu
                          have HST : Hid (dj = dB) := by show _ = _; rw [← HI2.out, hsu]
                          clear hsu
                          go_wp2
                          go_roundw
                          case rel => first | exact ⟨j + 1, t + 1, s, dB, by go_num, by go_num, by omega, by omega, by omega, (by rw [← HST.out]; exact HJ.out), HOUT⟩ | ((repeat apply Exists.intro); exact ⟨⟨j + 1, t + 1, s, dB, by go_num, by go_num, by omega, by omega, by omega, (by rw [← HST.out]; exact HJ.out), HOUT⟩, rfl⟩)
                          case measure => simp [intOf]; omega
                    · have t6 : decide ((b : Int) - ((j : Int) + 1) ≥ 2) = false := decide_eq_false (by omega)
                      have t7 : ¬ (b : Int) - ((j : Int) + 1) ≥ 2 := by omega
                      have HDB2 : Hid (dB = dA) := by have := HDB.out; rw [if_neg hd] at this; exact this
                      go_wp2
                      go_roundw
                      case rel => first | exact ⟨j + 1, t + 1, s, dB, by go_num, by go_num, by omega, by omega, by omega, (by rw [HDB2.out]; exact HC2.out), HOUT⟩ | ((repeat apply Exists.intro); exact ⟨⟨j + 1, t + 1, s, dB, by go_num, by go_num, by omega, by omega, by omega, (by rw [HDB2.out]; exact HC2.out), HOUT⟩, rfl⟩)
                      case measure => simp [intOf]; omega
        · have t2 : decide ((j : Int) < (b : Int)) = false := decide_eq_false (by omega)
          obtain rfl : j = b := by omega
          rw [if_neg (by simp)] at hsc
          have HOUT : Hid (R = (dk, true)) := by
            show _ = _
            rw [← hpi.out, partialIns]
            simp only [← HI.out, hsc, if_true]
          clear hsc
          go_wp2_with fail
          go_quiet (fail)
          go_wp2
          --W1
          go_ret
          exact ⟨by rw [HOUT.out]; rfl, by rw [HOUT.out]; exact HJ.out.drewN _⟩
    · have t1 : decide ((t : Int) < 5) = false := decide_eq_false (by omega)
      obtain rfl : s = 0 := by omega
      have HOUT : Hid (R = (dk, false)) := HO.out.symm
      go_wp2
      go_ret
      exact ⟨by rw [HOUT.out]; rfl, by rw [HOUT.out]; exact HK.out⟩
end Go.Proofs.Ytmbniakobhaomaa

namespace Go.Proofs.Ytmbniakobhaomaa
open Go.ChangeShapes Go.WideShapes Go.ChangeAt Go.RowKit
open Go.Sort (swp scanUp scanDown partEqLoop partitionEqual)
set_option linter.unusedVariables false

set_option maxRecDepth 20000 in
set_option maxHeartbeats 16000000 in
theorem partEq_calls (g cap n a J pv : Nat) (W0 : World) (ok : Int → Prop) (d : Array Int) (w : World) (hs : SrtB W0 g ok n d w) (haJ : a < J) (hJ : J < n) (hpa : a ≤ pv) (hpJ : pv ≤ J) (hn : n ≤ 100000) :
    Calls Try.prog 65 #[.slice (some ⟨g, 0, none⟩) n cap, .int .i64 a, .int .i64 ((J + 1 : Nat) : Int), .int .i64 pv] w fun e w' => e = .returned (.int .i64 (partitionEqual ltB d a (J + 1) pv).1) ∧ SrtB W0 g ok n (partitionEqual ltB d a (J + 1) pv).2 w' := by
  have HS := hide hs
  clear hs
  obtain ⟨b, hbJ⟩ : ∃ b, b = J + 1 := ⟨_, rfl⟩
  have eJ : (b : Int) - 1 = (J : Int) := by omega
  obtain ⟨PR, hR⟩ : ∃ R, R = partitionEqual ltB d a (J + 1) pv := ⟨_, rfl⟩
  rw [← hR, ← hbJ]
  have HR := hide hR
  clear hR hbJ
  have z0 : (a : Int) < n := by omega
  have z2 : (pv : Int) < n := by omega
  have y0 := HS.out.cell a (by omega)
  have y1 := HS.out.cell pv (by omega)
  have f0 := HS.out.froz a (by omega)
  have f1 := HS.out.froz pv (by omega)
  have hswp := hide (HS.out.swap (i := a) (j := pv) (by omega) (by omega))
  generalize d[a]! = X at y0 hswp
  generalize d[pv]! = Y at y1 hswp
  obtain ⟨d1, hd1⟩ : ∃ d1, d1 = swp d a pv := ⟨_, rfl⟩
  rw [← hd1] at hswp
  obtain ⟨V, hV⟩ : ∃ V, V = d1[a]! := ⟨_, rfl⟩
  have HV := hide hV
  clear hV
  have HPR : Hid (PR = partEqLoop ltB a (a + 1) J d1) := by
    show _ = _
    rw [HR.out, hd1]
    rfl
  clear hd1 HS HR
  obtain ⟨u, hu⟩ : ∃ u, (w.setCell ⟨g, a, none⟩ (.int .u8 Y)).cell? ⟨g, pv, none⟩ = some u := by
    by_cases e : a = pv
    · subst e; exact ⟨_, World.cell?_setCell_same _ _ _ y0⟩
    · exact ⟨_, (World.cell?_setCell_other _ _ _ _ (by intro e'; simp only [Addr.mk.injEq] at e'; omega)).trans y1⟩
  go_enter Try.func65, Try.ntmps65
  go_wp2_with fail
  go_region
  --Q4
  have HK := hide hswp.out.drew
  generalize World.drew _ = W1 at HK ⊢
  clear hswp y0 y1 f0 f1 hu
  go_wp2_with fail
  --QA
  go_loopw [9, 10] (fun u v wr => ∃ (i j : Nat) (dk : Array Int), u = .int .i64 i ∧ v = .int .i64 j ∧ a + 1 ≤ i ∧ i ≤ n + 1 ∧ a ≤ j ∧ j ≤ J ∧ SrtB W0 g ok n dk wr ∧ Hid (V = dk[a]!) ∧ Hid (partEqLoop ltB a i j dk = PR)) (fun u v _ => (intOf v).toNat + 1 - (intOf u).toNat)
  case atStart => exact ⟨a + 1, J, d1, by go_num, by go_num, by omega, by omega, by omega, by omega, HK.out, HV.out, HPR.out.symm⟩
  case round =>
    obtain ⟨i0, j0, dk, rfl, rfl, p1, p2, p3, p4, hsk, HV2, HO⟩ := hrel
    clear HK HPR HV
    have HV := HV2
    clear HV2
    have HK := hide hsk
    clear hsk
    obtain ⟨I4, hI4⟩ : ∃ I4, I4 = scanUp (fun x => !ltB V x) dk j0 i0 := ⟨_, rfl⟩
    obtain ⟨J4, hJ4⟩ : ∃ J4, J4 = scanDown (fun x => ltB V x) dk I4 j0 := ⟨_, rfl⟩
    have HII4 := hide hI4
    have HJJ4 := hide hJ4
    have HPL : Hid (PR = if I4 > J4 then (I4, dk) else if _h : (J4 - 1) + 1 - (I4 + 1) < j0 + 1 - i0 then partEqLoop ltB a (I4 + 1) (J4 - 1) (swp dk I4 J4) else (I4, dk)) := by
      show _ = _
      rw [← HO.out, partEqLoop.eq_1, ← HV.out]
      subst hJ4
      subst hI4
      rfl
    clear hI4 hJ4
    --QB
    go_upto_block 2 with fail
    go_cut [9] from 29 to 82 (fun u wx => u = .int .i64 I4 ∧ SrtB W0 g ok n dk wx ∧ i0 ≤ I4 ∧ (I4 ≤ i0 ∨ I4 ≤ j0 + 1))
    case first =>
        go_wp2_with fail
        go_loopw [9] (fun u wr => ∃ i : Nat, u = .int .i64 i ∧ i0 ≤ i ∧ i ≤ n + 1 ∧ (i ≤ i0 ∨ i ≤ j0 + 1) ∧ SrtB W0 g ok n dk wr ∧ Hid (scanUp (fun x => !ltB V x) dk j0 i = I4)) (fun u _ => j0 + 1 - (intOf u).toNat)
        case atStart => exact ⟨i0, by go_num, Nat.le_refl _, by omega, .inl (Nat.le_refl _), HK.out, HII4.out.symm⟩
        case round =>
          obtain ⟨i, rfl, hib, hin, hij, hsk, HO⟩ := hrel
          clear HK
          have HK := hide hsk
          clear hsk
          have hsu := scanUp.eq_1 (fun x => !ltB V x) dk j0 i
          by_cases hle : i ≤ j0
          · have t1 : decide ((i : Int) ≤ (j0 : Int)) = true := decide_eq_true (by omega)
            have z1 : (i : Int) < n := by omega
            have y1 := HK.out.cell i (by omega)
            have y0 := HK.out.cell a (by omega)
            rw [← HV.out] at y0
            have hcm : Hid (∀ q, Calls Try.prog 64 #[.int .u8 V, .int .u8 dk[i]!] (wr.drewN q) fun e w' => e = .returned (.bool (ltB V dk[i]!)) ∧ ∃ m, w' = (wr.drewN q).drewN m) := fun q => lessB_calls _ _ _
            have hneg : True := trivial
            cases hl : ltB V dk[i]! with
            | false =>
              rw [hl] at hcm
              rw [if_pos (by simp [hle, hl])] at hsu
              have HGO : Hid (scanUp (fun x => !ltB V x) dk j0 (i + 1) = I4) := by show _ = _; rw [← hsu]; exact HO.out
              clear hsu hl
              generalize dk[i]! = X at y1 hcm hneg
              go_wp2_with fail
              go_quiet ((go_at_call 64; exact Calls.quiet_of (hcm.out _)))
              go_wp2
              go_roundw
              case rel => exact ⟨i + 1, by go_num, by omega, by omega, .inr (by omega), HK.out.drewN _, HGO.out⟩
              case measure => simp [intOf]; omega
            | true =>
              rw [hl] at hcm
              rw [if_neg (by simp [hl])] at hsu
              have hI2 : I4 = i := by rw [← HO.out, hsu]
              clear hsu hl HO
              generalize dk[i]! = X at y1 hcm hneg
              subst hI2
              go_wp2_with fail
              go_quiet ((go_at_call 64; exact Calls.quiet_of (hcm.out _)))
              obtain ⟨W2, hW2⟩ : ∃ W2, W2 = wr.drewN nq := ⟨_, rfl⟩
              replace HK := hide (HK.out.drewN nq)
              rw [← hW2] at HK ⊢
              clear hW2
              go_wp2_with fail
              go_meet
              exact ⟨rfl, HK.out, by omega, by omega⟩
          · have t1 : decide ((i : Int) ≤ (j0 : Int)) = false := decide_eq_false (by omega)
            rw [if_neg (by simp [hle])] at hsu
            have hI2 : I4 = i := by rw [← HO.out, hsu]
            clear hsu HO
            subst hI2
            go_wp2_with fail
            go_quiet (fail)
            obtain ⟨W2, hW2⟩ : ∃ W2, W2 = wr.drewN nq := ⟨_, rfl⟩
            replace HK := hide (HK.out.drewN nq)
            rw [← hW2] at HK ⊢
            clear hW2
            go_wp2_with fail
            go_meet
            exact ⟨rfl, HK.out, by omega, by omega⟩
    case rest =>
      obtain ⟨rfl, hsk, b5, b6⟩ := hcut
      clear HK
      have HK := hide hsk
      clear hsk
      --QC
      go_upto_block 4 with fail
      go_cut [10] from 29 to 82 (fun u wx => u = .int .i64 J4 ∧ SrtB W0 g ok n dk wx ∧ a ≤ J4 ∧ J4 ≤ j0)
      case first =>
          go_wp2_with fail
          go_loopw [10] (fun u wr => ∃ j : Nat, u = .int .i64 j ∧ a ≤ j ∧ j ≤ j0 ∧ SrtB W0 g ok n dk wr ∧ Hid (scanDown (fun x => ltB V x) dk I4 j = J4)) (fun u _ => (intOf u).toNat)
          case atStart => exact ⟨j0, by go_num, by omega, Nat.le_refl _, HK.out, HJJ4.out.symm⟩
          case round =>
            obtain ⟨j, rfl, haj, hjj, hsk, HO⟩ := hrel
            clear HK
            have HK := hide hsk
            clear hsk
            by_cases hle : I4 ≤ j
            · obtain ⟨j, rfl⟩ : ∃ q, j = q + 1 := ⟨j - 1, by omega⟩
              have t1 : decide ((I4 : Int) ≤ ((j + 1 : Nat) : Int)) = true := decide_eq_true (by omega)
              have t1b : decide ((I4 : Int) ≤ (j : Int) + 1) = true := decide_eq_true (by omega)
              have z1 : (j : Int) + 1 < n := by omega
              have z1b : (I4 : Int) ≤ (j : Int) + 1 := by omega
              have y1 := HK.out.cell (j + 1) (by omega)
              have y0 := HK.out.cell a (by omega)
              rw [← HV.out] at y0
              have hcm : Hid (∀ q, Calls Try.prog 64 #[.int .u8 V, .int .u8 dk[j + 1]!] (wr.drewN q) fun e w' => e = .returned (.bool (ltB V dk[j + 1]!)) ∧ ∃ m, w' = (wr.drewN q).drewN m) := fun q => lessB_calls _ _ _
              have hneg : True := trivial
              have hsd : scanDown (fun x => ltB V x) dk I4 (j + 1) = if I4 ≤ j + 1 && ltB V dk[j + 1]! then scanDown (fun x => ltB V x) dk I4 j else j + 1 := rfl
              cases hl : ltB V dk[j + 1]! with
              | true =>
                rw [hl] at hcm
                rw [if_pos (by simp [hle, hl])] at hsd
                have HGO : Hid (scanDown (fun x => ltB V x) dk I4 j = J4) := by show _ = _; rw [← hsd]; exact HO.out
                clear hsd hl
                generalize dk[j + 1]! = X at y1 hcm hneg
                go_wp2_with fail
                go_quiet ((go_at_call 64; exact Calls.quiet_of (hcm.out _)))
                go_wp2
                go_roundw
                case rel => exact ⟨j, by go_num, by omega, by omega, HK.out.drewN _, HGO.out⟩
                case measure => simp [intOf]
              | false =>
                rw [hl] at hcm
                rw [if_neg (by simp [hl])] at hsd
                have hJ2 : J4 = j + 1 := by rw [← HO.out, hsd]
                clear hsd hl HO
                generalize dk[j + 1]! = X at y1 hcm hneg
                go_wp2_with fail
                go_quiet ((go_at_call 64; exact Calls.quiet_of (hcm.out _)))
                obtain ⟨W2, hW2⟩ : ∃ W2, W2 = wr.drewN nq := ⟨_, rfl⟩
                replace HK := hide (HK.out.drewN nq)
                rw [← hW2] at HK ⊢
                clear hW2
                go_wp2_with fail
                go_meet
                exact ⟨by first | (rw [hJ2]; go_num) | rw [hJ2], HK.out, by omega, by omega⟩
            · have t1 : decide ((I4 : Int) ≤ (j : Int)) = false := decide_eq_false (by omega)
              have hJ2 : J4 = j := by
                rw [← HO.out]
                cases j with
                | zero => rfl
                | succ q => show (if I4 ≤ q + 1 && _ then _ else q + 1) = q + 1; rw [if_neg (by simp; intro h; omega)]
              clear HO
              subst hJ2
              go_wp2_with fail
              go_quiet (fail)
              obtain ⟨W2, hW2⟩ : ∃ W2, W2 = wr.drewN nq := ⟨_, rfl⟩
              replace HK := hide (HK.out.drewN nq)
              rw [← hW2] at HK ⊢
              clear hW2
              go_wp2_with fail
              go_meet
              exact ⟨rfl, HK.out, by omega, by omega⟩
      case rest =>
        obtain ⟨rfl, hsk, b7, b8⟩ := hcut
        clear HK
        have HK := hide hsk
        clear hsk
        --QD
        by_cases hgt2 : I4 > J4
        · have t2 : decide ((I4 : Int) > (J4 : Int)) = true := decide_eq_true (by omega)
          have hres := HPL.out
          rw [if_pos hgt2] at hres
          subst hres
          go_wp2
          go_ret
          exact ⟨rfl, HK.out⟩
        · have t2 : decide ((I4 : Int) > (J4 : Int)) = false := decide_eq_false (by omega)
          have hres := HPL.out
          rw [if_neg hgt2, dif_pos (by omega)] at hres
          obtain ⟨J5, hJ5⟩ : ∃ q, J4 = q + 1 := ⟨J4 - 1, by omega⟩
          have hV3 : Hid (V = (swp dk I4 J4)[a]!) := by
            show _ = _
            have := HK.out.size
            rw [swp_at dk (by omega) (by omega) (by omega), if_neg (by omega), if_neg (by omega)]
            exact HV.out
          have HGO : Hid (partEqLoop ltB a (I4 + 1) J5 (swp dk I4 J4) = PR) := by
            show _ = _
            rw [hres, hJ5, Nat.add_sub_cancel]
          have y0 := HK.out.cell I4 (by omega)
          have y1 := HK.out.cell J4 (by omega)
          have f0 := HK.out.froz I4 (by omega)
          have f1 := HK.out.froz J4 (by omega)
          have hswp := hide (HK.out.swap (i := I4) (j := J4) (by omega) (by omega))
          have z5 : (I4 : Int) < n := by omega
          have z6 : (J4 : Int) < n := by omega
          generalize dk[I4]! = X at y0 hswp
          generalize dk[J4]! = Y at y1 hswp
          obtain ⟨u, hu⟩ : ∃ u, (wc.setCell ⟨g, I4, none⟩ (.int .u8 Y)).cell? ⟨g, J4, none⟩ = some u := by
            by_cases e : I4 = J4
            · rw [← e]; exact ⟨_, World.cell?_setCell_same _ _ _ y0⟩
            · exact ⟨_, (World.cell?_setCell_other _ _ _ _ (by intro e'; simp only [Addr.mk.injEq] at e'; exact e e'.2.1)).trans y1⟩
          have HJ5 := hide hJ5
          have e9 : (J4 : Int) - 1 = (J5 : Int) := by omega
          have m1 : J5 + 1 - (I4 + 1) < j0 + 1 - i0 := by omega
          clear HPL hres hJ5
          --QE
          go_wp2_with fail
          go_region
          all_goals
            go_wp2
            --QF
            go_roundw
            case rel => exact ⟨I4 + 1, J5, swp dk I4 J4, by go_num, by go_num, by omega, by omega, by have := HJ5.out; omega, by have := HJ5.out; omega, (by first | exact hswp.out | exact hswp.out.drew | exact hswp.out.drewN _), hV3.out, HGO.out⟩
            case measure => simp [intOf]; omega

end Go.Proofs.Ytmbniakobhaomaa

namespace Go.Proofs.Ytmbniakobhaomaa
open Go.ChangeShapes Go.WideShapes Go.ChangeAt Go.RowKit
open Go.Sort (swp scanUp scanDown partLoop partition)
set_option linter.unusedVariables false

set_option maxRecDepth 20000 in
set_option maxHeartbeats 16000000 in
theorem part_calls (g cap n a J pv : Nat) (W0 : World) (ok : Int → Prop) (d : Array Int) (w : World) (hs : SrtB W0 g ok n d w) (haJ : a < J) (hJ : J < n) (hpa : a ≤ pv) (hpJ : pv ≤ J) (hn : n ≤ 100000) :
    Calls Try.prog 66 #[.slice (some ⟨g, 0, none⟩) n cap, .int .i64 a, .int .i64 ((J + 1 : Nat) : Int), .int .i64 pv] w fun e w' => e = .returned (.tuple #[.int .i64 (partition ltB d a (J + 1) pv).1, .bool (partition ltB d a (J + 1) pv).2.1]) ∧ SrtB W0 g ok n (partition ltB d a (J + 1) pv).2.2 w' := by
  have HS := hide hs
  clear hs
  obtain ⟨b, hbJ⟩ : ∃ b, b = J + 1 := ⟨_, rfl⟩
  have eJ : (b : Int) - 1 = (J : Int) := by omega
  obtain ⟨R, hR⟩ : ∃ R, R = partition ltB d a (J + 1) pv := ⟨_, rfl⟩
  rw [← hR, ← hbJ]
  have HR := hide hR
  clear hR hbJ
  have z0 : (a : Int) < n := by omega
  have z2 : (pv : Int) < n := by omega
  have y0 := HS.out.cell a (by omega)
  have y1 := HS.out.cell pv (by omega)
  have f0 := HS.out.froz a (by omega)
  have f1 := HS.out.froz pv (by omega)
  have hswp := hide (HS.out.swap (i := a) (j := pv) (by omega) (by omega))
  generalize d[a]! = X at y0 hswp
  generalize d[pv]! = Y at y1 hswp
  obtain ⟨d1, hd1⟩ : ∃ d1, d1 = swp d a pv := ⟨_, rfl⟩
  rw [← hd1] at hswp
  obtain ⟨V, hV⟩ : ∃ V, V = d1[a]! := ⟨_, rfl⟩
  have HV := hide hV
  clear hV
  obtain ⟨I2, hI2⟩ : ∃ I2, I2 = scanUp (fun x => ltB x V) d1 J (a + 1) := ⟨_, rfl⟩
  have HII2 := hide hI2
  obtain ⟨J2, hJ2⟩ : ∃ J2, J2 = scanDown (fun x => !ltB x V) d1 I2 J := ⟨_, rfl⟩
  have HJJ2 := hide hJ2
  have HPART : Hid (R = if I2 > J2 then (J2, true, swp d1 J2 a) else ((partLoop ltB a (I2 + 1) (J2 - 1) (swp d1 I2 J2)).1, false, swp (partLoop ltB a (I2 + 1) (J2 - 1) (swp d1 I2 J2)).2 (partLoop ltB a (I2 + 1) (J2 - 1) (swp d1 I2 J2)).1 a)) := by
    show _ = _
    rw [HR.out]
    subst hJ2
    subst hI2
    rw [HV.out]
    subst hd1
    rfl
  clear hd1 hI2 hJ2 HS HR
  obtain ⟨u, hu⟩ : ∃ u, (w.setCell ⟨g, a, none⟩ (.int .u8 Y)).cell? ⟨g, pv, none⟩ = some u := by
    by_cases e : a = pv
    · subst e; exact ⟨_, World.cell?_setCell_same _ _ _ y0⟩
    · exact ⟨_, (World.cell?_setCell_other _ _ _ _ (by intro e'; simp only [Addr.mk.injEq] at e'; omega)).trans y1⟩
  go_enter Try.func66, Try.ntmps66
  go_wp2_with fail
  go_region
  --Q4
  have HK := hide hswp.out.drew
  generalize World.drew _ = W1 at HK ⊢
  clear hswp y0 y1 f0 f1 hu
  go_upto_block 0 with fail
  go_cut [10] from 30 to 45 (fun u wx => u = .int .i64 I2 ∧ SrtB W0 g ok n d1 wx ∧ a + 1 ≤ I2 ∧ I2 ≤ J + 1)
  case first =>
    go_wp2_with fail
    go_loopw [10] (fun u wr => ∃ i : Nat, u = .int .i64 i ∧ (a + 1) ≤ i ∧ i ≤ n + 1 ∧ (i ≤ (a + 1) ∨ i ≤ J + 1) ∧ SrtB W0 g ok n d1 wr ∧ Hid (scanUp (fun x => ltB x V) d1 J i = I2)) (fun u _ => J + 1 - (intOf u).toNat)
    case atStart => exact ⟨(a + 1), by go_num, Nat.le_refl _, by omega, .inl (Nat.le_refl _), HK.out, HII2.out.symm⟩
    case round =>
      obtain ⟨i, rfl, hib, hin, hij, hsk, HO⟩ := hrel
      clear HK
      have HK := hide hsk
      clear hsk
      have hsu := scanUp.eq_1 (fun x => ltB x V) d1 J i
      by_cases hle : i ≤ J
      · have t1 : decide ((i : Int) ≤ (J : Int)) = true := decide_eq_true (by omega)
        have z1 : (i : Int) < n := by omega
        have y1 := HK.out.cell i (by omega)
        have y0 := HK.out.cell a (by omega)
        rw [← HV.out] at y0
        have hcm : Hid (∀ q, Calls Try.prog 64 #[.int .u8 d1[i]!, .int .u8 V] (wr.drewN q) fun e w' => e = .returned (.bool (ltB d1[i]! V)) ∧ ∃ m, w' = (wr.drewN q).drewN m) := fun q => lessB_calls _ _ _
        have hneg : True := trivial
        cases hl : ltB d1[i]! V with
        | true =>
          rw [hl] at hcm
          rw [if_pos (by simp [hle, hl])] at hsu
          have HGO : Hid (scanUp (fun x => ltB x V) d1 J (i + 1) = I2) := by show _ = _; rw [← hsu]; exact HO.out
          clear hsu hl
          generalize d1[i]! = X at y1 hcm hneg
          go_wp2_with fail
          go_quiet ((go_at_call 64; exact Calls.quiet_of (hcm.out _)))
          go_wp2
          go_roundw
          case rel => exact ⟨i + 1, by go_num, by omega, by omega, .inr (by omega), HK.out.drewN _, HGO.out⟩
          case measure => simp [intOf]; omega
        | false =>
          rw [hl] at hcm
          rw [if_neg (by simp [hl])] at hsu
          have hI2 : I2 = i := by rw [← HO.out, hsu]
          clear hsu hl HO
          generalize d1[i]! = X at y1 hcm hneg
          subst hI2
          go_wp2_with fail
          go_quiet ((go_at_call 64; exact Calls.quiet_of (hcm.out _)))
          obtain ⟨W2, hW2⟩ : ∃ W2, W2 = wr.drewN nq := ⟨_, rfl⟩
          replace HK := hide (HK.out.drewN nq)
          rw [← hW2] at HK ⊢
          clear hW2
          go_wp2_with fail
          go_meet
          exact ⟨rfl, HK.out, by omega, by omega⟩
      · have t1 : decide ((i : Int) ≤ (J : Int)) = false := decide_eq_false (by omega)
        rw [if_neg (by simp [hle])] at hsu
        have hI2 : I2 = i := by rw [← HO.out, hsu]
        clear hsu HO
        subst hI2
        go_wp2_with fail
        go_quiet (fail)
        obtain ⟨W2, hW2⟩ : ∃ W2, W2 = wr.drewN nq := ⟨_, rfl⟩
        replace HK := hide (HK.out.drewN nq)
        rw [← hW2] at HK ⊢
        clear hW2
        go_wp2_with fail
        go_meet
        exact ⟨rfl, HK.out, by omega, by omega⟩
  case rest =>
    obtain ⟨rfl, hsk, b1, b2⟩ := hcut
    clear HK
    have HK := hide hsk
    clear hsk
    --Q6
    go_upto_block 2 with fail
    go_cut [11] from 46 to 62 (fun u wx => u = .int .i64 J2 ∧ SrtB W0 g ok n d1 wx ∧ a ≤ J2 ∧ J2 ≤ J)
    case first =>
      go_wp2_with fail
      go_loopw [11] (fun u wr => ∃ j : Nat, u = .int .i64 j ∧ a ≤ j ∧ j ≤ J ∧ SrtB W0 g ok n d1 wr ∧ Hid (scanDown (fun x => !ltB x V) d1 I2 j = J2)) (fun u _ => (intOf u).toNat)
      case atStart => exact ⟨J, by go_num, by omega, Nat.le_refl _, HK.out, HJJ2.out.symm⟩
      case round =>
        obtain ⟨j, rfl, haj, hjj, hsk, HO⟩ := hrel
        clear HK
        have HK := hide hsk
        clear hsk
        by_cases hle : I2 ≤ j
        · obtain ⟨j, rfl⟩ : ∃ q, j = q + 1 := ⟨j - 1, by omega⟩
          have t1 : decide ((I2 : Int) ≤ ((j + 1 : Nat) : Int)) = true := decide_eq_true (by omega)
          have t1b : decide ((I2 : Int) ≤ (j : Int) + 1) = true := decide_eq_true (by omega)
          have z1 : (j : Int) + 1 < n := by omega
          have z1b : (I2 : Int) ≤ (j : Int) + 1 := by omega
          have y1 := HK.out.cell (j + 1) (by omega)
          have y0 := HK.out.cell a (by omega)
          rw [← HV.out] at y0
          have hcm : Hid (∀ q, Calls Try.prog 64 #[.int .u8 d1[j + 1]!, .int .u8 V] (wr.drewN q) fun e w' => e = .returned (.bool (ltB d1[j + 1]! V)) ∧ ∃ m, w' = (wr.drewN q).drewN m) := fun q => lessB_calls _ _ _
          have hneg : True := trivial
          have hsd : scanDown (fun x => !ltB x V) d1 I2 (j + 1) = if I2 ≤ j + 1 && !ltB d1[j + 1]! V then scanDown (fun x => !ltB x V) d1 I2 j else j + 1 := rfl
          cases hl : ltB d1[j + 1]! V with
          | false =>
            rw [hl] at hcm
            rw [if_pos (by simp [hle, hl])] at hsd
            have HGO : Hid (scanDown (fun x => !ltB x V) d1 I2 j = J2) := by show _ = _; rw [← hsd]; exact HO.out
            clear hsd hl
            generalize d1[j + 1]! = X at y1 hcm hneg
            go_wp2_with fail
            go_quiet ((go_at_call 64; exact Calls.quiet_of (hcm.out _)))
            go_wp2
            go_roundw
            case rel => exact ⟨j, by go_num, by omega, by omega, HK.out.drewN _, HGO.out⟩
            case measure => simp [intOf]
          | true =>
            rw [hl] at hcm
            rw [if_neg (by simp [hl])] at hsd
            have hJ2 : J2 = j + 1 := by rw [← HO.out, hsd]
            clear hsd hl HO
            generalize d1[j + 1]! = X at y1 hcm hneg
            go_wp2_with fail
            go_quiet ((go_at_call 64; exact Calls.quiet_of (hcm.out _)))
            obtain ⟨W2, hW2⟩ : ∃ W2, W2 = wr.drewN nq := ⟨_, rfl⟩
            replace HK := hide (HK.out.drewN nq)
            rw [← hW2] at HK ⊢
            clear hW2
            go_wp2_with fail
            go_meet
            exact ⟨by first | (rw [hJ2]; go_num) | rw [hJ2], HK.out, by omega, by omega⟩
        · have t1 : decide ((I2 : Int) ≤ (j : Int)) = false := decide_eq_false (by omega)
          have hJ2 : J2 = j := by
            rw [← HO.out]
            cases j with
            | zero => rfl
            | succ q => show (if I2 ≤ q + 1 && _ then _ else q + 1) = q + 1; rw [if_neg (by simp; intro h; omega)]
          clear HO
          subst hJ2
          go_wp2_with fail
          go_quiet (fail)
          obtain ⟨W2, hW2⟩ : ∃ W2, W2 = wr.drewN nq := ⟨_, rfl⟩
          replace HK := hide (HK.out.drewN nq)
          rw [← hW2] at HK ⊢
          clear hW2
          go_wp2_with fail
          go_meet
          exact ⟨rfl, HK.out, by omega, by omega⟩
    case rest =>
      obtain ⟨rfl, hsk, b3, b4⟩ := hcut
      clear HK
      have HK := hide hsk
      clear hsk
      --Q7
      by_cases hgt : I2 > J2
      · have t1 : decide ((I2 : Int) > (J2 : Int)) = true := decide_eq_true (by omega)
        have hres := HPART.out
        rw [if_pos hgt] at hres
        subst hres
        have y0 := HK.out.cell J2 (by omega)
        have y1 := HK.out.cell a (by omega)
        have f0 := HK.out.froz J2 (by omega)
        have f1 := HK.out.froz a (by omega)
        have hswp := hide (HK.out.swap (i := J2) (j := a) (by omega) (by omega))
        have z5 : (J2 : Int) < n := by omega
        have z6 : (a : Int) < n := by omega
        generalize d1[J2]! = X at y0 hswp
        generalize d1[a]! = Y at y1 hswp
        obtain ⟨u, hu⟩ : ∃ u, (wc.setCell ⟨g, J2, none⟩ (.int .u8 Y)).cell? ⟨g, a, none⟩ = some u := by
          by_cases e : J2 = a
          · rw [← e]; exact ⟨_, World.cell?_setCell_same _ _ _ y0⟩
          · exact ⟨_, (World.cell?_setCell_other _ _ _ _ (by intro e'; simp only [Addr.mk.injEq] at e'; exact e e'.2.1)).trans y1⟩
        go_wp2_with fail
        go_region
        all_goals
          go_wp2
          go_ret2
          exact ⟨rfl, (by first | exact hswp.out | exact hswp.out.drew | exact hswp.out.drewN _)⟩
      · have t1 : decide ((I2 : Int) > (J2 : Int)) = false := decide_eq_false (by omega)
        have hres := HPART.out
        rw [if_neg hgt] at hres
        obtain ⟨PR, hPR⟩ : ∃ PR, PR = partLoop ltB a (I2 + 1) (J2 - 1) (swp d1 I2 J2) := ⟨_, rfl⟩
        rw [← hPR] at hres
        subst hres
        have HPR := hide hPR
        have hV2 : Hid (V = (swp d1 I2 J2)[a]!) := by
          show _ = _
          have := HK.out.size
          rw [swp_at d1 (by omega) (by omega) (by omega), if_neg (by omega), if_neg (by omega)]
          exact HV.out
        have y0 := HK.out.cell I2 (by omega)
        have y1 := HK.out.cell J2 (by omega)
        have f0 := HK.out.froz I2 (by omega)
        have f1 := HK.out.froz J2 (by omega)
        have hswp := hide (HK.out.swap (i := I2) (j := J2) (by omega) (by omega))
        have z5 : (I2 : Int) < n := by omega
        have z6 : (J2 : Int) < n := by omega
        generalize d1[I2]! = X at y0 hswp
        generalize d1[J2]! = Y at y1 hswp
        obtain ⟨u, hu⟩ : ∃ u, (wc.setCell ⟨g, I2, none⟩ (.int .u8 Y)).cell? ⟨g, J2, none⟩ = some u := by
          by_cases e : I2 = J2
          · rw [← e]; exact ⟨_, World.cell?_setCell_same _ _ _ y0⟩
          · exact ⟨_, (World.cell?_setCell_other _ _ _ _ (by intro e'; simp only [Addr.mk.injEq] at e'; exact e e'.2.1)).trans y1⟩
        clear HPART hPR
        obtain ⟨J3, hJ3⟩ : ∃ q, J2 = q + 1 := ⟨J2 - 1, by omega⟩
        rw [show J2 - 1 = J3 by omega] at HPR
        have HJ3 := hide hJ3
        clear hJ3
        have e9 : (J2 : Int) - 1 = (J3 : Int) := by have := HJ3.out; omega
        --Q8
        go_wp2_with fail
        go_region
        --Q9
        have HK2 := hide hswp.out.drew
        clear HK
        generalize World.drew _ = W3 at HK2 ⊢
        have HK := HK2
        clear HK2 hswp y0 y1 f0 f1 hu z5 z6 HV HII2 HJJ2
        generalize swp d1 I2 J2 = d2 at HK hV2 HPR
        go_wp2_with fail
        --QA
        go_loopw [10, 11] (fun u v wr => ∃ (i j : Nat) (dk : Array Int), u = .int .i64 i ∧ v = .int .i64 j ∧ a + 1 ≤ i ∧ i ≤ n + 1 ∧ a ≤ j ∧ j ≤ J ∧ SrtB W0 g ok n dk wr ∧ Hid (V = dk[a]!) ∧ Hid (partLoop ltB a i j dk = PR)) (fun u v _ => (intOf v).toNat + 1 - (intOf u).toNat)
        case atStart => exact ⟨I2 + 1, J3, d2, by go_num, by go_num, by omega, by omega, by have := HJ3.out; omega, by have := HJ3.out; omega, HK.out, hV2.out, HPR.out.symm⟩
        case round =>
          obtain ⟨i0, j0, dk, rfl, rfl, p1, p2, p3, p4, hsk, HV, HO⟩ := hrel
          clear HK HPR hV2
          have HK := hide hsk
          clear hsk
          obtain ⟨I4, hI4⟩ : ∃ I4, I4 = scanUp (fun x => ltB x V) dk j0 i0 := ⟨_, rfl⟩
          obtain ⟨J4, hJ4⟩ : ∃ J4, J4 = scanDown (fun x => !ltB x V) dk I4 j0 := ⟨_, rfl⟩
          have HII4 := hide hI4
          have HJJ4 := hide hJ4
          have HPL : Hid (PR = if I4 > J4 then (J4, dk) else if _h : (J4 - 1) + 1 - (I4 + 1) < j0 + 1 - i0 then partLoop ltB a (I4 + 1) (J4 - 1) (swp dk I4 J4) else (J4, dk)) := by
            show _ = _
            rw [← HO.out, partLoop.eq_1, ← HV.out]
            subst hJ4
            subst hI4
            rfl
          clear hI4 hJ4
          --QB
          go_upto_block 6 with fail
          go_cut [10] from 99 to 152 (fun u wx => u = .int .i64 I4 ∧ SrtB W0 g ok n dk wx ∧ i0 ≤ I4 ∧ (I4 ≤ i0 ∨ I4 ≤ j0 + 1))
          case first =>
            go_wp2_with fail
            go_loopw [10] (fun u wr => ∃ i : Nat, u = .int .i64 i ∧ i0 ≤ i ∧ i ≤ n + 1 ∧ (i ≤ i0 ∨ i ≤ j0 + 1) ∧ SrtB W0 g ok n dk wr ∧ Hid (scanUp (fun x => ltB x V) dk j0 i = I4)) (fun u _ => j0 + 1 - (intOf u).toNat)
            case atStart => exact ⟨i0, by go_num, Nat.le_refl _, by omega, .inl (Nat.le_refl _), HK.out, HII4.out.symm⟩
            case round =>
              obtain ⟨i, rfl, hib, hin, hij, hsk, HO⟩ := hrel
              clear HK
              have HK := hide hsk
              clear hsk
              have hsu := scanUp.eq_1 (fun x => ltB x V) dk j0 i
              by_cases hle : i ≤ j0
              · have t1 : decide ((i : Int) ≤ (j0 : Int)) = true := decide_eq_true (by omega)
                have z1 : (i : Int) < n := by omega
                have y1 := HK.out.cell i (by omega)
                have y0 := HK.out.cell a (by omega)
                rw [← HV.out] at y0
                have hcm : Hid (∀ q, Calls Try.prog 64 #[.int .u8 dk[i]!, .int .u8 V] (wr.drewN q) fun e w' => e = .returned (.bool (ltB dk[i]! V)) ∧ ∃ m, w' = (wr.drewN q).drewN m) := fun q => lessB_calls _ _ _
                have hneg : True := trivial
                cases hl : ltB dk[i]! V with
                | true =>
                  rw [hl] at hcm
                  rw [if_pos (by simp [hle, hl])] at hsu
                  have HGO : Hid (scanUp (fun x => ltB x V) dk j0 (i + 1) = I4) := by show _ = _; rw [← hsu]; exact HO.out
                  clear hsu hl
                  generalize dk[i]! = X at y1 hcm hneg
                  go_wp2_with fail
                  go_quiet ((go_at_call 64; exact Calls.quiet_of (hcm.out _)))
                  go_wp2
                  go_roundw
                  case rel => exact ⟨i + 1, by go_num, by omega, by omega, .inr (by omega), HK.out.drewN _, HGO.out⟩
                  case measure => simp [intOf]; omega
                | false =>
                  rw [hl] at hcm
                  rw [if_neg (by simp [hl])] at hsu
                  have hI2 : I4 = i := by rw [← HO.out, hsu]
                  clear hsu hl HO
                  generalize dk[i]! = X at y1 hcm hneg
                  subst hI2
                  go_wp2_with fail
                  go_quiet ((go_at_call 64; exact Calls.quiet_of (hcm.out _)))
                  obtain ⟨W2, hW2⟩ : ∃ W2, W2 = wr.drewN nq := ⟨_, rfl⟩
                  replace HK := hide (HK.out.drewN nq)
                  rw [← hW2] at HK ⊢
                  clear hW2
                  go_wp2_with fail
                  go_meet
                  exact ⟨rfl, HK.out, by omega, by omega⟩
              · have t1 : decide ((i : Int) ≤ (j0 : Int)) = false := decide_eq_false (by omega)
                rw [if_neg (by simp [hle])] at hsu
                have hI2 : I4 = i := by rw [← HO.out, hsu]
                clear hsu HO
                subst hI2
                go_wp2_with fail
                go_quiet (fail)
                obtain ⟨W2, hW2⟩ : ∃ W2, W2 = wr.drewN nq := ⟨_, rfl⟩
                replace HK := hide (HK.out.drewN nq)
                rw [← hW2] at HK ⊢
                clear hW2
                go_wp2_with fail
                go_meet
                exact ⟨rfl, HK.out, by omega, by omega⟩
          case rest =>
            obtain ⟨rfl, hsk, b5, b6⟩ := hcut
            clear HK
            have HK := hide hsk
            clear hsk
            --QC
            go_upto_block 8 with fail
            go_cut [11] from 99 to 152 (fun u wx => u = .int .i64 J4 ∧ SrtB W0 g ok n dk wx ∧ a ≤ J4 ∧ J4 ≤ j0)
            case first =>
              go_wp2_with fail
              go_loopw [11] (fun u wr => ∃ j : Nat, u = .int .i64 j ∧ a ≤ j ∧ j ≤ j0 ∧ SrtB W0 g ok n dk wr ∧ Hid (scanDown (fun x => !ltB x V) dk I4 j = J4)) (fun u _ => (intOf u).toNat)
              case atStart => exact ⟨j0, by go_num, by omega, Nat.le_refl _, HK.out, HJJ4.out.symm⟩
              case round =>
                obtain ⟨j, rfl, haj, hjj, hsk, HO⟩ := hrel
                clear HK
                have HK := hide hsk
                clear hsk
                by_cases hle : I4 ≤ j
                · obtain ⟨j, rfl⟩ : ∃ q, j = q + 1 := ⟨j - 1, by omega⟩
                  have t1 : decide ((I4 : Int) ≤ ((j + 1 : Nat) : Int)) = true := decide_eq_true (by omega)
                  have t1b : decide ((I4 : Int) ≤ (j : Int) + 1) = true := decide_eq_true (by omega)
                  have z1 : (j : Int) + 1 < n := by omega
                  have z1b : (I4 : Int) ≤ (j : Int) + 1 := by omega
                  have y1 := HK.out.cell (j + 1) (by omega)
                  have y0 := HK.out.cell a (by omega)
                  rw [← HV.out] at y0
                  have hcm : Hid (∀ q, Calls Try.prog 64 #[.int .u8 dk[j + 1]!, .int .u8 V] (wr.drewN q) fun e w' => e = .returned (.bool (ltB dk[j + 1]! V)) ∧ ∃ m, w' = (wr.drewN q).drewN m) := fun q => lessB_calls _ _ _
                  have hneg : True := trivial
                  have hsd : scanDown (fun x => !ltB x V) dk I4 (j + 1) = if I4 ≤ j + 1 && !ltB dk[j + 1]! V then scanDown (fun x => !ltB x V) dk I4 j else j + 1 := rfl
                  cases hl : ltB dk[j + 1]! V with
                  | false =>
                    rw [hl] at hcm
                    rw [if_pos (by simp [hle, hl])] at hsd
                    have HGO : Hid (scanDown (fun x => !ltB x V) dk I4 j = J4) := by show _ = _; rw [← hsd]; exact HO.out
                    clear hsd hl
                    generalize dk[j + 1]! = X at y1 hcm hneg
                    go_wp2_with fail
                    go_quiet ((go_at_call 64; exact Calls.quiet_of (hcm.out _)))
                    go_wp2
                    go_roundw
                    case rel => exact ⟨j, by go_num, by omega, by omega, HK.out.drewN _, HGO.out⟩
                    case measure => simp [intOf]
                  | true =>
                    rw [hl] at hcm
                    rw [if_neg (by simp [hl])] at hsd
                    have hJ2 : J4 = j + 1 := by rw [← HO.out, hsd]
                    clear hsd hl HO
                    generalize dk[j + 1]! = X at y1 hcm hneg
                    go_wp2_with fail
                    go_quiet ((go_at_call 64; exact Calls.quiet_of (hcm.out _)))
                    obtain ⟨W2, hW2⟩ : ∃ W2, W2 = wr.drewN nq := ⟨_, rfl⟩
                    replace HK := hide (HK.out.drewN nq)
                    rw [← hW2] at HK ⊢
                    clear hW2
                    go_wp2_with fail
                    go_meet
                    exact ⟨by first | (rw [hJ2]; go_num) | rw [hJ2], HK.out, by omega, by omega⟩
                · have t1 : decide ((I4 : Int) ≤ (j : Int)) = false := decide_eq_false (by omega)
                  have hJ2 : J4 = j := by
                    rw [← HO.out]
                    cases j with
                    | zero => rfl
                    | succ q => show (if I4 ≤ q + 1 && _ then _ else q + 1) = q + 1; rw [if_neg (by simp; intro h; omega)]
                  clear HO
                  subst hJ2
                  go_wp2_with fail
                  go_quiet (fail)
                  obtain ⟨W2, hW2⟩ : ∃ W2, W2 = wr.drewN nq := ⟨_, rfl⟩
                  replace HK := hide (HK.out.drewN nq)
                  rw [← hW2] at HK ⊢
                  clear hW2
                  go_wp2_with fail
                  go_meet
                  exact ⟨rfl, HK.out, by omega, by omega⟩
            case rest =>
              obtain ⟨rfl, hsk, b7, b8⟩ := hcut
              clear HK
              have HK := hide hsk
              clear hsk
              --QD
              by_cases hgt2 : I4 > J4
              · have t2 : decide ((I4 : Int) > (J4 : Int)) = true := decide_eq_true (by omega)
                have hres := HPL.out
                rw [if_pos hgt2] at hres
                subst hres
                have y0 := HK.out.cell J4 (by omega)
                have y1 := HK.out.cell a (by omega)
                have f0 := HK.out.froz J4 (by omega)
                have f1 := HK.out.froz a (by omega)
                have hswp := hide (HK.out.swap (i := J4) (j := a) (by omega) (by omega))
                have z5 : (J4 : Int) < n := by omega
                have z6 : (a : Int) < n := by omega
                generalize dk[J4]! = X at y0 hswp
                generalize dk[a]! = Y at y1 hswp
                obtain ⟨u, hu⟩ : ∃ u, (wc.setCell ⟨g, J4, none⟩ (.int .u8 Y)).cell? ⟨g, a, none⟩ = some u := by
                  by_cases e : J4 = a
                  · rw [← e]; exact ⟨_, World.cell?_setCell_same _ _ _ y0⟩
                  · exact ⟨_, (World.cell?_setCell_other _ _ _ _ (by intro e'; simp only [Addr.mk.injEq] at e'; exact e e'.2.1)).trans y1⟩
                go_wp2_with fail
                go_region
                all_goals
                  go_wp2
                  go_ret2
                  exact ⟨rfl, (by first | exact hswp.out | exact hswp.out.drew | exact hswp.out.drewN _)⟩
              · have t2 : decide ((I4 : Int) > (J4 : Int)) = false := decide_eq_false (by omega)
                have hres := HPL.out
                rw [if_neg hgt2, dif_pos (by omega)] at hres
                obtain ⟨J5, hJ5⟩ : ∃ q, J4 = q + 1 := ⟨J4 - 1, by omega⟩
                have hV3 : Hid (V = (swp dk I4 J4)[a]!) := by
                  show _ = _
                  have := HK.out.size
                  rw [swp_at dk (by omega) (by omega) (by omega), if_neg (by omega), if_neg (by omega)]
                  exact HV.out
                have HGO : Hid (partLoop ltB a (I4 + 1) J5 (swp dk I4 J4) = PR) := by
                  show _ = _
                  rw [hres, hJ5, Nat.add_sub_cancel]
                have y0 := HK.out.cell I4 (by omega)
                have y1 := HK.out.cell J4 (by omega)
                have f0 := HK.out.froz I4 (by omega)
                have f1 := HK.out.froz J4 (by omega)
                have hswp := hide (HK.out.swap (i := I4) (j := J4) (by omega) (by omega))
                have z5 : (I4 : Int) < n := by omega
                have z6 : (J4 : Int) < n := by omega
                generalize dk[I4]! = X at y0 hswp
                generalize dk[J4]! = Y at y1 hswp
                obtain ⟨u, hu⟩ : ∃ u, (wc.setCell ⟨g, I4, none⟩ (.int .u8 Y)).cell? ⟨g, J4, none⟩ = some u := by
                  by_cases e : I4 = J4
                  · rw [← e]; exact ⟨_, World.cell?_setCell_same _ _ _ y0⟩
                  · exact ⟨_, (World.cell?_setCell_other _ _ _ _ (by intro e'; simp only [Addr.mk.injEq] at e'; exact e e'.2.1)).trans y1⟩
                have HJ5 := hide hJ5
                have e9 : (J4 : Int) - 1 = (J5 : Int) := by omega
                have m1 : J5 + 1 - (I4 + 1) < j0 + 1 - i0 := by omega
                clear HPL hres hJ5
                --QE
                go_wp2_with fail
                go_region
                all_goals
                  go_wp2
                  --QF
                  go_roundw
                  case rel => exact ⟨I4 + 1, J5, swp dk I4 J4, by go_num, by go_num, by omega, by omega, by have := HJ5.out; omega, by have := HJ5.out; omega, (by first | exact hswp.out | exact hswp.out.drew | exact hswp.out.drewN _), hV3.out, HGO.out⟩
                  case measure => simp [intOf]; omega

end Go.Proofs.Ytmbniakobhaomaa

namespace Go.Proofs.Ytmbniakobhaomaa
open Go.ChangeShapes Go.WideShapes Go.ChangeAt Go.RowKit
open Go.Sort (swp siftDown heapBuild heapPop)
set_option linter.unusedVariables false
variable {lt : Int → Int → Bool}

theorem sdI_end {hi F root : Nat} {d : Array Int} (h : hi ≤ 2 * root + 1) : siftDown lt hi F root d = d := by rw [siftDown.eq_1, dif_pos h]
theorem sdI_r {hi F root : Nat} {d : Array Int} (h1 : 2 * root + 2 < hi) (h2 : lt d[F + (2 * root + 1)]! d[F + (2 * root + 2)]! = true) : siftDown lt hi F root d = if lt d[F + root]! d[F + (2 * root + 2)]! then siftDown lt hi F (2 * root + 2) (swp d (F + root) (F + (2 * root + 2))) else d := by
  rw [siftDown.eq_1, dif_neg (by omega), if_pos (by rw [Bool.and_eq_true]; exact ⟨decide_eq_true (by omega), h2⟩)]
  cases lt d[F + root]! d[F + (2 * root + 2)]! with
  | true => simp [h1]
  | false => simp
theorem sdI_l {hi F root : Nat} {d : Array Int} (h0 : 2 * root + 1 < hi) (h1 : 2 * root + 2 < hi → lt d[F + (2 * root + 1)]! d[F + (2 * root + 2)]! = false) : siftDown lt hi F root d = if lt d[F + root]! d[F + (2 * root + 1)]! then siftDown lt hi F (2 * root + 1) (swp d (F + root) (F + (2 * root + 1))) else d := by
  rw [siftDown.eq_1, dif_neg (by omega), if_neg]
  · cases lt d[F + root]! d[F + (2 * root + 1)]! with
    | true => simp
    | false => simp
  · rw [Bool.and_eq_true, not_and, Bool.not_eq_true]
    intro h
    exact h1 (of_decide_eq_true h)

set_option maxRecDepth 20000 in
set_option maxHeartbeats 16000000 in
theorem sift_calls (g cap n lo hi F : Nat) (W0 : World) (ok : Int → Prop) (d : Array Int) (w : World) (hs : SrtB W0 g ok n d w) (hlo : lo ≤ n) (hb : F + hi ≤ n) (hn : n ≤ 100000) :
    Calls Try.prog 70 #[.slice (some ⟨g, 0, none⟩) n cap, .int .i64 lo, .int .i64 hi, .int .i64 F] w fun e w' => e = .returned (.tuple #[]) ∧ SrtB W0 g ok n (siftDown ltB hi F lo d) w' := by
  have HS := hide hs
  clear hs
  go_enter Try.func70, Try.ntmps70
  go_wp2_with fail
  go_loopw [8] (fun u wr => ∃ (root : Nat) (dk : Array Int), u = .int .i64 root ∧ root ≤ n ∧ SrtB W0 g ok n dk wr ∧ Hid (siftDown ltB hi F root dk = siftDown ltB hi F lo d)) (fun u _ => hi - (intOf u).toNat)
  case atStart => exact ⟨lo, d, rfl, hlo, HS.out, rfl⟩
  case round =>
    obtain ⟨root, dk, rfl, hrn, hsk, HO⟩ := hrel
    obtain ⟨WW, rfl⟩ : ∃ WW, WW = wr := ⟨_, rfl⟩
    have HK := hide hsk
    clear hsk HS
    have hend := sdI_end (lt := ltB) (hi := hi) (F := F) (root := root) (d := dk)
    have hsr := sdI_r (lt := ltB) (hi := hi) (F := F) (root := root) (d := dk)
    have hsl := sdI_l (lt := ltB) (hi := hi) (F := F) (root := root) (d := dk)
    obtain ⟨ch1, hch1⟩ : ∃ c, c = 2 * root + 1 := ⟨_, rfl⟩
    obtain ⟨ch2, hch2⟩ : ∃ c, c = 2 * root + 2 := ⟨_, rfl⟩
    obtain ⟨iR, hiR⟩ : ∃ c, c = F + root := ⟨_, rfl⟩
    rw [← hch1] at hend
    rw [← hch1, ← hch2, ← hiR] at hsr hsl
    obtain ⟨i1, hi1⟩ : ∃ c, c = F + ch1 := ⟨_, rfl⟩
    obtain ⟨i2, hi2⟩ : ∃ c, c = F + ch2 := ⟨_, rfl⟩
    rw [← hi1, ← hi2] at hsr hsl
    have e1 : 2 * (root : Int) + 1 = (ch1 : Int) := by omega
    have e2 : (ch1 : Int) + 1 = (ch2 : Int) := by omega
    have e3 : (F : Int) + (ch1 : Int) = (i1 : Int) := by omega
    have e4 : (F : Int) + (ch2 : Int) = (i2 : Int) := by omega
    have e5 : (i1 : Int) + 1 = (i2 : Int) := by omega
    have e6 : (F : Int) + (root : Int) = (iR : Int) := by omega
    have hrc1 : root < ch1 := by omega
    have hrc2 : root < ch2 := by omega
    have HEND := hide hend
    have HSR := hide hsr
    have HSL := hide hsl
    have hbb : Hid (∀ c, c < hi → F + c < n) := fun c hc => by omega
    have ne1 : ¬ iR = i1 := by omega
    have ne2 : ¬ i1 = iR := by omega
    have ne3 : ¬ iR = i2 := by omega
    have ne4 : ¬ i2 = iR := by omega
    by_cases h1 : ch1 < hi
    · --D2
      have t1 : decide ((ch1 : Int) ≥ hi) = false := decide_eq_false (by omega)
      have r1 : iR < n := by omega
      have r2 : i1 < n := by omega
      have r1z : (iR : Int) < n := by omega
      have r2z : (i1 : Int) < n := by omega
      have hc2n : ch1 ≤ n := by omega
      by_cases h2 : ch2 < hi
      · --D3
        have t2 : decide ((ch2 : Int) < hi) = true := decide_eq_true (by omega)
        have r3 : i2 < n := by omega
        have r3z : (i2 : Int) < n := by omega
        have hc3n : ch2 ≤ n := by omega
        have y1 := HK.out.cell i1 (by omega)
        have y2 := HK.out.cell i2 (by omega)
        have hcm : Hid (∀ q, Calls Try.prog 64 #[.int .u8 dk[i1]!, .int .u8 dk[i2]!] (WW.drewN q) fun e w' => e = .returned (.bool (ltB dk[i1]! dk[i2]!)) ∧ ∃ m, w' = (WW.drewN q).drewN m) := fun q => lessB_calls _ _ _
        have hneg : True := trivial
        clear hch1 hch2 hiR hi1 hi2 hend hsr hsl hb
        cases hl : ltB dk[i1]! dk[i2]! with
        | true =>
          rw [hl] at hcm
          have HSD := hide (HSR.out h2 hl)
          clear hl HEND HSR HSL
          generalize dk[i1]! = X at y1 hcm hneg
          generalize dk[i2]! = Y at y2 hcm hneg
          --D30
          go_wp2_with fail
          --D31
          go_quiet ((go_at_call 64; exact Calls.quiet_of (hcm.out _)))
          obtain ⟨W2, hW2⟩ : ∃ W2, W2 = WW.drewN nq := ⟨_, rfl⟩
          replace HK := hide (HK.out.drewN nq)
          rw [← hW2] at HK ⊢
          clear hcm hneg y1 y2 hW2
          clear WW
          obtain ⟨WW, rfl⟩ : ∃ WW, WW = W2 := ⟨_, rfl⟩
          --D6
          have yr := HK.out.cell iR (by omega)
          have yc := HK.out.cell i2 (by omega)
          have fr := HK.out.froz iR (by omega)
          have fc := HK.out.froz i2 (by omega)
          have hcm2 : Hid (∀ q, Calls Try.prog 64 #[.int .u8 dk[iR]!, .int .u8 dk[i2]!] (WW.drewN q) fun e w' => e = .returned (.bool (ltB dk[iR]! dk[i2]!)) ∧ ∃ m, w' = (WW.drewN q).drewN m) := fun q => lessB_calls _ _ _
          have hneg2 : True := trivial
          have hswp : Hid (∀ q, SrtB W0 g ok n (swp dk iR i2) (((WW.drewN q).setCell ⟨g, iR, none⟩ (.int .u8 dk[i2]!)).setCell ⟨g, i2, none⟩ (.int .u8 dk[iR]!))) := fun q => (HK.out.drewN q).swap (by omega) (by omega)
          cases hl2 : ltB dk[iR]! dk[i2]! with
          | true =>
            rw [hl2] at hcm2
            have HGO : Hid (siftDown ltB hi F ch2 (swp dk iR i2) = siftDown ltB hi F lo d) := by
              show _ = _
              rw [← HO.out, HSD.out, if_pos hl2]
            clear hl2
            generalize dk[iR]! = X2 at yr hcm2 hneg2 hswp
            generalize dk[i2]! = Y2 at yc hcm2 hneg2 hswp
            go_wp2_with fail
            go_quiet ((go_at_call 64; exact Calls.quiet_of (hcm2.out _)))
            go_wp2_with fail
            --D7
            go_region
            --D8
            all_goals
              go_wp2
              go_roundw
              case rel => exact ⟨ch2, swp dk iR i2, by go_num, by omega, (by first | exact hswp.out _ | exact (hswp.out _).drewN _ | exact (hswp.out _).drew), HGO.out⟩
              case measure => simp [intOf]; omega
          | false =>
            rw [hl2] at hcm2
            have HST : Hid (dk = siftDown ltB hi F lo d) := by
              show _ = _
              rw [← HO.out, HSD.out, if_neg (by rw [hl2]; exact Bool.false_ne_true)]
            clear hl2
            generalize dk[iR]! = X2 at yr hcm2 hneg2 hswp
            generalize dk[i2]! = Y2 at yc hcm2 hneg2 hswp
            go_wp2_with fail
            go_quiet ((go_at_call 64; exact Calls.quiet_of (hcm2.out _)))
            go_wp2
            --D9
            (try simp only [Exit.inBlock, Exit.then])
            refine bodyPost_ret (results_none rfl _ _ _) rfl ?_
            exact ⟨rfl, by rw [← HST.out]; exact (HK.out.drewN _)⟩
        | false =>
          rw [hl] at hcm
          have HSD := hide (HSL.out h1 (fun _ => hl))
          clear hl HEND HSR HSL
          generalize dk[i1]! = X at y1 hcm hneg
          generalize dk[i2]! = Y at y2 hcm hneg
          go_wp2_with fail
          go_quiet ((go_at_call 64; exact Calls.quiet_of (hcm.out _)))
          obtain ⟨W2, hW2⟩ : ∃ W2, W2 = WW.drewN nq := ⟨_, rfl⟩
          replace HK := hide (HK.out.drewN nq)
          rw [← hW2] at HK ⊢
          clear hcm hneg y1 y2 hW2
          clear WW
          obtain ⟨WW, rfl⟩ : ∃ WW, WW = W2 := ⟨_, rfl⟩
          --D6
          have yr := HK.out.cell iR (by omega)
          have yc := HK.out.cell i1 (by omega)
          have fr := HK.out.froz iR (by omega)
          have fc := HK.out.froz i1 (by omega)
          have hcm2 : Hid (∀ q, Calls Try.prog 64 #[.int .u8 dk[iR]!, .int .u8 dk[i1]!] (WW.drewN q) fun e w' => e = .returned (.bool (ltB dk[iR]! dk[i1]!)) ∧ ∃ m, w' = (WW.drewN q).drewN m) := fun q => lessB_calls _ _ _
          have hneg2 : True := trivial
          have hswp : Hid (∀ q, SrtB W0 g ok n (swp dk iR i1) (((WW.drewN q).setCell ⟨g, iR, none⟩ (.int .u8 dk[i1]!)).setCell ⟨g, i1, none⟩ (.int .u8 dk[iR]!))) := fun q => (HK.out.drewN q).swap (by omega) (by omega)
          cases hl2 : ltB dk[iR]! dk[i1]! with
          | true =>
            rw [hl2] at hcm2
            have HGO : Hid (siftDown ltB hi F ch1 (swp dk iR i1) = siftDown ltB hi F lo d) := by
              show _ = _
              rw [← HO.out, HSD.out, if_pos hl2]
            clear hl2
            generalize dk[iR]! = X2 at yr hcm2 hneg2 hswp
            generalize dk[i1]! = Y2 at yc hcm2 hneg2 hswp
            go_wp2_with fail
            go_quiet ((go_at_call 64; exact Calls.quiet_of (hcm2.out _)))
            go_wp2_with fail
            --D7
            go_region
            --D8
            all_goals
              go_wp2
              go_roundw
              case rel => exact ⟨ch1, swp dk iR i1, by go_num, by omega, (by first | exact hswp.out _ | exact (hswp.out _).drewN _ | exact (hswp.out _).drew), HGO.out⟩
              case measure => simp [intOf]; omega
          | false =>
            rw [hl2] at hcm2
            have HST : Hid (dk = siftDown ltB hi F lo d) := by
              show _ = _
              rw [← HO.out, HSD.out, if_neg (by rw [hl2]; exact Bool.false_ne_true)]
            clear hl2
            generalize dk[iR]! = X2 at yr hcm2 hneg2 hswp
            generalize dk[i1]! = Y2 at yc hcm2 hneg2 hswp
            go_wp2_with fail
            go_quiet ((go_at_call 64; exact Calls.quiet_of (hcm2.out _)))
            go_wp2
            --D9
            (try simp only [Exit.inBlock, Exit.then])
            refine bodyPost_ret (results_none rfl _ _ _) rfl ?_
            exact ⟨rfl, by rw [← HST.out]; exact (HK.out.drewN _)⟩
      · --D4
        have t2 : decide ((ch2 : Int) < hi) = false := decide_eq_false (by omega)
        have HSD := hide (HSL.out h1 (fun h => absurd h h2))
        clear hch1 hch2 hiR hi1 hi2 hend hsr hsl hb HEND HSR HSL
        go_wp2_with fail
        go_quiet (fail)
        obtain ⟨W2, hW2⟩ : ∃ W2, W2 = WW.drewN nq := ⟨_, rfl⟩
        replace HK := hide (HK.out.drewN nq)
        rw [← hW2] at HK ⊢
        clear  hW2
        clear WW
        obtain ⟨WW, rfl⟩ : ∃ WW, WW = W2 := ⟨_, rfl⟩
        --D6
        have yr := HK.out.cell iR (by omega)
        have yc := HK.out.cell i1 (by omega)
        have fr := HK.out.froz iR (by omega)
        have fc := HK.out.froz i1 (by omega)
        have hcm2 : Hid (∀ q, Calls Try.prog 64 #[.int .u8 dk[iR]!, .int .u8 dk[i1]!] (WW.drewN q) fun e w' => e = .returned (.bool (ltB dk[iR]! dk[i1]!)) ∧ ∃ m, w' = (WW.drewN q).drewN m) := fun q => lessB_calls _ _ _
        have hneg2 : True := trivial
        have hswp : Hid (∀ q, SrtB W0 g ok n (swp dk iR i1) (((WW.drewN q).setCell ⟨g, iR, none⟩ (.int .u8 dk[i1]!)).setCell ⟨g, i1, none⟩ (.int .u8 dk[iR]!))) := fun q => (HK.out.drewN q).swap (by omega) (by omega)
        cases hl2 : ltB dk[iR]! dk[i1]! with
        | true =>
          rw [hl2] at hcm2
          have HGO : Hid (siftDown ltB hi F ch1 (swp dk iR i1) = siftDown ltB hi F lo d) := by
            show _ = _
            rw [← HO.out, HSD.out, if_pos hl2]
          clear hl2
          generalize dk[iR]! = X2 at yr hcm2 hneg2 hswp
          generalize dk[i1]! = Y2 at yc hcm2 hneg2 hswp
          go_wp2_with fail
          go_quiet ((go_at_call 64; exact Calls.quiet_of (hcm2.out _)))
          go_wp2_with fail
          --D7
          go_region
          --D8
          all_goals
            go_wp2
            go_roundw
            case rel => exact ⟨ch1, swp dk iR i1, by go_num, by omega, (by first | exact hswp.out _ | exact (hswp.out _).drewN _ | exact (hswp.out _).drew), HGO.out⟩
            case measure => simp [intOf]; omega
        | false =>
          rw [hl2] at hcm2
          have HST : Hid (dk = siftDown ltB hi F lo d) := by
            show _ = _
            rw [← HO.out, HSD.out, if_neg (by rw [hl2]; exact Bool.false_ne_true)]
          clear hl2
          generalize dk[iR]! = X2 at yr hcm2 hneg2 hswp
          generalize dk[i1]! = Y2 at yc hcm2 hneg2 hswp
          go_wp2_with fail
          go_quiet ((go_at_call 64; exact Calls.quiet_of (hcm2.out _)))
          go_wp2
          --D9
          (try simp only [Exit.inBlock, Exit.then])
          refine bodyPost_ret (results_none rfl _ _ _) rfl ?_
          exact ⟨rfl, by rw [← HST.out]; exact (HK.out.drewN _)⟩
    · --D5
      have t1 : decide ((ch1 : Int) ≥ hi) = true := decide_eq_true (by omega)
      have HST : Hid (dk = siftDown ltB hi F lo d) := by
        show _ = _
        rw [← HO.out, HEND.out (by omega)]
      clear hch1 hch2 hiR hi1 hi2 hend hsr hsl hb HEND HSR HSL
      go_wp2
      go_end0
      exact ⟨rfl, by rw [← HST.out]; exact HK.out⟩

end Go.Proofs.Ytmbniakobhaomaa

namespace Go.Proofs.Ytmbniakobhaomaa
open Go.ChangeShapes Go.WideShapes Go.ChangeAt Go.RowKit
open Go.Sort (swp siftDown heapBuild heapPop)
set_option linter.unusedVariables false

set_option maxRecDepth 20000 in
set_option maxHeartbeats 16000000 in
theorem heap_calls (g cap n a L : Nat) (W0 : World) (ok : Int → Prop) (d : Array Int) (w : World) (hs : SrtB W0 g ok n d w) (hL : 12 < L) (hb : a + L ≤ n) (hn : n ≤ 100000) :
    Calls Try.prog 59 #[.slice (some ⟨g, 0, none⟩) n cap, .int .i64 a, .int .i64 ((a + L : Nat) : Int)] w fun e w' => e = .returned (.tuple #[]) ∧ SrtB W0 g ok n (Go.Sort.heapSort ltB d a (a + L)) w' := by
  have HS := hide hs
  clear hs
  have hm : Go.Sort.heapSort ltB d a (a + L) = heapPop ltB a L (heapBuild ltB L a ((L - 1) / 2 + 1) d) := by
    unfold Go.Sort.heapSort
    rw [Nat.add_sub_cancel_left]
  rw [hm]
  clear hm
  obtain ⟨K, hK⟩ : ∃ K, K = (L - 1) / 2 := ⟨_, rfl⟩
  rw [← hK]
  obtain ⟨b, hbL⟩ : ∃ b, b = a + L := ⟨_, rfl⟩
  rw [← hbL]
  have eL : ((b : Int) - (a : Int)) = L := by omega
  have eK : ((L : Int) - 1).tdiv 2 = K := by rw [Int.tdiv_eq_ediv_of_nonneg (by omega)]; omega
  have eK2 : ((L : Int) - 1) / 2 = K := by omega
  have hKn : K + 1 ≤ n := by omega
  obtain ⟨D1, hD1⟩ : ∃ D1, D1 = heapBuild ltB L a (K + 1) d := ⟨_, rfl⟩
  rw [← hD1]
  have HD1 := hide hD1
  clear hD1 hK hbL
  go_enter Try.func59, Try.ntmps59
  go_wp2_with fail
  --H1
  go_loopw [9] (fun u wr => ∃ (k : Nat) (dk : Array Int), u = .int .i64 ((k : Int) - 1) ∧ k ≤ n ∧ SrtB W0 g ok n dk wr ∧ Hid (heapBuild ltB L a k dk = D1)) (fun u _ => ((intOf u) + 1).toNat)
  case atStart => exact ⟨K + 1, d, by go_num, hKn, HS.out, HD1.out.symm⟩
  case round =>
    obtain ⟨k, dk, rfl, hk, hsk, HO⟩ := hrel
    have HK := hide hsk
    clear hsk
    by_cases hk0 : k = 0
    · subst hk0
      have hdk : dk = D1 := HO.out
      subst hdk
      clear HO HD1 HS
      rw [show ((0 : Nat) : Int) - 1 = -1 by omega]
      --H2
      go_wp2_with fail
      go_loopw [10] (fun u wr => ∃ (k : Nat) (dj : Array Int), u = .int .i64 ((k : Int) - 1) ∧ k ≤ L ∧ SrtB W0 g ok n dj wr ∧ Hid (heapPop ltB a k dj = heapPop ltB a L dk)) (fun u _ => ((intOf u) + 1).toNat)
      case atStart => exact ⟨L, dk, by go_num, Nat.le_refl _, HK.out, rfl⟩
      case round =>
        obtain ⟨k, dj, rfl, hk, hsj, HP⟩ := hrel
        have HJ := hide hsj
        clear hsj HK
        by_cases hk0 : k = 0
        · subst hk0
          have hdj : Hid (dj = heapPop ltB a L dk) := HP.out
          clear HP
          --H3
          go_wp2
          go_end0
          exact ⟨rfl, by rw [← hdj.out]; exact HJ.out⟩
        · obtain ⟨q, rfl⟩ : ∃ q, k = q + 1 := ⟨k - 1, by omega⟩
          have HGO : Hid (heapPop ltB a q (siftDown ltB q a 0 (swp dj a (a + q))) = heapPop ltB a L dk) := HP.out
          obtain ⟨iq, hiq⟩ : ∃ iq, iq = a + q := ⟨_, rfl⟩
          rw [← hiq] at HGO
          have e1 : ((q + 1 : Nat) : Int) - 1 = (q : Int) := by omega
          have e2 : (a : Int) + (q : Int) = (iq : Int) := by omega
          have z1 : (a : Int) < n := by omega
          have z2 : (iq : Int) < n := by omega
          have y0 := HJ.out.cell a (by omega)
          have y1 := HJ.out.cell iq (by omega)
          have f0 := HJ.out.froz a (by omega)
          have f1 := HJ.out.froz iq (by omega)
          have hswp := hide (HJ.out.swap (i := a) (j := iq) (by omega) (by omega))
          have hsift : Hid (∀ w', SrtB W0 g ok n (swp dj a iq) w' → _) := fun w' h9 => sift_calls g cap n 0 q a W0 ok (swp dj a iq) w' h9 (by omega) (by omega) hn
          generalize hX : dj[a]! = X at y0 hswp
          generalize hY : dj[iq]! = Y at y1 hswp
          rw [e1]
          by_cases hq0 : iq = a
          · --H4
            subst hq0
            have hXY : X = Y := by rw [← hX, ← hY]
            subst hXY
            clear hX hY hiq e1
            go_wp2_with fail
            go_region
            all_goals
              --H5
              go_wp2_with fail
              go_at_call 70
              refine (hsift.out _ (by first | exact hswp.out | exact hswp.out.drewN _ | exact hswp.out.drew)).mono ?_
              rintro _ w9 ⟨rfl, h9⟩
              have H9 := hide h9
              clear h9 hsift hswp
              go_wp2
              go_roundw
              case rel => exact ⟨q, _, by go_num, by omega, H9.out, HGO.out⟩
              case measure => simp [intOf]
          · --H6
            have hq1 : ¬ a = iq := by omega
            clear hX hY hiq e1
            go_wp2_with fail
            go_region
            all_goals
              --H7
              go_wp2_with fail
              go_at_call 70
              refine (hsift.out _ (by first | exact hswp.out | exact hswp.out.drewN _ | exact hswp.out.drew)).mono ?_
              rintro _ w9 ⟨rfl, h9⟩
              have H9 := hide h9
              clear h9 hsift hswp
              go_wp2
              go_roundw
              case rel => exact ⟨q, _, by go_num, by omega, H9.out, HGO.out⟩
              case measure => simp [intOf]
    · --H8
      obtain ⟨q, rfl⟩ : ∃ q, k = q + 1 := ⟨k - 1, by omega⟩
      have HGO : Hid (heapBuild ltB L a q (siftDown ltB L a q dk) = D1) := HO.out
      have e1 : ((q + 1 : Nat) : Int) - 1 = (q : Int) := by omega
      have hsift := hide (sift_calls g cap n q L a W0 ok dk wr HK.out (by omega) (by omega) hn)
      rw [e1]
      clear e1
      go_wp2_with fail
      go_at_call 70
      --H9
      refine hsift.out.mono ?_
      rintro _ w9 ⟨rfl, h9⟩
      have H9 := hide h9
      clear h9 hsift
      go_wp2
      go_roundw
      case rel => exact ⟨q, _, by go_num, by omega, H9.out, HGO.out⟩
      case measure => simp [intOf]

end Go.Proofs.Ytmbniakobhaomaa

namespace Go.Proofs.Ytmbniakobhaomaa
open Go.ChangeShapes Go.WideShapes Go.ChangeAt Go.RowKit Go.Sort
set_option linter.unusedVariables false
set_option maxRecDepth 1000000

theorem hintN_two {h : Hint} (e : hintN h = 2) : h = .decreasing := by cases h <;> simp [hintN] at e ⊢
theorem eighths {x y p q : Nat} (h1 : q ≤ p) (h2 : y ≤ x) : decide (((x : Int) - (y : Int)) / 8 ≤ (p : Int) - (q : Int)) = decide (p - q ≥ (x - y) / 8) :=
  decide_eq_decide.2 ⟨fun h => by omega, fun h => by omega⟩

/-! The pieces, by where they begin and end. -/
section
variable {g n a b pv : Nat} {W0 w : World} {ok : Int → Prop} {d : Array Int}
theorem zHeap (cap : Nat) (hs : SrtB W0 g ok n d w) (h12 : ¬ b - a ≤ 12) (hb : b ≤ n) (hn : n ≤ 256) :
    Calls Try.prog 59 #[.slice (some ⟨g, 0, none⟩) n cap, .int .i64 a, .int .i64 b] w fun e w' => e = .returned (.tuple #[]) ∧ SrtB W0 g ok n (Go.Sort.heapSort ltB d a b) w' := by
  obtain ⟨L, rfl⟩ : ∃ L, b = a + L := ⟨b - a, by omega⟩
  exact heap_calls g cap n a L W0 ok d w hs (by omega) hb (by omega)
theorem zBreak (cap : Nat) (hs : SrtB W0 g ok n d w) (hg : g < W0.heap.size) (hab : a ≤ b) (hb : b ≤ n) (hn : n ≤ 256) :
    Calls Try.prog 60 #[.slice (some ⟨g, 0, none⟩) n cap, .int .i64 a, .int .i64 b] w fun e w' => e = .returned (.tuple #[]) ∧ SrtB W0 g ok n (breakPatterns d a b) w' := by
  obtain ⟨L, rfl⟩ : ∃ L, b = a + L := ⟨b - a, by omega⟩
  exact break_calls g cap n a L W0 ok d w hs hg hb hn
theorem zChoose (cap : Nat) (hs : SrtB W0 g ok n d w) (hg : g < W0.heap.size) (h12 : ¬ b - a ≤ 12) (hb : b ≤ n) (hn : n ≤ 256) :
    Calls Try.prog 61 #[.slice (some ⟨g, 0, none⟩) n cap, .int .i64 a, .int .i64 b] w fun e w' => e = .returned (.tuple #[.int .i64 (choosePivot ltB d a b).1, .int .i64 (hintN (choosePivot ltB d a b).2)]) ∧ SrtB W0 g ok n d w' := by
  obtain ⟨L, rfl⟩ : ∃ L, b = a + L := ⟨b - a, by omega⟩
  exact choose_calls g cap n a L W0 ok d w hs hg (by omega) hb (by omega)
theorem zRev (cap : Nat) (hs : SrtB W0 g ok n d w) (hab : a < b) (hb : b ≤ n) (hn : n ≤ 256) :
    Calls Try.prog 62 #[.slice (some ⟨g, 0, none⟩) n cap, .int .i64 a, .int .i64 b] w fun e w' => e = .returned (.tuple #[]) ∧ SrtB W0 g ok n (Go.Sort.reverseRange d a b) w' := by
  obtain ⟨J, rfl⟩ : ∃ J, b = J + 1 := ⟨b - 1, by omega⟩
  exact reverse_calls g cap n a J W0 ok d w hs (by omega) hb (by omega)
theorem zEq (cap : Nat) (hs : SrtB W0 g ok n d w) (hab : a + 1 < b) (hb : b ≤ n) (h1 : a ≤ pv) (h2 : pv < b) (hn : n ≤ 256) :
    Calls Try.prog 65 #[.slice (some ⟨g, 0, none⟩) n cap, .int .i64 a, .int .i64 b, .int .i64 pv] w fun e w' => e = .returned (.int .i64 (partitionEqual ltB d a b pv).1) ∧ SrtB W0 g ok n (partitionEqual ltB d a b pv).2 w' := by
  obtain ⟨J, rfl⟩ : ∃ J, b = J + 1 := ⟨b - 1, by omega⟩
  exact partEq_calls g cap n a J pv W0 ok d w hs (by omega) (by omega) h1 (by omega) (by omega)
theorem zPart (cap : Nat) (hs : SrtB W0 g ok n d w) (hab : a + 1 < b) (hb : b ≤ n) (h1 : a ≤ pv) (h2 : pv < b) (hn : n ≤ 256) :
    Calls Try.prog 66 #[.slice (some ⟨g, 0, none⟩) n cap, .int .i64 a, .int .i64 b, .int .i64 pv] w fun e w' => e = .returned (.tuple #[.int .i64 (partition ltB d a b pv).1, .bool (partition ltB d a b pv).2.1]) ∧ SrtB W0 g ok n (partition ltB d a b pv).2.2 w' := by
  obtain ⟨J, rfl⟩ : ∃ J, b = J + 1 := ⟨b - 1, by omega⟩
  exact part_calls g cap n a J pv W0 ok d w hs (by omega) (by omega) h1 (by omega) (by omega)
end

set_option maxHeartbeats 16000000 in
theorem pdq_calls (g cap n : Nat) (W0 : World) (ok : Int → Prop) (hg : g < W0.heap.size) (hn : n ≤ 256) : ∀ (N a b limit : Nat) (d : Array Int) (w : World), b - a < N → SrtB W0 g ok n d w → a ≤ b → b ≤ n → limit < 1000 → Below ltB a b d →
    Calls Try.prog 55 #[.slice (some ⟨g, 0, none⟩) n cap, .int .i64 a, .int .i64 b, .int .i64 limit] w fun e w' => e = .returned (.tuple #[]) ∧ SrtB W0 g ok n (pdq ltB d a b limit true true) w' := by
  intro N
  induction N with
  | zero => intro _ _ _ _ _ h; exact absurd h (Nat.not_lt_zero _)
  | succ N ih =>
    intro a b limit d w hN hs0 hab hb hlimit hBel0
    have HS0 := hide hs0
    have IH := hide ih
    have HN := hide hN
    clear hs0 ih hN
    go_enter Try.func55, Try.ntmps55
    go_wp2
    go_loopg [1, 2, 3, 8, 9] (b - a) (fun k s1 s2 s3 s8 s9 wr => ∃ (x y lim : Nat) (wb wp : Bool) (dk : Array Int), s1 = .int .i64 x ∧ s2 = .int .i64 y ∧ s3 = .int .i64 lim ∧ s8 = .bool wb ∧ s9 = .bool wp ∧
      x ≤ y ∧ y ≤ n ∧ y - x ≤ k ∧ k ≤ b - a ∧ lim ≤ limit ∧ Hid (Below ltB x y dk ∧ SrtB W0 g ok n dk wr ∧ pdq ltB dk x y lim wb wp = pdq ltB d a b limit true true))
    case atStart => exact ⟨a, b, limit, true, true, d, rfl, rfl, rfl, rfl, rfl, hab, hb, Nat.le_refl _, Nat.le_refl _, Nat.le_refl _, hide ⟨hBel0, HS0.out, rfl⟩⟩
    case round =>
      obtain ⟨x, y, lim, wb, wp, dk, rfl, rfl, rfl, rfl, rfl, hxy, hy, hk, hkN, hlim, hr⟩ := hrel
      have hBel := hr.out.1
      have hAt := hide hr.out.2.1
      have A := hide hr.out.2.2
      have hds : dk.size = n := hAt.out.size
      clear hr
      by_cases h12 : y - x ≤ 12
      · have h12z : (y : Int) - (x : Int) ≤ 12 := by omega
        have hc := hide (insertion_calls g cap n x y W0 ok dk wr hAt.out hxy hy (by omega))
        go_wp2_with (go_at_call 58; refine hc.out.mono ?_; rintro _ w1 ⟨rfl, hw1⟩)
        (try simp only [Exit.inBlock, Exit.then])
        refine bodyPost_ret (results_none rfl _ _ _) rfl ?_
        exact ⟨rfl, by rw [← A.out, pdq_small h12]; exact hw1⟩
      · have h12z : ¬ ((y : Int) - (x : Int) ≤ 12) := by omega
        by_cases hl0 : lim = 0
        · subst hl0
          have hc := hide (zHeap cap hAt.out h12 hy hn)
          go_wp2_with (go_at_call 59; refine hc.out.mono ?_; rintro _ w1 ⟨rfl, hw1⟩)
          (try simp only [Exit.inBlock, Exit.then])
          refine bodyPost_ret (results_none rfl _ _ _) rfl ?_
          exact ⟨rfl, by rw [← A.out, pdq_heap h12 rfl]; exact hw1⟩
        · have hl0z : ¬ ((lim : Int) = 0) := by omega
          obtain ⟨s1, B1, hc1, s2, B2, hpv, s3, B3⟩ := rd_facts (limit := lim) (wb := wb) (wp := wp) ltB_swo partialInsertionSort_holds reverseRange_holds (show x < y by omega) (show y ≤ dk.size by omega) hBel
          go_upto_if 35 with fail
          go_cut [3] from 19 (fun s3 wc => s3 = .int .i64 (rd ltB dk x y lim wb wp).lim ∧ SrtB W0 g ok n (rd ltB dk x y lim wb wp).d1 wc)
          case first =>
            cases wb
            · have hc := hide (zBreak cap hAt.out hg hxy hy hn)
              go_wp2_with (go_at_call 60; refine hc.out.mono ?_; rintro _ w1 ⟨rfl, hw1⟩)
              go_meet
              case rel =>
                refine ⟨?_, hw1⟩
                show Value.int .i64 ((lim : Int) - 1) = Value.int .i64 ((lim - 1 : Nat) : Int)
                congr 1
                omega
            · go_wp2_with fail
              go_meet
              case rel => exact ⟨rfl, hAt.out⟩
          case rest =>
            obtain ⟨rfl, hA1⟩ := hcut
            have hP : Hid (Calls Try.prog 61 #[.slice (some ⟨g, 0, none⟩) n cap, .int .i64 x, .int .i64 y] wc fun e w' => e = .returned (.tuple #[.int .i64 (rd ltB dk x y lim wb wp).c.1, .int .i64 (hintN (rd ltB dk x y lim wb wp).c.2)]) ∧ SrtB W0 g ok n (rd ltB dk x y lim wb wp).d1 w') := hide (zChoose cap hA1 hg h12 hy hn)
            clear hA1
            go_upto_if 50 with (go_at_call 61; refine hP.out.mono ?_; rintro _ w2 ⟨rfl, hA2⟩)
            have HA2 := hide hA2
            clear hA2 hP hAt
            go_cut [11, 12] from 19 (fun s11 s12 wc => s11 = .int .i64 (rd ltB dk x y lim wb wp).pivot ∧ s12 = .int .i64 (hintN (rd ltB dk x y lim wb wp).hint) ∧ SrtB W0 g ok n (rd ltB dk x y lim wb wp).d2 wc)
            case first =>
              by_cases hh : (rd ltB dk x y lim wb wp).c.2 = .decreasing
              · have hcode : hintN (rd ltB dk x y lim wb wp).c.2 = 2 := by rw [hh]; rfl
                obtain ⟨e2, epv, eht⟩ := rd_dec hh
                have hc := hide (zRev cap HA2.out (show x < y by omega) hy hn)
                go_wp2_with (go_at_call 62; refine hc.out.mono ?_; rintro _ w3 ⟨rfl, hw3⟩)
                go_meet
                case rel =>
                  refine ⟨?_, by rw [eht]; rfl, by rw [e2]; exact hw3⟩
                  rw [epv]
                  congr 1
                  omega
              · have hcode : ¬ (hintN (rd ltB dk x y lim wb wp).c.2 = 2) := fun h => hh (hintN_two h)
                obtain ⟨e2, epv, eht⟩ := rd_not hh
                go_wp2_with fail
                go_meet
                case rel => exact ⟨by rw [epv], by rw [eht], by rw [e2]; exact HA2.out⟩
            case rest =>
              obtain ⟨rfl, rfl, hA3⟩ := hcut
              have HA3 := hide hA3
              clear hA3 HA2
              go_upto_region 15 with fail
              go_cut [12, 68] from 19 (fun s12 s68 wx => s12 = .int .i64 (hintN (rd ltB dk x y lim wb wp).hint) ∧ s68 = .bool (wb && wp && decide ((rd ltB dk x y lim wb wp).hint = .increasing)) ∧ wx = wc)
              case first =>
                cases wb <;> cases wp <;> cases hh3 : (rd ltB dk x y lim _ _).hint <;>
                  (have hcode3 := congrArg hintN hh3
                   simp only [hintN] at hcode3
                   go_wp2_with fail
                   go_meet
                   exact ⟨by simp [hh3, hintN], by simp [hh3, hintN], rfl⟩)
              case rest =>
                obtain ⟨rfl, rfl, rfl⟩ := hcut
                go_upto_if 68 with fail
                go_cut [] from 19 (fun wx => (rd ltB dk x y lim wb wp).pi.2 = false ∧ SrtB W0 g ok n (rd ltB dk x y lim wb wp).pi.1 wx)
                case first =>
                  cases h68 : (wb && wp && decide ((rd ltB dk x y lim wb wp).hint = .increasing))
                  · have epi := rd_pi_no h68
                    go_wp2_with fail
                    go_meet
                    case rel => exact ⟨by rw [epi], by rw [epi]; exact HA3.out⟩
                  · have epi := rd_pi_yes h68
                    have EPI := hide epi
                    have hc := hide (partialIns_calls g cap n x y W0 ok (rd ltB dk x y lim wb wp).d2 wc HA3.out (by omega) hy (by omega))
                    rw [← epi] at hc
                    clear epi
                    go_wp2_with (go_at_call 63; refine hc.out.mono ?_; rintro _ w4 ⟨rfl, hw4⟩)
                    all_goals first
                      | (have hp2 : (rd ltB dk x y lim wb wp).pi.2 = false := by assumption
                         go_meet
                         exact ⟨hp2, hw4⟩)
                      | (have hp2 : (rd ltB dk x y lim wb wp).pi.2 = true := by assumption
                         (try simp only [Exit.inBlock, Exit.then])
                         refine bodyPost_ret (results_none rfl _ _ _) rfl ?_
                         exact ⟨rfl, by rw [← A.out, pdq_done h12 hl0 hp2]; exact hw4⟩)
                case rest =>
                  obtain ⟨hp2, hA5⟩ := hcut
                  have HA5 := hide hA5
                  have hcw : ∀ t, t < n → wc.cell? ⟨g, t, none⟩ = some (.int .u8 (rd ltB dk x y lim wb wp).pi.1[t]!) := fun t ht => hA5.cell t ht
                  clear hA5 HA3
                  go_upto_region 17 with fail
                  go_cut [87] from 19 (fun s87 wx => s87 = .bool (decide (x > 0) && !ltB (rd ltB dk x y lim wb wp).pi.1[x - 1]! (rd ltB dk x y lim wb wp).pi.1[(rd ltB dk x y lim wb wp).pivot]!) ∧ SrtB W0 g ok n (rd ltB dk x y lim wb wp).pi.1 wx)
                  case first =>
                    rcases Nat.eq_zero_or_pos x with ha0 | ha0
                    · have ha0z : decide ((x : Int) > 0) = false := decide_eq_false (by omega)
                      go_big_quiet (first | (go_at_call 64; exact Calls.quiet_of (lessB_calls _ _ _)))
                      go_wp2_with fail
                      go_meet
                      case rel => exact ⟨by simp [ha0], HA5.out.drewN nq⟩
                    · have ha0z : (x : Int) > 0 := by omega
                      obtain ⟨xm, hxm⟩ : ∃ xm, xm = x - 1 := ⟨_, rfl⟩
                      have hxmI : (x : Int) - 1 = (xm : Int) := by omega
                      have y1 := hcw xm (by omega)
                      have y2 := hcw (rd ltB dk x y lim wb wp).pivot (by omega)
                      have zx0 : (0 : Int) ≤ (xm : Int) := by omega
                      have zx1 : (xm : Int) < (n : Int) := by omega
                      have zp0 : (0 : Int) ≤ ((rd ltB dk x y lim wb wp).pivot : Int) := by omega
                      have zp1 : ((rd ltB dk x y lim wb wp).pivot : Int) < (n : Int) := by omega
                      have hLs : Hid (∀ q, Calls Try.prog 64 #[.int .u8 (rd ltB dk x y lim wb wp).pi.1[xm]!, .int .u8 (rd ltB dk x y lim wb wp).pi.1[(rd ltB dk x y lim wb wp).pivot]!] (wc.drewN q) fun e w' => e = .returned (.bool (ltB (rd ltB dk x y lim wb wp).pi.1[xm]! (rd ltB dk x y lim wb wp).pi.1[(rd ltB dk x y lim wb wp).pivot]!)) ∧ ∃ m, w' = (wc.drewN q).drewN m) := hide (fun q => lessB_calls _ _ _)
                      obtain ⟨VX, hVX⟩ : ∃ v, v = (rd ltB dk x y lim wb wp).pi.1[xm]! := ⟨_, rfl⟩
                      obtain ⟨VY, hVY⟩ : ∃ v, v = (rd ltB dk x y lim wb wp).pi.1[(rd ltB dk x y lim wb wp).pivot]! := ⟨_, rfl⟩
                      rw [← hVX, ← hVY] at hLs
                      rw [← hVX] at y1
                      rw [← hVY] at y2
                      have HXM := hide (⟨hxm, hVX, hVY⟩ : _ ∧ _ ∧ _)
                      clear hcw hxm hVX hVY
                      go_big_quiet (first | (go_at_call 64; exact Calls.quiet_of (hLs.out _)))
                      go_wp2_with fail
                      go_meet
                      case rel => exact ⟨by rw [← HXM.out.1, ← HXM.out.2.1, ← HXM.out.2.2]; simp [ha0], HA5.out.drewN nq⟩
                  case rest =>
                    obtain ⟨rfl, hA6⟩ := hcut
                    have HA6 := hide hA6
                    clear hA6 hcw HA5
                    cases h87 : (decide (x > 0) && !ltB (rd ltB dk x y lim wb wp).pi.1[x - 1]! (rd ltB dk x y lim wb wp).pi.1[(rd ltB dk x y lim wb wp).pivot]!)
                    · obtain ⟨mid, ap, d4, hx⟩ : ∃ mid ap d4, partition ltB (rd ltB dk x y lim wb wp).pi.1 x y (rd ltB dk x y lim wb wp).pivot = (mid, ap, d4) := ⟨_, _, _, rfl⟩
                      obtain ⟨r1, r2, r3, r4, r5, r6, r7⟩ := round_part ltB_swo (partition_holds ltB) hpv.1 hpv.2 (show y ≤ (rd ltB dk x y lim wb wp).pi.1.size by omega) B3 hx
                      have hc := hide (zPart cap HA6.out (show x + 1 < y by omega) hy hpv.1 hpv.2 hn)
                      rw [hx] at hc
                      have HX := hide hx
                      clear hx
                      go_upto_if 113 with (go_at_call 66; refine hc.out.mono ?_; rintro _ w7 ⟨rfl, hw7⟩)
                      have HA7 := hide hw7
                      clear hw7 hc HA6
                      by_cases h4 : mid - x < y - mid
                      · have h4z : (mid : Int) - (x : Int) < (y : Int) - (mid : Int) := by omega
                        have hih := hide (IH.out x mid (rd ltB dk x y lim wb wp).lim d4 w7 (by have := HN.out; omega) HA7.out (by omega) (by omega) (Nat.lt_of_le_of_lt (Nat.le_trans rd_lim_le hlim) hlimit) r4)
                        obtain ⟨pL, sL⟩ := pdq_sorts ltB ltB_swo d4 x mid (rd ltB dk x y lim wb wp).lim true true (by omega) (by omega) r4
                        go_wp2_with (go_at_call 55; refine hih.out.mono ?_; rintro _ w8 ⟨rfl, hw8⟩)
                        go_roundg (y - (mid + 1))
                        case measure => omega
                        case rel =>
                          refine ⟨mid + 1, y, (rd ltB dk x y lim wb wp).lim, decide (mid - x ≥ (y - x) / 8), ap, pdq ltB d4 x mid (rd ltB dk x y lim wb wp).lim true true, by simp, rfl, rfl, ?_, rfl, by omega, by omega, Nat.le_refl _, by omega, Nat.le_trans rd_lim_le hlim, hide ⟨(r6 _ pL sL).1, hw8, ?_⟩⟩
                          · exact congrArg Value.bool (eighths (by omega) (by omega))
                          · rw [← A.out, pdq_left h12 hl0 hp2 h87 (by rw [HX.out]; exact ⟨r1, r2⟩) (by rw [HX.out]; exact h4), HX.out]
                      · have h4z : ¬ ((mid : Int) - (x : Int) < (y : Int) - (mid : Int)) := by omega
                        have hih := hide (IH.out (mid + 1) y (rd ltB dk x y lim wb wp).lim d4 w7 (by have := HN.out; omega) HA7.out (by omega) (by omega) (Nat.lt_of_le_of_lt (Nat.le_trans rd_lim_le hlim) hlimit) r5)
                        obtain ⟨pL, sL⟩ := pdq_sorts ltB ltB_swo d4 (mid + 1) y (rd ltB dk x y lim wb wp).lim true true (by omega) (by omega) r5
                        go_wp2_with (go_at_call 55; refine hih.out.mono ?_; rintro _ w8 ⟨rfl, hw8⟩)
                        go_roundg (mid - x)
                        case measure => omega
                        case rel =>
                          refine ⟨x, mid, (rd ltB dk x y lim wb wp).lim, decide (y - mid ≥ (y - x) / 8), ap, pdq ltB d4 (mid + 1) y (rd ltB dk x y lim wb wp).lim true true, rfl, rfl, rfl, ?_, rfl, by omega, by omega, Nat.le_refl _, by omega, Nat.le_trans rd_lim_le hlim, hide ⟨(r7 _ pL sL).1, hw8, ?_⟩⟩
                          · exact congrArg Value.bool (eighths (by omega) (by omega))
                          · rw [← A.out, pdq_right h12 hl0 hp2 h87 (by rw [HX.out]; exact ⟨r1, r2⟩) (by rw [HX.out]; exact h4), HX.out]
                    · have h87' := h87
                      simp only [Bool.and_eq_true, decide_eq_true_eq, Bool.not_eq_true'] at h87'
                      obtain ⟨mid, d4, hx⟩ : ∃ mid d4, partitionEqual ltB (rd ltB dk x y lim wb wp).pi.1 x y (rd ltB dk x y lim wb wp).pivot = (mid, d4) := ⟨_, _, rfl⟩
                      obtain ⟨r1, r2, r3, r4, _⟩ := round_eq ltB_swo (partitionEqual_holds ltB) h87'.1 hpv.1 hpv.2 (show y ≤ (rd ltB dk x y lim wb wp).pi.1.size by omega) B3 h87'.2 hx
                      have hc := hide (zEq cap HA6.out (show x + 1 < y by omega) hy hpv.1 hpv.2 hn)
                      rw [hx] at hc
                      have HX := hide hx
                      clear hx HA6
                      go_wp2_with (go_at_call 65; refine hc.out.mono ?_; rintro _ w7 ⟨rfl, hw7⟩)
                      go_roundg (y - mid)
                      case measure => omega
                      case rel =>
                        exact ⟨mid, y, (rd ltB dk x y lim wb wp).lim, wb, wp, d4, rfl, rfl, rfl, rfl, rfl, r2, hy, Nat.le_refl _, by omega, Nat.le_trans rd_lim_le hlim, hide ⟨r4, hw7, by rw [← A.out, pdq_eq h12 hl0 hp2 h87 (by rw [HX.out]; exact ⟨r1, r2⟩), HX.out]⟩⟩
end Go.Proofs.Ytmbniakobhaomaa

namespace Go.Proofs.Ytmbniakobhaomaa
open Go.ChangeShapes Go.WideShapes Go.ChangeAt Go.RowKit
open Go.Sort (swp PermIn SortedIn pdq bitsLen)
set_option linter.unusedVariables false
set_option maxRecDepth 100000

set_option maxHeartbeats 4000000 in
theorem sort_many : SortBy 256 := by
  intro w base v ks ho hl
  by_cases h12 : ks.length ≤ 12
  · exact sort_few w base v ks ho h12
  have hq : ∀ r : Nat, r ≤ 255 → Calls Try.prog 55 #[v, .int .i64 0, .int .i64 ks.length, .int .i64 r] w fun e w' => e = .returned (.tuple #[]) ∧ ∃ ks' : List UInt8, ks'.Perm ks ∧ ks'.Pairwise (fun a b => a ≤ b) ∧ Sl w' v ks' ∧ Chg (fun y => v.ownBlock = some y) w w' := by
    intro r hr
    have ho0 := ho
    rcases ho.2 with ⟨rfl, h0⟩ | ⟨g, cap, cur, rfl, hb, hg, hc, hm, hs, ht⟩
    · exact absurd h0 (by omega)
    · have hgl : g < w.heap.size := by
        rcases Nat.lt_or_ge g w.heap.size with h | h
        · exact h
        · rw [Array.getElem?_eq_none h] at hg; cases hg
      have hBel : Go.Sort.Below ltB 0 ks.length (byI ks) := .inl rfl
      refine (pdq_calls g cap ks.length w okB hgl hl (ks.length + 1) 0 ks.length r (byI ks) w (by omega) (own_srt ho0) (Nat.zero_le _) (Nat.le_refl _) (by omega) hBel).mono ?_
      rintro _ w' ⟨rfl, hs'⟩
      obtain ⟨ks', h1, h2, h3⟩ := srt_bytes hs'
      obtain ⟨h4, h5⟩ := Go.Sort.pdq_sorts ltB ltB_swo (byI ks) 0 ks.length r true true (Nat.zero_le _) (by rw [byI_size]; exact Nat.le_refl _) hBel
      rw [h2] at h4 h5
      rw [← h1] at h5
      refine ⟨rfl, ks', perm_bytes h4 h1, sorted_bytes h5, ⟨some ⟨g, 0, none⟩, cap, by rw [h1], by rw [h1]; exact hc, hm, rfl, ?_⟩, hs'.chg.mono (fun y _ (e : y = g) => by rw [e]; rfl)⟩
      rw [h1]
      exact .inr ⟨g, 0, rfl, fun i hi => by rw [Nat.zero_add]; exact h3 i hi⟩
  have HQ := hide hq
  obtain ⟨a, cap, hv⟩ : ∃ a cap, v = .slice a ks.length cap := by
    obtain ⟨a, c, h, _⟩ := ho.bts
    exact ⟨a, c, h⟩
  have ew : IntKind.u64.wrap (ks.length : Int) = ks.length := by simp [IntKind.wrap, IntKind.bits, IntKind.signed]; omega
  clear hq ho
  subst hv
  generalize hN : ks.length = N at *
  replace hN := hide hN
  have h9 : bitsLen N ≤ 255 := by have := bitsLen_9 N hl; omega
  go_enter Try.func49, Try.ntmps49
  go_wp2_with fail
  go_at_call 56
  refine (len_at N w hl).mono ?_
  rintro _ w9 ⟨rfl, hw9⟩
  obtain rfl : w = w9 := hw9.symm
  go_wp2_with fail
  go_at_call 55
  refine (HQ.out _ h9).mono ?_
  rintro _ w9 ⟨rfl, hq⟩
  replace hq := hide hq
  clear HQ
  go_wp2
  go_end0
  exact ⟨rfl, hq.out⟩

end Go.Proofs.Ytmbniakobhaomaa
