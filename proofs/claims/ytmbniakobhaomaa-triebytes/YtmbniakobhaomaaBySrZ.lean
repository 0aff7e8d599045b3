/-
  The ordered sort of bytes: pdqsortOrdered of rows of at most 256.
-/
import Derived.Test.YtmbniakobhaomaaBySrB
import Derived.Test.YtmbniakobhaomaaBySrP
import Derived.Test.YtmbniakobhaomaaBySrW
import Derived.Test.YtmbniakobhaomaaBySrE
import Derived.Test.YtmbniakobhaomaaBySrQ
import Derived.Test.YtmbniakobhaomaaBySrH
import Derived.Test.YtmbniakobhaomaaBySrI
import Derived.Sort.Walk13a
import Derived.Sort.AssemblyPlain
import Derived.Deep.Cut
import Derived.Deep.CutRange
import Derived.Deep.LoopGhost
import Derived.BigQuiet
namespace Go.Proofs.Ytmbniakobhaomaa
open Go.ChangeShapes Go.WideShapes Go.ChangeAt Go.RowKit Go.Sort
set_option linter.unusedVariables false
set_option maxRecDepth 1000000

theorem hintN_two {h : Hint} (e : hintN h = 2) : h = .decreasing := by cases h <;> simp [hintN] at e ⊢
theorem eighths {x y p q : Nat} (h1 : q ≤ p) (h2 : y ≤ x) : decide (((x : Int) - (y : Int)) / 8 ≤ (p : Int) - (q : Int)) = decide (p - q ≥ (x - y) / 8) :=
  decide_eq_decide.2 ⟨fun h => by omega, fun h => by omega⟩

/-! The pieces, by where they begin and end. -/
section
variable {g n a b pv : Nat} {W0 w : World} {ok : Int → Prop} {d : Array Int}
theorem zHeap (cap : Nat) (hs : SrtB W0 g ok n d w) (h12 : ¬ b - a ≤ 12) (hb : b ≤ n) (hn : n ≤ 256) :
    Calls Try.prog 59 #[.slice (some ⟨g, 0, none⟩) n cap, .int .i64 a, .int .i64 b] w fun e w' => e = .returned (.tuple #[]) ∧ SrtB W0 g ok n (Go.Sort.heapSort ltB d a b) w' := by
  obtain ⟨L, rfl⟩ : ∃ L, b = a + L := ⟨b - a, by omega⟩
  exact heap_calls g cap n a L W0 ok d w hs (by omega) hb (by omega)
theorem zBreak (cap : Nat) (hs : SrtB W0 g ok n d w) (hg : g < W0.heap.size) (hab : a ≤ b) (hb : b ≤ n) (hn : n ≤ 256) :
    Calls Try.prog 60 #[.slice (some ⟨g, 0, none⟩) n cap, .int .i64 a, .int .i64 b] w fun e w' => e = .returned (.tuple #[]) ∧ SrtB W0 g ok n (breakPatterns d a b) w' := by
  obtain ⟨L, rfl⟩ : ∃ L, b = a + L := ⟨b - a, by omega⟩
  exact break_calls g cap n a L W0 ok d w hs hg hb hn
theorem zChoose (cap : Nat) (hs : SrtB W0 g ok n d w) (hg : g < W0.heap.size) (h12 : ¬ b - a ≤ 12) (hb : b ≤ n) (hn : n ≤ 256) :
    Calls Try.prog 61 #[.slice (some ⟨g, 0, none⟩) n cap, .int .i64 a, .int .i64 b] w fun e w' => e = .returned (.tuple #[.int .i64 (choosePivot ltB d a b).1, .int .i64 (hintN (choosePivot ltB d a b).2)]) ∧ SrtB W0 g ok n d w' := by
  obtain ⟨L, rfl⟩ : ∃ L, b = a + L := ⟨b - a, by omega⟩
  exact choose_calls g cap n a L W0 ok d w hs hg (by omega) hb (by omega)
theorem zRev (cap : Nat) (hs : SrtB W0 g ok n d w) (hab : a < b) (hb : b ≤ n) (hn : n ≤ 256) :
    Calls Try.prog 62 #[.slice (some ⟨g, 0, none⟩) n cap, .int .i64 a, .int .i64 b] w fun e w' => e = .returned (.tuple #[]) ∧ SrtB W0 g ok n (Go.Sort.reverseRange d a b) w' := by
  obtain ⟨J, rfl⟩ : ∃ J, b = J + 1 := ⟨b - 1, by omega⟩
  exact reverse_calls g cap n a J W0 ok d w hs (by omega) hb (by omega)
theorem zEq (cap : Nat) (hs : SrtB W0 g ok n d w) (hab : a + 1 < b) (hb : b ≤ n) (h1 : a ≤ pv) (h2 : pv < b) (hn : n ≤ 256) :
    Calls Try.prog 65 #[.slice (some ⟨g, 0, none⟩) n cap, .int .i64 a, .int .i64 b, .int .i64 pv] w fun e w' => e = .returned (.int .i64 (partitionEqual ltB d a b pv).1) ∧ SrtB W0 g ok n (partitionEqual ltB d a b pv).2 w' := by
  obtain ⟨J, rfl⟩ : ∃ J, b = J + 1 := ⟨b - 1, by omega⟩
  exact partEq_calls g cap n a J pv W0 ok d w hs (by omega) (by omega) h1 (by omega) (by omega)
theorem zPart (cap : Nat) (hs : SrtB W0 g ok n d w) (hab : a + 1 < b) (hb : b ≤ n) (h1 : a ≤ pv) (h2 : pv < b) (hn : n ≤ 256) :
    Calls Try.prog 66 #[.slice (some ⟨g, 0, none⟩) n cap, .int .i64 a, .int .i64 b, .int .i64 pv] w fun e w' => e = .returned (.tuple #[.int .i64 (partition ltB d a b pv).1, .bool (partition ltB d a b pv).2.1]) ∧ SrtB W0 g ok n (partition ltB d a b pv).2.2 w' := by
  obtain ⟨J, rfl⟩ : ∃ J, b = J + 1 := ⟨b - 1, by omega⟩
  exact part_calls g cap n a J pv W0 ok d w hs (by omega) (by omega) h1 (by omega) (by omega)
end

set_option maxHeartbeats 16000000 in
theorem pdq_calls (g cap n : Nat) (W0 : World) (ok : Int → Prop) (hg : g < W0.heap.size) (hn : n ≤ 256) : ∀ (N a b limit : Nat) (d : Array Int) (w : World), b - a < N → SrtB W0 g ok n d w → a ≤ b → b ≤ n → limit < 1000 → Below ltB a b d →
    Calls Try.prog 55 #[.slice (some ⟨g, 0, none⟩) n cap, .int .i64 a, .int .i64 b, .int .i64 limit] w fun e w' => e = .returned (.tuple #[]) ∧ SrtB W0 g ok n (pdq ltB d a b limit true true) w' := by
  intro N
  induction N with
  | zero => intro _ _ _ _ _ h; exact absurd h (Nat.not_lt_zero _)
  | succ N ih =>
    intro a b limit d w hN hs0 hab hb hlimit hBel0
    have HS0 := hide hs0
    have IH := hide ih
    have HN := hide hN
    clear hs0 ih hN
    go_enter Try.func55, Try.ntmps55
    go_wp2
    go_loopg [1, 2, 3, 8, 9] (b - a) (fun k s1 s2 s3 s8 s9 wr => ∃ (x y lim : Nat) (wb wp : Bool) (dk : Array Int), s1 = .int .i64 x ∧ s2 = .int .i64 y ∧ s3 = .int .i64 lim ∧ s8 = .bool wb ∧ s9 = .bool wp ∧
      x ≤ y ∧ y ≤ n ∧ y - x ≤ k ∧ k ≤ b - a ∧ lim ≤ limit ∧ Hid (Below ltB x y dk ∧ SrtB W0 g ok n dk wr ∧ pdq ltB dk x y lim wb wp = pdq ltB d a b limit true true))
    case atStart => exact ⟨a, b, limit, true, true, d, rfl, rfl, rfl, rfl, rfl, hab, hb, Nat.le_refl _, Nat.le_refl _, Nat.le_refl _, hide ⟨hBel0, HS0.out, rfl⟩⟩
    case round =>
      obtain ⟨x, y, lim, wb, wp, dk, rfl, rfl, rfl, rfl, rfl, hxy, hy, hk, hkN, hlim, hr⟩ := hrel
      have hBel := hr.out.1
      have hAt := hide hr.out.2.1
      have A := hide hr.out.2.2
      have hds : dk.size = n := hAt.out.size
      clear hr
      by_cases h12 : y - x ≤ 12
      · have h12z : (y : Int) - (x : Int) ≤ 12 := by omega
        have hc := hide (insertion_calls g cap n x y W0 ok dk wr hAt.out hxy hy (by omega))
        go_wp2_with (go_at_call 58; refine hc.out.mono ?_; rintro _ w1 ⟨rfl, hw1⟩)
        (try simp only [Exit.inBlock, Exit.then])
        refine bodyPost_ret (results_none rfl _ _ _) rfl ?_
        exact ⟨rfl, by rw [← A.out, pdq_small h12]; exact hw1⟩
      · have h12z : ¬ ((y : Int) - (x : Int) ≤ 12) := by omega
        by_cases hl0 : lim = 0
        · subst hl0
          have hc := hide (zHeap cap hAt.out h12 hy hn)
          go_wp2_with (go_at_call 59; refine hc.out.mono ?_; rintro _ w1 ⟨rfl, hw1⟩)
          (try simp only [Exit.inBlock, Exit.then])
          refine bodyPost_ret (results_none rfl _ _ _) rfl ?_
          exact ⟨rfl, by rw [← A.out, pdq_heap h12 rfl]; exact hw1⟩
        · have hl0z : ¬ ((lim : Int) = 0) := by omega
          obtain ⟨s1, B1, hc1, s2, B2, hpv, s3, B3⟩ := rd_facts (limit := lim) (wb := wb) (wp := wp) ltB_swo partialInsertionSort_holds reverseRange_holds (show x < y by omega) (show y ≤ dk.size by omega) hBel
          go_upto_if 35 with fail
          go_cut [3] from 19 (fun s3 wc => s3 = .int .i64 (rd ltB dk x y lim wb wp).lim ∧ SrtB W0 g ok n (rd ltB dk x y lim wb wp).d1 wc)
          case first =>
            cases wb
            · have hc := hide (zBreak cap hAt.out hg hxy hy hn)
              go_wp2_with (go_at_call 60; refine hc.out.mono ?_; rintro _ w1 ⟨rfl, hw1⟩)
              go_meet
              case rel =>
                refine ⟨?_, hw1⟩
                show Value.int .i64 ((lim : Int) - 1) = Value.int .i64 ((lim - 1 : Nat) : Int)
                congr 1
                omega
            · go_wp2_with fail
              go_meet
              case rel => exact ⟨rfl, hAt.out⟩
          case rest =>
            obtain ⟨rfl, hA1⟩ := hcut
            have hP : Hid (Calls Try.prog 61 #[.slice (some ⟨g, 0, none⟩) n cap, .int .i64 x, .int .i64 y] wc fun e w' => e = .returned (.tuple #[.int .i64 (rd ltB dk x y lim wb wp).c.1, .int .i64 (hintN (rd ltB dk x y lim wb wp).c.2)]) ∧ SrtB W0 g ok n (rd ltB dk x y lim wb wp).d1 w') := hide (zChoose cap hA1 hg h12 hy hn)
            clear hA1
            go_upto_if 50 with (go_at_call 61; refine hP.out.mono ?_; rintro _ w2 ⟨rfl, hA2⟩)
            have HA2 := hide hA2
            clear hA2 hP hAt
            go_cut [11, 12] from 19 (fun s11 s12 wc => s11 = .int .i64 (rd ltB dk x y lim wb wp).pivot ∧ s12 = .int .i64 (hintN (rd ltB dk x y lim wb wp).hint) ∧ SrtB W0 g ok n (rd ltB dk x y lim wb wp).d2 wc)
            case first =>
              by_cases hh : (rd ltB dk x y lim wb wp).c.2 = .decreasing
              · have hcode : hintN (rd ltB dk x y lim wb wp).c.2 = 2 := by rw [hh]; rfl
                obtain ⟨e2, epv, eht⟩ := rd_dec hh
                have hc := hide (zRev cap HA2.out (show x < y by omega) hy hn)
                go_wp2_with (go_at_call 62; refine hc.out.mono ?_; rintro _ w3 ⟨rfl, hw3⟩)
                go_meet
                case rel =>
                  refine ⟨?_, by rw [eht]; rfl, by rw [e2]; exact hw3⟩
                  rw [epv]
                  congr 1
                  omega
              · have hcode : ¬ (hintN (rd ltB dk x y lim wb wp).c.2 = 2) := fun h => hh (hintN_two h)
                obtain ⟨e2, epv, eht⟩ := rd_not hh
                go_wp2_with fail
                go_meet
                case rel => exact ⟨by rw [epv], by rw [eht], by rw [e2]; exact HA2.out⟩
            case rest =>
              obtain ⟨rfl, rfl, hA3⟩ := hcut
              have HA3 := hide hA3
              clear hA3 HA2
              go_upto_region 15 with fail
              go_cut [12, 68] from 19 (fun s12 s68 wx => s12 = .int .i64 (hintN (rd ltB dk x y lim wb wp).hint) ∧ s68 = .bool (wb && wp && decide ((rd ltB dk x y lim wb wp).hint = .increasing)) ∧ wx = wc)
              case first =>
                cases wb <;> cases wp <;> cases hh3 : (rd ltB dk x y lim _ _).hint <;>
                  (have hcode3 := congrArg hintN hh3
                   simp only [hintN] at hcode3
                   go_wp2_with fail
                   go_meet
                   exact ⟨by simp [hh3, hintN], by simp [hh3, hintN], rfl⟩)
              case rest =>
                obtain ⟨rfl, rfl, rfl⟩ := hcut
                go_upto_if 68 with fail
                go_cut [] from 19 (fun wx => (rd ltB dk x y lim wb wp).pi.2 = false ∧ SrtB W0 g ok n (rd ltB dk x y lim wb wp).pi.1 wx)
                case first =>
                  cases h68 : (wb && wp && decide ((rd ltB dk x y lim wb wp).hint = .increasing))
                  · have epi := rd_pi_no h68
                    go_wp2_with fail
                    go_meet
                    case rel => exact ⟨by rw [epi], by rw [epi]; exact HA3.out⟩
                  · have epi := rd_pi_yes h68
                    have EPI := hide epi
                    have hc := hide (partialIns_calls g cap n x y W0 ok (rd ltB dk x y lim wb wp).d2 wc HA3.out (by omega) hy (by omega))
                    rw [← epi] at hc
                    clear epi
                    go_wp2_with (go_at_call 63; refine hc.out.mono ?_; rintro _ w4 ⟨rfl, hw4⟩)
                    all_goals first
                      | (have hp2 : (rd ltB dk x y lim wb wp).pi.2 = false := by assumption
                         go_meet
                         exact ⟨hp2, hw4⟩)
                      | (have hp2 : (rd ltB dk x y lim wb wp).pi.2 = true := by assumption
                         (try simp only [Exit.inBlock, Exit.then])
                         refine bodyPost_ret (results_none rfl _ _ _) rfl ?_
                         exact ⟨rfl, by rw [← A.out, pdq_done h12 hl0 hp2]; exact hw4⟩)
                case rest =>
                  obtain ⟨hp2, hA5⟩ := hcut
                  have HA5 := hide hA5
                  have hcw : ∀ t, t < n → wc.cell? ⟨g, t, none⟩ = some (.int .u8 (rd ltB dk x y lim wb wp).pi.1[t]!) := fun t ht => hA5.cell t ht
                  clear hA5 HA3
                  go_upto_region 17 with fail
                  go_cut [87] from 19 (fun s87 wx => s87 = .bool (decide (x > 0) && !ltB (rd ltB dk x y lim wb wp).pi.1[x - 1]! (rd ltB dk x y lim wb wp).pi.1[(rd ltB dk x y lim wb wp).pivot]!) ∧ SrtB W0 g ok n (rd ltB dk x y lim wb wp).pi.1 wx)
                  case first =>
                    rcases Nat.eq_zero_or_pos x with ha0 | ha0
                    · have ha0z : decide ((x : Int) > 0) = false := decide_eq_false (by omega)
                      go_big_quiet (first | (go_at_call 64; exact Calls.quiet_of (lessB_calls _ _ _)))
                      go_wp2_with fail
                      go_meet
                      case rel => exact ⟨by simp [ha0], HA5.out.drewN nq⟩
                    · have ha0z : (x : Int) > 0 := by omega
                      obtain ⟨xm, hxm⟩ : ∃ xm, xm = x - 1 := ⟨_, rfl⟩
                      have hxmI : (x : Int) - 1 = (xm : Int) := by omega
                      have y1 := hcw xm (by omega)
                      have y2 := hcw (rd ltB dk x y lim wb wp).pivot (by omega)
                      have zx0 : (0 : Int) ≤ (xm : Int) := by omega
                      have zx1 : (xm : Int) < (n : Int) := by omega
                      have zp0 : (0 : Int) ≤ ((rd ltB dk x y lim wb wp).pivot : Int) := by omega
                      have zp1 : ((rd ltB dk x y lim wb wp).pivot : Int) < (n : Int) := by omega
                      have hLs : Hid (∀ q, Calls Try.prog 64 #[.int .u8 (rd ltB dk x y lim wb wp).pi.1[xm]!, .int .u8 (rd ltB dk x y lim wb wp).pi.1[(rd ltB dk x y lim wb wp).pivot]!] (wc.drewN q) fun e w' => e = .returned (.bool (ltB (rd ltB dk x y lim wb wp).pi.1[xm]! (rd ltB dk x y lim wb wp).pi.1[(rd ltB dk x y lim wb wp).pivot]!)) ∧ ∃ m, w' = (wc.drewN q).drewN m) := hide (fun q => lessB_calls _ _ _)
                      obtain ⟨VX, hVX⟩ : ∃ v, v = (rd ltB dk x y lim wb wp).pi.1[xm]! := ⟨_, rfl⟩
                      obtain ⟨VY, hVY⟩ : ∃ v, v = (rd ltB dk x y lim wb wp).pi.1[(rd ltB dk x y lim wb wp).pivot]! := ⟨_, rfl⟩
                      rw [← hVX, ← hVY] at hLs
                      rw [← hVX] at y1
                      rw [← hVY] at y2
                      have HXM := hide (⟨hxm, hVX, hVY⟩ : _ ∧ _ ∧ _)
                      clear hcw hxm hVX hVY
                      go_big_quiet (first | (go_at_call 64; exact Calls.quiet_of (hLs.out _)))
                      go_wp2_with fail
                      go_meet
                      case rel => exact ⟨by rw [← HXM.out.1, ← HXM.out.2.1, ← HXM.out.2.2]; simp [ha0], HA5.out.drewN nq⟩
                  case rest =>
                    obtain ⟨rfl, hA6⟩ := hcut
                    have HA6 := hide hA6
                    clear hA6 hcw HA5
                    cases h87 : (decide (x > 0) && !ltB (rd ltB dk x y lim wb wp).pi.1[x - 1]! (rd ltB dk x y lim wb wp).pi.1[(rd ltB dk x y lim wb wp).pivot]!)
                    · obtain ⟨mid, ap, d4, hx⟩ : ∃ mid ap d4, partition ltB (rd ltB dk x y lim wb wp).pi.1 x y (rd ltB dk x y lim wb wp).pivot = (mid, ap, d4) := ⟨_, _, _, rfl⟩
                      obtain ⟨r1, r2, r3, r4, r5, r6, r7⟩ := round_part ltB_swo (partition_holds ltB) hpv.1 hpv.2 (show y ≤ (rd ltB dk x y lim wb wp).pi.1.size by omega) B3 hx
                      have hc := hide (zPart cap HA6.out (show x + 1 < y by omega) hy hpv.1 hpv.2 hn)
                      rw [hx] at hc
                      have HX := hide hx
                      clear hx
                      go_upto_if 113 with (go_at_call 66; refine hc.out.mono ?_; rintro _ w7 ⟨rfl, hw7⟩)
                      have HA7 := hide hw7
                      clear hw7 hc HA6
                      by_cases h4 : mid - x < y - mid
                      · have h4z : (mid : Int) - (x : Int) < (y : Int) - (mid : Int) := by omega
                        have hih := hide (IH.out x mid (rd ltB dk x y lim wb wp).lim d4 w7 (by have := HN.out; omega) HA7.out (by omega) (by omega) (Nat.lt_of_le_of_lt (Nat.le_trans rd_lim_le hlim) hlimit) r4)
                        obtain ⟨pL, sL⟩ := pdq_sorts ltB ltB_swo d4 x mid (rd ltB dk x y lim wb wp).lim true true (by omega) (by omega) r4
                        go_wp2_with (go_at_call 55; refine hih.out.mono ?_; rintro _ w8 ⟨rfl, hw8⟩)
                        go_roundg (y - (mid + 1))
                        case measure => omega
                        case rel =>
                          refine ⟨mid + 1, y, (rd ltB dk x y lim wb wp).lim, decide (mid - x ≥ (y - x) / 8), ap, pdq ltB d4 x mid (rd ltB dk x y lim wb wp).lim true true, by simp, rfl, rfl, ?_, rfl, by omega, by omega, Nat.le_refl _, by omega, Nat.le_trans rd_lim_le hlim, hide ⟨(r6 _ pL sL).1, hw8, ?_⟩⟩
                          · exact congrArg Value.bool (eighths (by omega) (by omega))
                          · rw [← A.out, pdq_left h12 hl0 hp2 h87 (by rw [HX.out]; exact ⟨r1, r2⟩) (by rw [HX.out]; exact h4), HX.out]
                      · have h4z : ¬ ((mid : Int) - (x : Int) < (y : Int) - (mid : Int)) := by omega
                        have hih := hide (IH.out (mid + 1) y (rd ltB dk x y lim wb wp).lim d4 w7 (by have := HN.out; omega) HA7.out (by omega) (by omega) (Nat.lt_of_le_of_lt (Nat.le_trans rd_lim_le hlim) hlimit) r5)
                        obtain ⟨pL, sL⟩ := pdq_sorts ltB ltB_swo d4 (mid + 1) y (rd ltB dk x y lim wb wp).lim true true (by omega) (by omega) r5
                        go_wp2_with (go_at_call 55; refine hih.out.mono ?_; rintro _ w8 ⟨rfl, hw8⟩)
                        go_roundg (mid - x)
                        case measure => omega
                        case rel =>
                          refine ⟨x, mid, (rd ltB dk x y lim wb wp).lim, decide (y - mid ≥ (y - x) / 8), ap, pdq ltB d4 (mid + 1) y (rd ltB dk x y lim wb wp).lim true true, rfl, rfl, rfl, ?_, rfl, by omega, by omega, Nat.le_refl _, by omega, Nat.le_trans rd_lim_le hlim, hide ⟨(r7 _ pL sL).1, hw8, ?_⟩⟩
                          · exact congrArg Value.bool (eighths (by omega) (by omega))
                          · rw [← A.out, pdq_right h12 hl0 hp2 h87 (by rw [HX.out]; exact ⟨r1, r2⟩) (by rw [HX.out]; exact h4), HX.out]
                    · have h87' := h87
                      simp only [Bool.and_eq_true, decide_eq_true_eq, Bool.not_eq_true'] at h87'
                      obtain ⟨mid, d4, hx⟩ : ∃ mid d4, partitionEqual ltB (rd ltB dk x y lim wb wp).pi.1 x y (rd ltB dk x y lim wb wp).pivot = (mid, d4) := ⟨_, _, rfl⟩
                      obtain ⟨r1, r2, r3, r4, _⟩ := round_eq ltB_swo (partitionEqual_holds ltB) h87'.1 hpv.1 hpv.2 (show y ≤ (rd ltB dk x y lim wb wp).pi.1.size by omega) B3 h87'.2 hx
                      have hc := hide (zEq cap HA6.out (show x + 1 < y by omega) hy hpv.1 hpv.2 hn)
                      rw [hx] at hc
                      have HX := hide hx
                      clear hx HA6
                      go_wp2_with (go_at_call 65; refine hc.out.mono ?_; rintro _ w7 ⟨rfl, hw7⟩)
                      go_roundg (y - mid)
                      case measure => omega
                      case rel =>
                        exact ⟨mid, y, (rd ltB dk x y lim wb wp).lim, wb, wp, d4, rfl, rfl, rfl, rfl, rfl, r2, hy, Nat.le_refl _, by omega, Nat.le_trans rd_lim_le hlim, hide ⟨r4, hw7, by rw [← A.out, pdq_eq h12 hl0 hp2 h87 (by rw [HX.out]; exact ⟨r1, r2⟩), HX.out]⟩⟩
end Go.Proofs.Ytmbniakobhaomaa
