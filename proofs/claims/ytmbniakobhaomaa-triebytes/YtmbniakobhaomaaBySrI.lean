/-
  The library's insertion sort and reverseRange at a row of slots.
-/
import Derived.Test.YtmbniakobhaomaaBySrt
namespace Go.Proofs.Ytmbniakobhaomaa
open Go.ChangeShapes Go.WideShapes Go.ChangeAt Go.RowKit
open Go.Sort (swp insInner insOuter reverseLoop)
set_option linter.unusedVariables false
variable {lt : Int → Int → Bool}

theorem insI_go (a j : Nat) (d : Array Int) (hj : a < j + 1) (hl : lt d[j + 1]! d[j]! = true) : insInner lt a (j + 1) d = insInner lt a j (swp d (j + 1) j) := by
  rw [insInner, if_pos (by simp [hl]; omega)]
theorem insI_stop (a j : Nat) (d : Array Int) (hl : j = 0 ∨ j ≤ a ∨ lt d[j]! d[j - 1]! = false) : insInner lt a j d = d := by
  match j, hl with
  | 0, _ => rfl
  | j + 1, h =>
    rw [insInner, if_neg]
    simp only [Bool.and_eq_true, decide_eq_true_eq, not_and, Bool.not_eq_true]
    intro h1
    rcases h with h | h | h
    · omega
    · omega
    · exact h

set_option maxRecDepth 20000 in
set_option maxHeartbeats 16000000 in
theorem insertion_calls (g cap n a b : Nat) (W0 : World) (ok : Int → Prop) (d : Array Int) (w : World) (hs : SrtB W0 g ok n d w) (hab : a ≤ b) (hb : b ≤ n) (hn : n ≤ 100000) :
    Calls Try.prog 58 #[.slice (some ⟨g, 0, none⟩) n cap, .int .i64 a, .int .i64 b] w fun e w' => e = .returned (.tuple #[]) ∧ SrtB W0 g ok n (Go.Sort.insertionSort ltB d a b) w' := by
  have HS := hide hs
  clear hs
  go_enter Try.func58, Try.ntmps58
  go_wp2_with fail
  go_loopw [6] (fun u wr => ∃ (i : Nat) (dk : Array Int), u = .int .i64 i ∧ a < i ∧ i ≤ b + 1 ∧ SrtB W0 g ok n dk wr ∧ Hid (insOuter ltB a b i dk = insOuter ltB a b (a + 1) d)) (fun u _ => b + 1 - (intOf u).toNat)
  case atStart => exact ⟨a + 1, d, by go_num, by omega, by omega, HS.out, rfl⟩
  case round =>
    obtain ⟨i, dk, rfl, hai, hib, hsk, HO⟩ := hrel
    have HK := hide hsk
    clear hsk
    by_cases hlt : i < b
    · have t1 : decide ((i : Int) < b) = true := decide_eq_true (by omega)
      go_wp2_with fail
      go_loopw [7] (fun u wr => ∃ (j : Nat) (dj : Array Int), u = .int .i64 j ∧ a ≤ j ∧ j ≤ i ∧ SrtB W0 g ok n dj wr ∧ Hid (insInner ltB a j dj = insInner ltB a i dk)) (fun u _ => (intOf u).toNat)
      case atStart => exact ⟨i, dk, rfl, by omega, Nat.le_refl _, HK.out, rfl⟩
      case round =>
        obtain ⟨j, dj, rfl, haj, hji, hsj, HI⟩ := hrel
        have HJ := hide hsj
        clear hsj
        by_cases hja : a < j
        · obtain ⟨j, rfl⟩ : ∃ q, j = q + 1 := ⟨j - 1, by omega⟩
          have t2 : decide (((j : Nat) : Int) + 1 > (a : Int)) = true := decide_eq_true (by omega)
          have y1 := HJ.out.cell (j + 1) (by omega)
          have y0 := HJ.out.cell j (by omega)
          have f1 := HJ.out.froz (j + 1) (by omega)
          have f0 := HJ.out.froz j (by omega)
          have hcm : Hid (∀ q, Calls Try.prog 64 #[.int .u8 dj[j + 1]!, .int .u8 dj[j]!] (wr.drewN q) fun e w' => e = .returned (.bool (ltB dj[j + 1]! dj[j]!)) ∧ ∃ m, w' = (wr.drewN q).drewN m) := fun q => lessB_calls _ _ _
          have hneg : True := trivial
          have hswp : Hid (∀ q, SrtB W0 g ok n (swp dj (j + 1) j) (((wr.drewN q).setCell ⟨g, j + 1, none⟩ (.int .u8 dj[j]!)).setCell ⟨g, j, none⟩ (.int .u8 dj[j + 1]!))) := fun q => (HJ.out.drewN q).swap (by omega) (by omega)
          have hgo := insI_go (lt := ltB) a j dj (by omega)
          have hst := insI_stop (lt := ltB) a (j + 1) dj
          generalize hX : dj[j + 1]! = X at y1 hcm hneg hswp hgo hst
          generalize hY : dj[j]! = Y at y0 hcm hneg hswp hgo hst
          have jz : (j : Int) + 1 < n := by omega
          have jz0 : (j : Int) < n := by omega
          have jz1 : (a : Int) < (j : Int) + 1 := by omega
          cases hl : ltB X Y with
          | true =>
            rw [hl] at hcm hgo
            have HGO := hide (hgo rfl)
            clear hgo hst hX hY
            go_wp2_with fail
            go_quiet ((go_at_call 64; exact Calls.quiet_of (hcm.out _)))
            go_wp2_with fail
            go_region
            all_goals
              go_wp2
              go_roundw
              case rel => exact ⟨j, swp dj (j + 1) j, by go_num, by omega, by omega, (by first | exact hswp.out _ | exact (hswp.out _).drewN _ | exact (hswp.out _).drew), by show _ = _; rw [← HGO.out]; exact HI.out⟩
              case measure => simp [intOf]
          | false =>
            rw [hl] at hcm
            have HST : Hid (insInner ltB a (j + 1) dj = dj) := hst (.inr (.inr (by rw [Nat.add_sub_cancel, hY]; exact hl)))
            have HOUT : Hid (insOuter ltB a b (i + 1) dj = insOuter ltB a b (a + 1) d) := by
              show _ = _
              rw [← HO.out, insOuter.eq_1 ltB a b i dk, if_pos hlt, ← HI.out, HST.out]
            clear hgo hst hX hY
            go_wp2_with fail
            go_quiet ((go_at_call 64; exact Calls.quiet_of (hcm.out _)))
            go_wp2
            go_roundw
            case rel => exact ⟨i + 1, dj, by go_num, by omega, by omega, (HJ.out.drewN _), HOUT.out⟩
            case measure => simp [intOf]; omega
        · have t2 : decide ((j : Int) > (a : Int)) = false := decide_eq_false (by omega)
          have HOUT : Hid (insOuter ltB a b (i + 1) dj = insOuter ltB a b (a + 1) d) := by
            show _ = _
            rw [← HO.out, insOuter.eq_1 ltB a b i dk, if_pos hlt, ← HI.out, insI_stop a j dj (.inr (.inl (by omega)))]
          go_wp2_with fail
          go_quiet (fail)
          go_wp2
          go_roundw
          case rel => exact ⟨i + 1, dj, by go_num, by omega, by omega, (HJ.out.drewN _), HOUT.out⟩
          case measure => simp [intOf]; omega
    · have t1 : decide ((i : Int) < b) = false := decide_eq_false (by omega)
      have HOUT : Hid (dk = Go.Sort.insertionSort ltB d a b) := by
        show _ = _
        unfold Go.Sort.insertionSort
        rw [← HO.out, insOuter.eq_1 ltB a b i dk, if_neg hlt]
      go_wp2
      go_end0
      exact ⟨rfl, by rw [← HOUT.out]; exact HK.out⟩

end Go.Proofs.Ytmbniakobhaomaa
