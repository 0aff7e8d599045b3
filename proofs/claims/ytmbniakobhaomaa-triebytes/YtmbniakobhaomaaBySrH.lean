/-
  The library's heapSort at a row of slots.
-/
import Derived.Test.YtmbniakobhaomaaBySrD
namespace Go.Proofs.Ytmbniakobhaomaa
open Go.ChangeShapes Go.WideShapes Go.ChangeAt Go.RowKit
open Go.Sort (swp siftDown heapBuild heapPop)
set_option linter.unusedVariables false

set_option maxRecDepth 20000 in
set_option maxHeartbeats 16000000 in
theorem heap_calls (g cap n a L : Nat) (W0 : World) (ok : Int → Prop) (d : Array Int) (w : World) (hs : SrtB W0 g ok n d w) (hL : 12 < L) (hb : a + L ≤ n) (hn : n ≤ 100000) :
    Calls Try.prog 59 #[.slice (some ⟨g, 0, none⟩) n cap, .int .i64 a, .int .i64 ((a + L : Nat) : Int)] w fun e w' => e = .returned (.tuple #[]) ∧ SrtB W0 g ok n (Go.Sort.heapSort ltB d a (a + L)) w' := by
  have HS := hide hs
  clear hs
  have hm : Go.Sort.heapSort ltB d a (a + L) = heapPop ltB a L (heapBuild ltB L a ((L - 1) / 2 + 1) d) := by
    unfold Go.Sort.heapSort
    rw [Nat.add_sub_cancel_left]
  rw [hm]
  clear hm
  obtain ⟨K, hK⟩ : ∃ K, K = (L - 1) / 2 := ⟨_, rfl⟩
  rw [← hK]
  obtain ⟨b, hbL⟩ : ∃ b, b = a + L := ⟨_, rfl⟩
  rw [← hbL]
  have eL : ((b : Int) - (a : Int)) = L := by omega
  have eK : ((L : Int) - 1).tdiv 2 = K := by rw [Int.tdiv_eq_ediv_of_nonneg (by omega)]; omega
  have eK2 : ((L : Int) - 1) / 2 = K := by omega
  have hKn : K + 1 ≤ n := by omega
  obtain ⟨D1, hD1⟩ : ∃ D1, D1 = heapBuild ltB L a (K + 1) d := ⟨_, rfl⟩
  rw [← hD1]
  have HD1 := hide hD1
  clear hD1 hK hbL
  go_enter Try.func59, Try.ntmps59
  go_wp2_with fail
  --H1
  go_loopw [9] (fun u wr => ∃ (k : Nat) (dk : Array Int), u = .int .i64 ((k : Int) - 1) ∧ k ≤ n ∧ SrtB W0 g ok n dk wr ∧ Hid (heapBuild ltB L a k dk = D1)) (fun u _ => ((intOf u) + 1).toNat)
  case atStart => exact ⟨K + 1, d, by go_num, hKn, HS.out, HD1.out.symm⟩
  case round =>
    obtain ⟨k, dk, rfl, hk, hsk, HO⟩ := hrel
    have HK := hide hsk
    clear hsk
    by_cases hk0 : k = 0
    · subst hk0
      have hdk : dk = D1 := HO.out
      subst hdk
      clear HO HD1 HS
      rw [show ((0 : Nat) : Int) - 1 = -1 by omega]
      --H2
      go_wp2_with fail
      go_loopw [10] (fun u wr => ∃ (k : Nat) (dj : Array Int), u = .int .i64 ((k : Int) - 1) ∧ k ≤ L ∧ SrtB W0 g ok n dj wr ∧ Hid (heapPop ltB a k dj = heapPop ltB a L dk)) (fun u _ => ((intOf u) + 1).toNat)
      case atStart => exact ⟨L, dk, by go_num, Nat.le_refl _, HK.out, rfl⟩
      case round =>
        obtain ⟨k, dj, rfl, hk, hsj, HP⟩ := hrel
        have HJ := hide hsj
        clear hsj HK
        by_cases hk0 : k = 0
        · subst hk0
          have hdj : Hid (dj = heapPop ltB a L dk) := HP.out
          clear HP
          --H3
          go_wp2
          go_end0
          exact ⟨rfl, by rw [← hdj.out]; exact HJ.out⟩
        · obtain ⟨q, rfl⟩ : ∃ q, k = q + 1 := ⟨k - 1, by omega⟩
          have HGO : Hid (heapPop ltB a q (siftDown ltB q a 0 (swp dj a (a + q))) = heapPop ltB a L dk) := HP.out
          obtain ⟨iq, hiq⟩ : ∃ iq, iq = a + q := ⟨_, rfl⟩
          rw [← hiq] at HGO
          have e1 : ((q + 1 : Nat) : Int) - 1 = (q : Int) := by omega
          have e2 : (a : Int) + (q : Int) = (iq : Int) := by omega
          have z1 : (a : Int) < n := by omega
          have z2 : (iq : Int) < n := by omega
          have y0 := HJ.out.cell a (by omega)
          have y1 := HJ.out.cell iq (by omega)
          have f0 := HJ.out.froz a (by omega)
          have f1 := HJ.out.froz iq (by omega)
          have hswp := hide (HJ.out.swap (i := a) (j := iq) (by omega) (by omega))
          have hsift : Hid (∀ w', SrtB W0 g ok n (swp dj a iq) w' → _) := fun w' h9 => sift_calls g cap n 0 q a W0 ok (swp dj a iq) w' h9 (by omega) (by omega) hn
          generalize hX : dj[a]! = X at y0 hswp
          generalize hY : dj[iq]! = Y at y1 hswp
          rw [e1]
          by_cases hq0 : iq = a
          · --H4
            subst hq0
            have hXY : X = Y := by rw [← hX, ← hY]
            subst hXY
            clear hX hY hiq e1
            go_wp2_with fail
            go_region
            all_goals
              --H5
              go_wp2_with fail
              go_at_call 70
              refine (hsift.out _ (by first | exact hswp.out | exact hswp.out.drewN _ | exact hswp.out.drew)).mono ?_
              rintro _ w9 ⟨rfl, h9⟩
              have H9 := hide h9
              clear h9 hsift hswp
              go_wp2
              go_roundw
              case rel => exact ⟨q, _, by go_num, by omega, H9.out, HGO.out⟩
              case measure => simp [intOf]
          · --H6
            have hq1 : ¬ a = iq := by omega
            clear hX hY hiq e1
            go_wp2_with fail
            go_region
            all_goals
              --H7
              go_wp2_with fail
              go_at_call 70
              refine (hsift.out _ (by first | exact hswp.out | exact hswp.out.drewN _ | exact hswp.out.drew)).mono ?_
              rintro _ w9 ⟨rfl, h9⟩
              have H9 := hide h9
              clear h9 hsift hswp
              go_wp2
              go_roundw
              case rel => exact ⟨q, _, by go_num, by omega, H9.out, HGO.out⟩
              case measure => simp [intOf]
    · --H8
      obtain ⟨q, rfl⟩ : ∃ q, k = q + 1 := ⟨k - 1, by omega⟩
      have HGO : Hid (heapBuild ltB L a q (siftDown ltB L a q dk) = D1) := HO.out
      have e1 : ((q + 1 : Nat) : Int) - 1 = (q : Int) := by omega
      have hsift := hide (sift_calls g cap n q L a W0 ok dk wr HK.out (by omega) (by omega) hn)
      rw [e1]
      clear e1
      go_wp2_with fail
      go_at_call 70
      --H9
      refine hsift.out.mono ?_
      rintro _ w9 ⟨rfl, h9⟩
      have H9 := hide h9
      clear h9 hsift
      go_wp2
      go_roundw
      case rel => exact ⟨q, _, by go_num, by omega, H9.out, HGO.out⟩
      case measure => simp [intOf]

end Go.Proofs.Ytmbniakobhaomaa
