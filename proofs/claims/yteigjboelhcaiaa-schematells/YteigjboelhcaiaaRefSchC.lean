/-
  What the document's own Check (package rialtoref5) answers of every shape and record, as its text runs.
-/
import Derived.Test.YteigjboelhcaiaaRefSch
import Derived.Test.YteigjboelhcaiaaRefVals
import Derived.Test.YteigjboelhcaiaaQuietUp
namespace Go.Proofs.Yteigjboelhcaiaa
open Go.ChangeShapes Go.WideShapes Go.ChangeAt Go.RowKit
attribute [local go_sem ↓] Go.wp_at_zero Go.wp_at_succ
attribute [local go_sem] run_store_float

theorem ret_int {n m : Int} (h : n = m) : Ending.returned (Value.int .i64 m) = Ending.returned (Value.int .i64 n) := by rw [h]

set_option maxHeartbeats 4000000 in
theorem rcheck_bad (a : Option Addr) (n c : Nat) (l : List FT) (a' : Option Addr) (n' c' : Nat) (m : List VT) (w : World) (hn : n ≤ maxLen) (hv : Flds w a n l) (hb : isF l = false) :
    Calls Try.prog 16 #[.slice a n c, .slice a' n' c'] w fun e w' => e = .returned (.int .i64 (checkN l m)) ∧ Up w w' := by
  have e := hide (checkN_schema (m := m) hb)
  go_enter Try.func16, Try.ntmps16
  go_wp2_with fail
  go_at_call 14
  refine (rsis_calls _ _ _ l _ hn hv).mono ?_
  rintro _ w1 ⟨rfl, hu1⟩
  replace hu1 := hide hu1
  go_wp2
  go_ret
  exact ⟨ret_int e.out, hu1.out⟩

set_option maxHeartbeats 4000000 in
theorem rcheck_len (a : Option Addr) (n c : Nat) (l : List FT) (a' : Option Addr) (n' c' : Nat) (m : List VT) (w : World) (hn : n ≤ maxLen) (hv : Flds w a n l) (hb : isF l = true) (hm : m.length = n') (hd : ¬ n' = n) :
    Calls Try.prog 16 #[.slice a n c, .slice a' n' c'] w fun e w' => e = .returned (.int .i64 (checkN l m)) ∧ Up w w' := by
  have e := hide (checkN_len (m := m) hb (by rw [hm, hv.1]; exact hd))
  have t1 : ((n' : Int) != n) = true := by rw [bne_iff_ne]; omega
  go_enter Try.func16, Try.ntmps16
  go_wp2_with fail
  go_at_call 14
  refine (rsis_calls _ _ _ l _ hn hv).mono ?_
  rintro _ w1 ⟨rfl, hu1⟩
  replace hu1 := hide hu1
  clear hv hm hd
  go_wp2
  all_goals go_ret
  all_goals exact ⟨ret_int e.out, hu1.out⟩

set_option maxHeartbeats 4000000 in
theorem rcheck_some (b off n c : Nat) (l : List FT) (b' off' c' : Nat) (m : List VT) (w : World) (hn : n ≤ maxLen) (hv : Flds w (some ⟨b, off, none⟩) n l) (hb : isF l = true) (hm : m.length = n) (hx : ∀ i, i < n → At w b' (off' + i * 4) (m.getD i zeroT)) :
    Calls Try.prog 16 #[.slice (some ⟨b, off, none⟩) n c, .slice (some ⟨b', off', none⟩) n c'] w fun e w' => e = .returned (.int .i64 (checkN l m)) ∧ Up w w' := by
  have hl := hide hv.1
  have H := hide hv
  have HM := hide hm
  have HX := hide hx
  have hN := hn
  unfold maxLen at hN
  go_enter Try.func16, Try.ntmps16
  go_wp2_with fail
  go_at_call 14
  refine (rsis_calls _ _ _ l _ hn hv).mono ?_
  rintro _ w1 ⟨rfl, hu1⟩
  clear hv hm hx hn
  replace hu1 := hide hu1
  go_wp2_with fail
  go_loopw [5] (fun i wr => ∃ k : Nat, k ≤ n ∧ i = .int .i64 k ∧ Up w wr ∧ Hid (∀ j, j < k → (isB (m.getD j zeroT) && decide ((m.getD j zeroT).1 = (l.getD j zeroF).2)) = true)) (fun i _ => n - (intOf i).toNat)
  case atStart => exact ⟨0, Nat.zero_le _, rfl, hu1.out, fun j hj => absurd hj (Nat.not_lt_zero j)⟩
  case round =>
    obtain ⟨k, hk, rfl, hu, he⟩ := hrel
    replace hu := hide hu
    by_cases hlt : k < n
    · obtain ⟨b2, off2, hb2, _, l1⟩ := (H.out.up hu.out).fld hlt
      obtain ⟨rfl, rfl⟩ : b = b2 ∧ off = off2 := by cases hb2; exact ⟨rfl, rfl⟩
      clear hb2
      have t3 : decide ((k : Int) < n) = true := decide_eq_true (by omega)
      obtain ⟨c0, c1, c2, c3⟩ := (HX.out k hlt).up hu.out
      have hf : Hid (∀ B, B = (isB (m.getD k zeroT) && decide ((m.getD k zeroT).1 = (l.getD k zeroF).2)) → B = false → checkN l m = 41) := fun B h1 h2 => checkN_bad hb (by have := hl.out; omega) (h1 ▸ h2)
      obtain ⟨y, hy⟩ : ∃ y, y = (l.getD k zeroF).2 := ⟨_, rfl⟩
      rw [← hy] at l1 hf
      obtain ⟨⟨q, z, s, f⟩, hv⟩ : ∃ v, v = m.getD k zeroT := ⟨_, rfl⟩
      rw [← hv] at c0 c1 c2 c3 hf
      dsimp only at c0 c1 c2 c3
      replace hy := hide hy
      replace hv := hide hv
      by_cases g1 : isB (q, z, s, f) = true
      · by_cases g2 : q = y
        · have q2 : (q != y) = false := by rw [g2]; simp
          have hB : Hid ((isB (m.getD k zeroT) && decide ((m.getD k zeroT).1 = (l.getD k zeroF).2)) = true) := by
            show _ = true
            rw [← hv.out, ← hy.out, g1, decide_eq_true g2]; rfl
          clear hf g2
          go_wp2_with fail
          refine region_up (by kernel_rfl) (by kernel_rfl) ?_
          repeat (first
            | go_big_quiet_skip
            | (go_big_quiet_want; go_big_quiet_op; go_big_quiet_on)
            | (go_big_quiet_want
               apply Exists.intro
               refine ⟨fun w' hw' => ?_, ?_⟩
               (skip
                have c0 := hw'.cell c0
                have c1 := hw'.cell c1
                have c2 := hw'.cell c2
                have c3 := hw'.cell c3
                have l1 := hw'.cell l1
                go_simp
                first
                | done
                | with_reducible rfl
                | (go_at_call 27; exact quiet_call hw' (ris_calls _ _ _ _ _))
               )
               go_big_quiet_on
               try simp only [Act.put, List.setIfInBounds_toArray, List.set_cons_zero, List.set_cons_succ]))
          intro w2 hu2
          go_wp2
          go_roundw
          case rel =>
            refine ⟨k + 1, by omega, by go_num, hu.out.trans hu2, fun j hj => ?_⟩
            rcases Nat.lt_succ_iff_lt_or_eq.1 hj with hj | rfl
            · exact he.out j hj
            · exact hB.out
          case measure => simp [intOf]; omega
        · have q2 : (q != y) = true := by rw [bne_iff_ne]; exact g2
          have e := hide (hf.out _ rfl (by rw [decide_eq_false g2]; simp))
          clear hf g2
          go_wp2_with fail
          refine region_up (by kernel_rfl) (by kernel_rfl) ?_
          repeat (first
            | go_big_quiet_skip
            | (go_big_quiet_want; go_big_quiet_op; go_big_quiet_on)
            | (go_big_quiet_want
               apply Exists.intro
               refine ⟨fun w' hw' => ?_, ?_⟩
               (skip
                have c0 := hw'.cell c0
                have c1 := hw'.cell c1
                have c2 := hw'.cell c2
                have c3 := hw'.cell c3
                have l1 := hw'.cell l1
                go_simp
                first
                | done
                | with_reducible rfl
                | (go_at_call 27; exact quiet_call hw' (ris_calls _ _ _ _ _))
               )
               go_big_quiet_on
               try simp only [Act.put, List.setIfInBounds_toArray, List.set_cons_zero, List.set_cons_succ]))
          intro w2 hu2
          go_wp2
          go_ret
          exact ⟨ret_int e.out, hu.out.trans hu2⟩
      · replace g1 : isB (q, z, s, f) = false := Bool.eq_false_iff.2 g1
        have e := hide (hf.out _ rfl (by rw [g1]; rfl))
        clear hf
        go_wp2_with fail
        refine region_up (by kernel_rfl) (by kernel_rfl) ?_
        repeat (first
          | go_big_quiet_skip
          | (go_big_quiet_want; go_big_quiet_op; go_big_quiet_on)
          | (go_big_quiet_want
             apply Exists.intro
             refine ⟨fun w' hw' => ?_, ?_⟩
             (skip
              have c0 := hw'.cell c0
              have c1 := hw'.cell c1
              have c2 := hw'.cell c2
              have c3 := hw'.cell c3
              have l1 := hw'.cell l1
              go_simp
              first
              | done
              | with_reducible rfl
              | (go_at_call 27; exact quiet_call hw' (ris_calls _ _ _ _ _))
             )
             go_big_quiet_on
             try simp only [Act.put, List.setIfInBounds_toArray, List.set_cons_zero, List.set_cons_succ]))
        intro w2 hu2
        go_wp2
        go_ret
        exact ⟨ret_int e.out, hu.out.trans hu2⟩
    · obtain rfl : k = n := by omega
      have t3 : decide ((k : Int) < k) = false := decide_eq_false (by omega)
      have e := hide (checkN_good hb (HM.out.trans hl.out.symm) (fun j hj => he.out j (by have := hl.out; omega)))
      go_wp2
      go_ret
      exact ⟨ret_int e.out, hu.out⟩

theorem isF_len {l : List FT} (h : isF l = true) : 1 ≤ l.length := by
  rcases Nat.lt_or_ge l.length 1 with h1 | h1
  · rw [isF_none h1] at h; cases h
  · exact h1
theorem rcheck_calls (a : Option Addr) (n c : Nat) (l : List FT) (a' : Option Addr) (n' c' : Nat) (m : List VT) (w : World) (hn : n ≤ maxLen) (hv : Flds w a n l) (hm : Vals w a' n' m) :
    Calls Try.prog 16 #[.slice a n c, .slice a' n' c'] w fun e w' => e = .returned (.int .i64 (checkN l m)) ∧ Up w w' := by
  cases hb : isF l with
  | false => exact rcheck_bad _ _ _ l _ _ _ m w hn hv hb
  | true =>
    by_cases hd : n' = n
    · subst hd
      have h1 := isF_len hb
      rw [hv.1] at h1
      rcases hv.2.2 with h0 | ⟨b, off, rfl, _⟩
      · omega
      rcases hm.2.2 with h0 | ⟨b', off', rfl, hx⟩
      · omega
      exact rcheck_some _ _ _ _ l _ _ _ m w hn hv hb hm.1 hx
    · exact rcheck_len _ _ _ l _ _ _ m w hn hv hb hm.1 hd

end Go.Proofs.Yteigjboelhcaiaa
