/-
  What the document's own Name, Field and Is (package rialtoref5) answer, as their text runs.
-/
import Derived.Test.YteigjboelhcaiaaSchModel
import Derived.Test.YteigjboelhcaiaaValIs
import Derived.BigQuiet
import Derived.Deep.QuietTactic
namespace Go.Proofs.Yteigjboelhcaiaa
open Go.ChangeShapes Go.WideShapes Go.ChangeAt Go.RowKit
attribute [local go_sem ↓] Go.wp_at_zero Go.wp_at_succ

theorem nameC_iff {c : UInt8} : nameC c = true ↔ (97 ≤ (c.toNat : Int) ∧ (c.toNat : Int) ≤ 122) ∨ (48 ≤ (c.toNat : Int) ∧ (c.toNat : Int) ≤ 57) ∨ (c.toNat : Int) = 95 := by
  unfold nameC
  simp only [Bool.or_eq_true, Bool.and_eq_true, decide_eq_true_eq]
  omega
theorem nameC_not {c : UInt8} (h : ¬ ((97 ≤ (c.toNat : Int) ∧ (c.toNat : Int) ≤ 122) ∨ (48 ≤ (c.toNat : Int) ∧ (c.toNat : Int) ≤ 57) ∨ (c.toNat : Int) = 95)) : nameC c = false :=
  Bool.eq_false_iff.2 fun e => h (nameC_iff.1 e)
theorem ret_bool {b c : Bool} (h : b = c) : Ending.returned (Value.bool c) = Ending.returned (Value.bool b) := by rw [h]

set_option maxHeartbeats 4000000 in
theorem rname_calls (s : ByteArray) (hs : s.size ≤ maxLen) (w : World) :
    Calls Try.prog 25 #[.string s] w fun e w' => e = .returned (.bool (nameB s)) ∧ w' = w := by
  unfold maxLen at hs
  go_enter Try.func25, Try.ntmps25
  by_cases h1 : (s.size : Int) < 1
  · have e : nameB s = false := nameB_short (by omega)
    have t1 : decide ((s.size : Int) < 1) = true := decide_eq_true h1
    clear h1
    go_wp2
    go_ret
    exact ⟨ret_bool e, rfl⟩
  have t1 : decide ((s.size : Int) < 1) = false := decide_eq_false h1
  by_cases h2 : (20 : Int) < s.size
  · have e : nameB s = false := nameB_long (by omega)
    have t2 : decide ((20 : Int) < s.size) = true := decide_eq_true h2
    clear h1 h2
    go_wp2
    go_ret
    exact ⟨ret_bool e, rfl⟩
  have t2 : decide ((20 : Int) < s.size) = false := decide_eq_false h2
  have H := hide (⟨h1, h2⟩ : ¬ (s.size : Int) < 1 ∧ ¬ (20 : Int) < s.size)
  clear h1 h2
  go_wp2_with fail
  clear t1 t2
  go_loop [3] (fun i => ∃ k : Nat, k ≤ s.size ∧ i = .int .i64 k ∧ Hid (∀ j (hj : j < s.size), j < k → nameC s[j] = true)) (fun i => s.size - (intOf i).toNat)
  case atStart => exact ⟨0, Nat.zero_le _, rfl, fun j _ hj => absurd hj (Nat.not_lt_zero j)⟩
  case round =>
    obtain ⟨k, hk, rfl, he⟩ := hrel
    by_cases hlt : k < s.size
    · have t3 : decide ((k : Int) < s.size) = true := decide_eq_true (by omega)
      go_wp2
      all_goals first
        | (have hC : nameC s[k] = false := nameC_not (by simp only [bne_iff_ne, ne_eq] at *; omega)
           go_ret
           exact ⟨ret_bool (nameB_bad hlt hC), rfl⟩)
        | (have hC : nameC s[k] = true := nameC_iff.2 (by simp only [bne_eq_false_iff_eq] at *; omega)
           refine ⟨⟨k + 1, by omega, by go_num, fun j hj hjk => ?_⟩, by simp [intOf]; omega⟩
           rcases Nat.lt_succ_iff_lt_or_eq.1 hjk with h | rfl
           · exact he.out j hj h
           · exact hC)
        | (have hC : nameC s[k] = true := nameC_iff.2 (by omega)
           refine ⟨⟨k + 1, by omega, by go_num, fun j hj hjk => ?_⟩, by simp [intOf]; omega⟩
           rcases Nat.lt_succ_iff_lt_or_eq.1 hjk with h | rfl
           · exact he.out j hj h
           · exact hC)
    · have t3 : decide ((k : Int) < s.size) = false := decide_eq_false (by omega)
      have e := hide (nameB_good (by have := H.out.1; omega) (by have := H.out.2; omega) (fun j hj => he.out j hj (by omega)) : nameB s = true)
      go_wp2
      go_ret
      exact ⟨ret_bool e.out, rfl⟩

theorem rfield_none (a : Option Addr) (c : Nat) (s : ByteArray) (w : World) :
    Calls Try.prog 11 #[.slice a 0 c, .string s] w fun e w' => e = .returned (.tuple #[.int .i64 0, .bool false]) ∧ w' = w := by
  go_enter Try.func11, Try.ntmps11
  go_wp2_with fail
  refine wp_loop_rounds 1 ?_
  rw [rounds_succ]
  go_wp2
  refine bodyPost_ret (v := .tuple #[.int .i64 0, .bool false]) (by simp [results, Try.results11, go_sem]) rfl ⟨rfl, rfl⟩

set_option maxHeartbeats 4000000 in
theorem rfield_some (b off n c : Nat) (l : List FT) (s : ByteArray) (w : World) (hl : l.length = n) (hn : n ≤ maxLen) (hv : Flds w (some ⟨b, off, none⟩) n l) :
    Calls Try.prog 11 #[.slice (some ⟨b, off, none⟩) n c, .string s] w fun e w' => e = .returned (.tuple #[.int .i64 (fieldN l s), .bool (fieldB l s)]) ∧ w' = w := by
  unfold maxLen at hn
  have H := hide hv
  clear hv
  go_enter Try.func11, Try.ntmps11
  go_wp2_with fail
  go_loop [6] (fun i => ∃ k : Nat, k ≤ n ∧ i = .int .i64 k ∧ Hid (∀ j, j < k → ¬ (l.getD j zeroF).1 = s)) (fun i => n - (intOf i).toNat)
  case atStart => exact ⟨0, Nat.zero_le _, rfl, fun j hj => absurd hj (Nat.not_lt_zero j)⟩
  case round =>
    obtain ⟨k, hk, rfl, he⟩ := hrel
    by_cases hlt : k < n
    · obtain ⟨b', off', hb', l0, _⟩ := H.out.fld hlt
      obtain ⟨rfl, rfl⟩ : b = b' ∧ off = off' := by cases hb'; exact ⟨rfl, rfl⟩
      clear hb'
      have t3 : decide ((k : Int) < n) = true := decide_eq_true (by omega)
      obtain ⟨x, hx⟩ : ∃ x, x = (l.getD k zeroF).1 := ⟨_, rfl⟩
      rw [← hx] at l0
      replace hx := hide hx
      by_cases hq : x = s
      · have h0 := hide (fieldI_hit l s k (by omega) he.out (hx.out.symm.trans hq))
        go_wp2
        refine bodyPost_ret (v := .tuple #[.int .i64 k, .bool true]) (by simp [results, Try.results11, go_sem]) rfl ⟨?_, rfl⟩
        unfold fieldN fieldB
        rw [h0.out]
        rfl
      · have t4 := str_no hq
        go_wp2
        refine ⟨⟨k + 1, by omega, by go_num, fun j hj => ?_⟩, by simp [intOf]; omega⟩
        rcases Nat.lt_succ_iff_lt_or_eq.1 hj with h | rfl
        · exact he.out j h
        · rw [← hx.out]; exact hq
    · obtain rfl : k = n := by omega
      have t3 : decide ((k : Int) < k) = false := decide_eq_false (by omega)
      have h0 := hide (fieldI_miss l s (fun j hj => he.out j (by omega)))
      go_wp2
      refine bodyPost_ret (v := .tuple #[.int .i64 0, .bool false]) (by simp [results, Try.results11, go_sem]) rfl ⟨?_, rfl⟩
      unfold fieldN fieldB
      rw [h0.out]
      rfl

theorem rfield_calls (a : Option Addr) (n c : Nat) (l : List FT) (s : ByteArray) (w : World) (hn : n ≤ maxLen) (hv : Flds w a n l) :
    Calls Try.prog 11 #[.slice a n c, .string s] w fun e w' => e = .returned (.tuple #[.int .i64 (fieldN l s), .bool (fieldB l s)]) ∧ w' = w := by
  rcases hv.2.2 with rfl | ⟨b, off, rfl, _⟩
  · obtain rfl : l = [] := List.length_eq_zero_iff.1 hv.1
    exact rfield_none _ _ _ _
  · exact rfield_some _ _ _ _ l _ w hv.1 hn hv

theorem rsis_none (a : Option Addr) (c : Nat) (w : World) :
    Calls Try.prog 14 #[.slice a 0 c] w fun e w' => e = .returned (.bool false) ∧ w' = w := by
  go_enter Try.func14, Try.ntmps14
  go_wp2_with fail
  refine wp_loop_rounds 1 ?_
  rw [rounds_succ]
  go_wp2
  go_ret
  exact ⟨rfl, rfl⟩

set_option maxHeartbeats 4000000 in
theorem rsis_some (b off n c : Nat) (l : List FT) (w : World) (hn : n ≤ maxLen) (hv : Flds w (some ⟨b, off, none⟩) n l) :
    Calls Try.prog 14 #[.slice (some ⟨b, off, none⟩) n c] w fun e w' => e = .returned (.bool (isF l)) ∧ Up w w' := by
  unfold maxLen at hn
  have hl := hide hv.1
  have H := hide hv
  clear hv
  go_enter Try.func14, Try.ntmps14
  go_wp2_with fail
  go_loopw [3] (fun i wr => ∃ k : Nat, k ≤ n ∧ i = .int .i64 k ∧ Up w wr ∧ Hid (∀ j, j < k → goodF l j = true)) (fun i _ => n - (intOf i).toNat)
  case atStart => exact ⟨0, Nat.zero_le _, rfl, Up.refl _, fun j hj => absurd hj (Nat.not_lt_zero j)⟩
  case round =>
    obtain ⟨k, hk, rfl, hu, he⟩ := hrel
    replace hu := hide hu
    by_cases hlt : k < n
    · obtain ⟨b', off', hb', l0, l1⟩ := (H.out.up hu.out).fld hlt
      obtain ⟨rfl, rfl⟩ : b = b' ∧ off = off' := by cases hb'; exact ⟨rfl, rfl⟩
      clear hb'
      have t3 : decide ((k : Int) < n) = true := decide_eq_true (by omega)
      have hfit := H.out.2.1 k
      obtain ⟨x, hx⟩ : ∃ x, x = (l.getD k zeroF).1 := ⟨_, rfl⟩
      obtain ⟨y, hy⟩ : ∃ y, y = (l.getD k zeroF).2 := ⟨_, rfl⟩
      have hxs : x.size ≤ maxLen := by rw [hx]; exact hfit.1
      clear hfit
      rw [← hx] at l0
      rw [← hy] at l1
      replace hx := hide hx
      replace hy := hide hy
      have hkl : Hid (k < l.length) := by have := hl.out; show k < l.length; omega
      by_cases g1 : nameB x = true
      · by_cases g2 : 1 ≤ y
        · have q2 : decide (y < 1) = false := decide_eq_false (by omega)
          by_cases g3 : y ≤ 5
          · have q3 : decide ((5 : Int) < y) = false := decide_eq_false (by omega)
            have hG := hide (⟨g1, g2, g3⟩ : nameB x = true ∧ 1 ≤ y ∧ y ≤ 5)
            clear g2 g3
            go_wp2_with (go_at_call 25; refine (rname_calls _ (by with_reducible assumption) _).mono ?_; rintro _ w1 ⟨rfl, hw1⟩; obtain rfl : wr = w1 := hw1.symm)
            clear g1 q2 q3 l1
            go_loopw [4] (fun i wi => ∃ m : Nat, m ≤ k ∧ i = .int .i64 m ∧ Up w wi ∧ Hid (∀ j, j < m → ¬ (l.getD j zeroF).1 = x)) (fun i _ => k - (intOf i).toNat)
            case atStart => exact ⟨0, Nat.zero_le _, rfl, hu.out, fun j hj => absurd hj (Nat.not_lt_zero j)⟩
            case round =>
              clear hu l0
              obtain ⟨m, hm, rfl, hu, hi⟩ := hrel
              replace hu := hide hu
              by_cases hlm : m < k
              · obtain ⟨b', off', hb', l0, _⟩ := (H.out.up hu.out).fld hlt
                obtain ⟨rfl, rfl⟩ : b = b' ∧ off = off' := by cases hb'; exact ⟨rfl, rfl⟩
                clear hb'
                obtain ⟨b', off', hb', r0, _⟩ := (H.out.up hu.out).fld (show m < n by omega)
                obtain ⟨rfl, rfl⟩ : b = b' ∧ off = off' := by cases hb'; exact ⟨rfl, rfl⟩
                clear hb'
                rw [← hx.out] at l0
                obtain ⟨z, hz⟩ : ∃ z, z = (l.getD m zeroF).1 := ⟨_, rfl⟩
                rw [← hz] at r0
                replace hz := hide hz
                have t4 : decide ((m : Int) < k) = true := decide_eq_true (by omega)
                by_cases hq : z = x
                · have e := hide (isF_bad hkl.out (goodF_twice hlm (by rw [← hz.out, ← hx.out]; exact hq)))
                  have t5 := str_yes hq
                  replace hq := hide hq
                  go_wp2_with fail
                  go_quiet (fail)
                  go_wp2
                  all_goals go_ret
                  all_goals exact ⟨ret_bool e.out, hu.out.drewN _⟩
                · have t5 := str_no hq
                  replace hq := hide hq
                  go_wp2_with fail
                  go_quiet (fail)
                  go_wp2
                  all_goals go_roundw
                  case rel =>
                    refine ⟨m + 1, by omega, by go_num, hu.out.drewN _, fun j hj => ?_⟩
                    rcases Nat.lt_succ_iff_lt_or_eq.1 hj with hj | rfl
                    · exact hi.out j hj
                    · rw [← hz.out]; exact hq.out
                  case measure => simp [intOf]; omega
              · obtain rfl : m = k := by omega
                have t4 : decide ((m : Int) < m) = false := decide_eq_false (by omega)
                go_wp2
                go_roundw
                case rel =>
                  refine ⟨m + 1, by omega, by go_num, hu.out, fun j hj => ?_⟩
                  rcases Nat.lt_succ_iff_lt_or_eq.1 hj with hj | rfl
                  · exact he.out j hj
                  · exact goodF_all (by rw [← hx.out]; exact hG.out.1) (by rw [← hy.out]; exact hG.out.2.1) (by rw [← hy.out]; exact hG.out.2.2) (fun i h => by rw [← hx.out]; exact hi.out i h)
                case measure => simp [intOf]; omega
          · have q3 : decide ((5 : Int) < y) = true := decide_eq_true (by omega)
            have e := hide (isF_bad hkl.out (goodF_high (by rw [← hy.out]; omega)))
            go_wp2_with (go_at_call 25; refine (rname_calls _ (by with_reducible assumption) _).mono ?_; rintro _ w1 ⟨rfl, hw1⟩; obtain rfl : wr = w1 := hw1.symm)
            go_ret
            exact ⟨ret_bool e.out, hu.out⟩
        · have q2 : decide (y < 1) = true := decide_eq_true (by omega)
          have e := hide (isF_bad hkl.out (goodF_low (by rw [← hy.out]; omega)))
          go_wp2_with (go_at_call 25; refine (rname_calls _ (by with_reducible assumption) _).mono ?_; rintro _ w1 ⟨rfl, hw1⟩; obtain rfl : wr = w1 := hw1.symm)
          go_ret
          exact ⟨ret_bool e.out, hu.out⟩
      · replace g1 : nameB x = false := Bool.eq_false_iff.2 g1
        have e := hide (isF_bad hkl.out (goodF_name (by rw [← hx.out]; exact g1)))
        go_wp2_with (go_at_call 25; refine (rname_calls _ (by with_reducible assumption) _).mono ?_; rintro _ w1 ⟨rfl, hw1⟩; obtain rfl : wr = w1 := hw1.symm)
        go_ret
        exact ⟨ret_bool e.out, hu.out⟩
    · obtain rfl : k = n := by omega
      have t3 : decide ((k : Int) < k) = false := decide_eq_false (by omega)
      have e := hide (isF_all (fun j hj => he.out j (by have := hl.out; omega)) : isF l = _)
      rw [hl.out] at e
      by_cases h1 : 1 ≤ k
      · have t1 : decide ((1 : Int) ≤ k) = true := decide_eq_true (by omega)
        have e2 : decide (k ≤ 8) = decide ((k : Int) ≤ 8) := decide_eq_decide.2 (by omega)
        rw [decide_eq_true h1, e2] at e
        clear e2 h1
        go_wp2
        all_goals go_ret
        all_goals exact ⟨ret_bool e.out, hu.out⟩
      · have t1 : decide ((1 : Int) ≤ k) = false := decide_eq_false (by omega)
        rw [decide_eq_false h1] at e
        clear h1
        go_wp2
        all_goals go_ret
        all_goals exact ⟨ret_bool e.out, hu.out⟩

theorem rsis_calls (a : Option Addr) (n c : Nat) (l : List FT) (w : World) (hn : n ≤ maxLen) (hv : Flds w a n l) :
    Calls Try.prog 14 #[.slice a n c] w fun e w' => e = .returned (.bool (isF l)) ∧ Up w w' := by
  rcases hv.2.2 with rfl | ⟨b, off, rfl, _⟩
  · obtain rfl : l = [] := List.length_eq_zero_iff.1 hv.1
    refine (rsis_none _ _ _).mono ?_
    rintro _ _ ⟨rfl, rfl⟩
    exact ⟨rfl, Up.refl _⟩
  · exact rsis_some _ _ _ _ l w hn hv

end Go.Proofs.Yteigjboelhcaiaa
