/-
  What the landed package schema answers of names, kinds, numbers, fields and shapes (isSign, isName, isKind, isNumber, Field, Is), as its text runs.
-/
import Derived.Test.YteigjboelhcaiaaRefSch
import Derived.Test.YteigjboelhcaiaaSchDef
import Derived.Test.YteigjboelhcaiaaQuietUp
namespace Go.Proofs.Yteigjboelhcaiaa
open Go.ChangeShapes Go.WideShapes Go.ChangeAt Go.RowKit
attribute [local go_sem ↓] Go.wp_at_zero Go.wp_at_succ

theorem sign_calls (c : UInt8) (w : World) : Calls Try.prog 35 #[.int .u8 c.toNat] w fun e w' => e = .returned (.bool (nameC c)) ∧ w' = w := by
  go_enter Try.func35, Try.ntmps35
  go_wp2
  all_goals (go_ret; refine ⟨ret_bool ?_, rfl⟩; rw [Bool.eq_iff_iff, nameC_iff]; (first | simp only [beq_iff_eq, decide_eq_true_eq, iff_true, Bool.or_eq_true] | skip); omega)

def kindF (k : Int) : Bool := decide (1 ≤ k) && decide (k ≤ 5)
theorem kind_calls (k : Int) (w : World) : Calls Try.prog 24 #[.int .i64 k] w fun e w' => e = .returned (.bool (kindF k)) ∧ w' = w := by
  go_enter Try.func24, Try.ntmps24
  go_wp2
  all_goals (go_ret; refine ⟨ret_bool ?_, rfl⟩; unfold kindF; rw [Bool.eq_iff_iff]; simp only [Bool.and_eq_true, decide_eq_true_eq, Bool.false_eq_true, iff_false]; omega)

def numB (n c : Int) : Bool := decide (0 ≤ n) && decide (n < c)
theorem number_calls (n c : Int) (w : World) : Calls Try.prog 38 #[.int .i64 n, .int .i64 c] w fun e w' => e = .returned (.bool (numB n c)) ∧ w' = w := by
  go_enter Try.func38, Try.ntmps38
  go_wp2
  all_goals (go_ret; refine ⟨ret_bool ?_, rfl⟩; unfold numB; rw [Bool.eq_iff_iff]; simp only [Bool.and_eq_true, decide_eq_true_eq, Bool.false_eq_true, iff_false]; omega)

theorem empty_of {s : ByteArray} (h : s.size < 1) : s = ⟨#[]⟩ := ByteArray.ext (Array.eq_empty_of_size_eq_zero (by have : s.data.size = s.size := rfl; omega))
theorem toList_ne {s : ByteArray} (h : ¬ s.size < 1) : ¬ s.toList = [] := fun e => by
  rw [Lib.toList_data] at e
  have : s.size = s.data.toList.length := Array.length_toList.symm
  rw [e] at this
  exact h (by rw [this]; decide)

set_option maxHeartbeats 4000000 in
theorem name_calls (s : ByteArray) (hs : s.size ≤ maxLen) (w : World) :
    Calls Try.prog 23 #[.string s] w fun e w' => e = .returned (.bool (nameB s)) ∧ w' = w := by
  unfold maxLen at hs
  go_enter Try.func23, Try.ntmps23
  by_cases h1 : s.size < 1
  · have e : nameB s = false := nameB_short h1
    obtain rfl := empty_of h1
    clear h1
    go_wp2
    go_ret
    exact ⟨ret_bool e, rfl⟩
  have z1 := toList_ne h1
  have z2 : s.toList.isEmpty = false := by rw [List.isEmpty_eq_false_iff]; exact z1
  by_cases h2 : (20 : Int) < s.size
  · have e : nameB s = false := nameB_long (by omega)
    have t2 : decide ((20 : Int) < s.size) = true := decide_eq_true h2
    clear h1 h2
    go_wp2
    go_ret
    exact ⟨ret_bool e, rfl⟩
  have t2 : decide ((20 : Int) < s.size) = false := decide_eq_false h2
  have H := hide (⟨h1, h2⟩ : ¬ s.size < 1 ∧ ¬ (20 : Int) < s.size)
  clear h1 h2
  go_wp2_with fail
  clear z1 z2 t2
  go_loop [13] (fun i => ∃ k : Nat, k ≤ s.size ∧ i = .int .i64 k ∧ Hid (∀ j (hj : j < s.size), j < k → nameC s[j] = true)) (fun i => s.size - (intOf i).toNat)
  case atStart => exact ⟨0, Nat.zero_le _, rfl, fun j _ hj => absurd hj (Nat.not_lt_zero j)⟩
  case round =>
    obtain ⟨k, hk, rfl, he⟩ := hrel
    by_cases hlt : k < s.size
    · have t3 : decide ((k : Int) < s.size) = true := decide_eq_true (by omega)
      cases hC : nameC s[k] with
      | false =>
        go_wp2_with (go_at_call 35; refine (sign_calls _ _).mono ?_; rintro _ _ ⟨rfl, rfl⟩)
        go_ret
        exact ⟨ret_bool (nameB_bad hlt hC), rfl⟩
      | true =>
        go_wp2_with (go_at_call 35; refine (sign_calls _ _).mono ?_; rintro _ _ ⟨rfl, rfl⟩)
        refine ⟨⟨k + 1, by omega, by go_num, fun j hj hjk => ?_⟩, by simp [intOf]; omega⟩
        rcases Nat.lt_succ_iff_lt_or_eq.1 hjk with h | rfl
        · exact he.out j hj h
        · exact hC
    · have t3 : decide ((k : Int) < s.size) = false := decide_eq_false (by omega)
      have e := hide (nameB_good (by have := H.out.1; omega) (by have := H.out.2; omega) (fun j hj => he.out j hj (by omega)) : nameB s = true)
      go_wp2
      go_ret
      exact ⟨ret_bool e.out, rfl⟩

theorem field_none (a : Option Addr) (c : Nat) (s : ByteArray) (w : World) :
    Calls Try.prog 10 #[.slice a 0 c, .string s] w fun e w' => e = .returned (.tuple #[.int .i64 0, .bool false]) ∧ w' = w := by
  go_enter Try.func10, Try.ntmps10
  go_wp2_with fail
  refine wp_loop_rounds 1 ?_
  rw [rounds_succ]
  go_wp2
  refine bodyPost_ret (v := .tuple #[.int .i64 0, .bool false]) (by simp [results, Try.results10, go_sem]) rfl ⟨rfl, rfl⟩

set_option maxHeartbeats 4000000 in
theorem field_some (b off n c : Nat) (l : List FT) (s : ByteArray) (w : World) (hl : l.length = n) (hn : n ≤ maxLen) (hv : Flds w (some ⟨b, off, none⟩) n l) :
    Calls Try.prog 10 #[.slice (some ⟨b, off, none⟩) n c, .string s] w fun e w' => e = .returned (.tuple #[.int .i64 (fieldN l s), .bool (fieldB l s)]) ∧ Up w w' := by
  unfold maxLen at hn
  have H := hide hv
  clear hv
  go_enter Try.func10, Try.ntmps10
  go_wp2_with fail
  go_loopw [10] (fun i wr => ∃ k : Nat, k ≤ n ∧ i = .int .i64 k ∧ Up w wr ∧ Hid (∀ j, j < k → ¬ (l.getD j zeroF).1 = s)) (fun i _ => n - (intOf i).toNat)
  case atStart => exact ⟨0, Nat.zero_le _, rfl, Up.refl _, fun j hj => absurd hj (Nat.not_lt_zero j)⟩
  case round =>
    obtain ⟨k, hk, rfl, hu, he⟩ := hrel
    replace hu := hide hu
    by_cases hlt : k < n
    · obtain ⟨b', off', hb', l0, l1⟩ := (H.out.up hu.out).fld hlt
      obtain ⟨rfl, rfl⟩ : b = b' ∧ off = off' := by cases hb'; exact ⟨rfl, rfl⟩
      clear hb'
      have t3 : decide ((k : Int) < n) = true := decide_eq_true (by omega)
      obtain ⟨x, hx⟩ : ∃ x, x = (l.getD k zeroF).1 := ⟨_, rfl⟩
      obtain ⟨y, hy⟩ : ∃ y, y = (l.getD k zeroF).2 := ⟨_, rfl⟩
      rw [← hx] at l0
      rw [← hy] at l1
      clear hy
      replace hx := hide hx
      by_cases hq : x = s
      · have h0 := hide (fieldI_hit l s k (by omega) he.out (hx.out.symm.trans hq))
        have t4 := str_yes hq
        replace hq := hide hq
        go_wp2
        refine bodyPost_ret (v := .tuple #[.int .i64 k, .bool true]) (by simp [results, Try.results10, go_sem]) rfl ⟨?_, hu.out.alloc _⟩
        unfold fieldN fieldB
        rw [h0.out]
        rfl
      · have t4 := str_no hq
        replace hq := hide hq
        go_wp2
        go_roundw
        case rel =>
          refine ⟨k + 1, by omega, by go_num, hu.out.alloc _, fun j hj => ?_⟩
          rcases Nat.lt_succ_iff_lt_or_eq.1 hj with hj | rfl
          · exact he.out j hj
          · rw [← hx.out]; exact hq.out
        case measure => simp [intOf]; omega
    · obtain rfl : k = n := by omega
      have t3 : decide ((k : Int) < k) = false := decide_eq_false (by omega)
      have h0 := hide (fieldI_miss l s (fun j hj => he.out j (by omega)))
      go_wp2
      refine bodyPost_ret (v := .tuple #[.int .i64 0, .bool false]) (by simp [results, Try.results10, go_sem]) rfl ⟨?_, hu.out⟩
      unfold fieldN fieldB
      rw [h0.out]
      rfl

theorem field_calls (a : Option Addr) (n c : Nat) (l : List FT) (s : ByteArray) (w : World) (hn : n ≤ maxLen) (hv : Flds w a n l) :
    Calls Try.prog 10 #[.slice a n c, .string s] w fun e w' => e = .returned (.tuple #[.int .i64 (fieldN l s), .bool (fieldB l s)]) ∧ Up w w' := by
  rcases hv.2.2 with rfl | ⟨b, off, rfl, _⟩
  · obtain rfl : l = [] := List.length_eq_zero_iff.1 hv.1
    refine (field_none _ _ _ _).mono ?_
    rintro _ _ ⟨rfl, rfl⟩
    exact ⟨rfl, Up.refl _⟩
  · exact field_some _ _ _ _ l _ w hv.1 hn hv

theorem sis_none (a : Option Addr) (c : Nat) (w : World) :
    Calls Try.prog 13 #[.slice a 0 c] w fun e w' => e = .returned (.bool false) ∧ w' = w := by
  go_enter Try.func13, Try.ntmps13
  go_wp2
  go_ret
  exact ⟨rfl, rfl⟩

theorem sis_many (a : Option Addr) (n c : Nat) (h : 8 < n) (w : World) :
    Calls Try.prog 13 #[.slice a n c] w fun e w' => e = .returned (.bool false) ∧ w' = w := by
  have t0 : ((n : Int) == 0) = false := by rw [beq_eq_false_iff_ne]; omega
  have t1 : decide ((8 : Int) < n) = true := decide_eq_true (by omega)
  clear h
  go_enter Try.func13, Try.ntmps13
  go_wp2
  go_ret
  exact ⟨rfl, rfl⟩

theorem fieldB_iff {l : List FT} {s : ByteArray} : fieldB l s = true ↔ ∃ j, j < l.length ∧ (l.getD j zeroF).1 = s := by
  constructor
  · intro h
    false_or_by_contra
    rename_i hn
    rw [fieldB, fieldI_miss l s (fun j hj hs => hn ⟨j, hj, hs⟩)] at h
    cases h
  · rintro ⟨j, hj, hs⟩
    induction l generalizing j with
    | nil => simp at hj
    | cons f l ih =>
      unfold fieldB
      rw [fieldI]
      by_cases hf : f.1 = s
      · rw [if_pos hf]; rfl
      · rw [if_neg hf]
        cases j with
        | zero => exact absurd hs hf
        | succ j =>
          have := ih j (by simpa using hj) (by simpa only [List.getD_cons_succ] using hs)
          unfold fieldB at this
          cases h : fieldI l s with
          | none => rw [h] at this; cases this
          | some k => rfl
theorem take_get {k j : Nat} (l : List FT) (hj : j < k) : (l.take k).getD j zeroF = l.getD j zeroF := by
  simp only [List.getD_eq_getElem?_getD, List.getElem?_take, if_pos hj]
theorem kindF_good {k : Int} (h : kindF k = true) : 1 ≤ k ∧ k ≤ 5 := by
  unfold kindF at h
  simp only [Bool.and_eq_true, decide_eq_true_eq] at h
  exact h
theorem kindF_bad {l : List FT} {i : Nat} (h : kindF (l.getD i zeroF).2 = false) : goodF l i = false := by
  by_cases h1 : (l.getD i zeroF).2 < 1
  · exact goodF_low h1
  · refine goodF_high ?_
    unfold kindF at h
    rw [decide_eq_true (by omega : 1 ≤ (l.getD i zeroF).2)] at h
    simp only [Bool.true_and, decide_eq_false_iff_not] at h
    omega

set_option maxHeartbeats 4000000 in
theorem sis_some (b off n c : Nat) (l : List FT) (w : World) (h0 : 1 ≤ n) (h8 : n ≤ 8) (hnc : n ≤ c) (hc : c ≤ maxLen) (hv : Flds w (some ⟨b, off, none⟩) n l) :
    Calls Try.prog 13 #[.slice (some ⟨b, off, none⟩) n c] w fun e w' => e = .returned (.bool (isF l)) ∧ Up w w' := by
  have t0 : ((n : Int) == 0) = false := by rw [beq_eq_false_iff_ne]; omega
  have t1 : decide ((8 : Int) < n) = false := decide_eq_false (by omega)
  have hl := hide hv.1
  have H := hide hv
  unfold maxLen at hc
  clear hv
  go_enter Try.func13, Try.ntmps13
  go_wp2_with fail
  clear t0 t1
  go_loopw [17] (fun i wr => ∃ k : Nat, k ≤ n ∧ i = .int .i64 k ∧ Up w wr ∧ Hid (∀ j, j < k → goodF l j = true)) (fun i _ => n - (intOf i).toNat)
  case atStart => exact ⟨0, Nat.zero_le _, rfl, Up.refl _, fun j hj => absurd hj (Nat.not_lt_zero j)⟩
  case round =>
    obtain ⟨k, hk, rfl, hu, he⟩ := hrel
    replace hu := hide hu
    by_cases hlt : k < n
    · obtain ⟨b', off', hb', l0, l1⟩ := (H.out.up hu.out).fld hlt
      obtain ⟨rfl, rfl⟩ : b = b' ∧ off = off' := by cases hb'; exact ⟨rfl, rfl⟩
      clear hb'
      have t3 : decide ((k : Int) < n) = true := decide_eq_true (by omega)
      have hfit := H.out.2.1 k
      obtain ⟨x, hx⟩ : ∃ x, x = (l.getD k zeroF).1 := ⟨_, rfl⟩
      obtain ⟨y, hy⟩ : ∃ y, y = (l.getD k zeroF).2 := ⟨_, rfl⟩
      have hxs : x.size ≤ maxLen := by rw [hx]; exact hfit.1
      clear hfit
      rw [← hx] at l0
      rw [← hy] at l1
      replace hx := hide hx
      replace hy := hide hy
      have hkl : Hid (k < l.length) := by have := hl.out; show k < l.length; omega
      have hkm : k ≤ maxLen := by unfold maxLen; omega
      have hkc : (k : Int) ≤ (c : Int) := by omega
      go_wp2_with fail
      have c0 : (wr.alloc (.cells #[.string x, .int .i64 y] 49)).cell? ⟨wr.heap.size, 0, none⟩ = some (.string x) := by go_simp
      have c1 : (wr.alloc (.cells #[.string x, .int .i64 y] 49)).cell? ⟨wr.heap.size, 1, none⟩ = some (.int .i64 y) := by go_simp
      replace hu := hide (hu.out.alloc (.cells #[.string x, .int .i64 y] 49))
      have HF := hide (H.out.up hu.out)
      clear l0 l1
      generalize wr.alloc (.cells #[.string x, .int .i64 y] 49) = W at *
      cases g0 : fieldB (l.take k) x with
      | true =>
        have e := hide (by
          obtain ⟨j, hj, hjx⟩ := fieldB_iff.1 g0
          rw [List.length_take] at hj
          rw [take_get l (by omega)] at hjx
          exact isF_bad hkl.out (goodF_twice (j := j) (by omega) (by rw [hjx, hx.out])) : isF l = false)
        refine region_up (by kernel_rfl) (by kernel_rfl) ?_
        repeat (first
          | go_big_quiet_skip
          | (go_big_quiet_want; go_big_quiet_op; go_big_quiet_on)
          | (go_big_quiet_want
             apply Exists.intro
             refine ⟨fun w' hw' => ?_, ?_⟩
             (skip
              have c0 := hw'.cell c0
              have c1 := hw'.cell c1
              go_simp
              first
              | done
              | with_reducible rfl
              | (go_at_call 10; exact quiet_call hw' (field_calls _ _ _ (l.take k) _ _ (by with_reducible assumption) ((HF.out.up hw').take fits_zeroF (by with_reducible assumption))))
             )
             go_big_quiet_on
             try simp only [Act.put, List.setIfInBounds_toArray, List.set_cons_zero, List.set_cons_succ]))
        intro w2 hu2
        go_wp2
        go_ret
        exact ⟨ret_bool e.out, hu.out.trans hu2⟩
      | false =>
        have g0' := hide (fun j (hj : j < k) (hjx : (l.getD j zeroF).1 = x) => Bool.false_ne_true (g0.symm.trans (fieldB_iff.2 ⟨j, by rw [List.length_take]; have := hkl.out; omega, by rw [take_get l hj]; exact hjx⟩)))
        refine region_up (by kernel_rfl) (by kernel_rfl) ?_
        repeat (first
          | go_big_quiet_skip
          | (go_big_quiet_want; go_big_quiet_op; go_big_quiet_on)
          | (go_big_quiet_want
             apply Exists.intro
             refine ⟨fun w' hw' => ?_, ?_⟩
             (skip
              have c0 := hw'.cell c0
              have c1 := hw'.cell c1
              go_simp
              first
              | done
              | with_reducible rfl
              | (go_at_call 10; exact quiet_call hw' (field_calls _ _ _ (l.take k) _ _ (by with_reducible assumption) ((HF.out.up hw').take fits_zeroF (by with_reducible assumption))))
             )
             go_big_quiet_on
             try simp only [Act.put, List.setIfInBounds_toArray, List.set_cons_zero, List.set_cons_succ]))
        intro w2 hu2
        replace c0 := hu2.cell c0
        replace c1 := hu2.cell c1
        replace hu := hide (hu.out.trans hu2)
        clear hu2 HF
        cases g1 : nameB x with
        | false =>
          have e := hide (isF_bad hkl.out (goodF_name (by rw [← hx.out]; exact g1)))
          go_wp2_with (first
          | (go_at_call 23; refine (name_calls _ (by with_reducible assumption) _).mono ?_; rintro _ w3 ⟨rfl, hw3⟩; obtain rfl : w2 = w3 := hw3.symm)
          | (go_at_call 24; refine (kind_calls _ _).mono ?_; rintro _ w3 ⟨rfl, hw3⟩; obtain rfl : w2 = w3 := hw3.symm))
          go_ret
          exact ⟨ret_bool e.out, hu.out⟩
        | true =>
          cases g2 : kindF y with
          | false =>
            have e := hide (isF_bad hkl.out (kindF_bad (by rw [← hy.out]; exact g2)))
            go_wp2_with (first
          | (go_at_call 23; refine (name_calls _ (by with_reducible assumption) _).mono ?_; rintro _ w3 ⟨rfl, hw3⟩; obtain rfl : w2 = w3 := hw3.symm)
          | (go_at_call 24; refine (kind_calls _ _).mono ?_; rintro _ w3 ⟨rfl, hw3⟩; obtain rfl : w2 = w3 := hw3.symm))
            go_ret
            exact ⟨ret_bool e.out, hu.out⟩
          | true =>
            have hk5 := hide (kindF_good g2)
            go_wp2_with (first
          | (go_at_call 23; refine (name_calls _ (by with_reducible assumption) _).mono ?_; rintro _ w3 ⟨rfl, hw3⟩; obtain rfl : w2 = w3 := hw3.symm)
          | (go_at_call 24; refine (kind_calls _ _).mono ?_; rintro _ w3 ⟨rfl, hw3⟩; obtain rfl : w2 = w3 := hw3.symm))
            go_roundw
            case rel =>
              refine ⟨k + 1, by omega, by go_num, hu.out, fun j hj => ?_⟩
              rcases Nat.lt_succ_iff_lt_or_eq.1 hj with hj | rfl
              · exact he.out j hj
              · exact goodF_all (by rw [← hx.out]; exact g1) (by rw [← hy.out]; exact hk5.out.1) (by rw [← hy.out]; exact hk5.out.2) (fun i h => by rw [← hx.out]; exact g0'.out i h)
            case measure => simp [intOf]; omega
    · obtain rfl : k = n := by omega
      have t3 : decide ((k : Int) < k) = false := decide_eq_false (by omega)
      have e := hide (isF_all (fun j hj => he.out j (by have := hl.out; omega)) : isF l = _)
      rw [hl.out, decide_eq_true h0, decide_eq_true h8] at e
      go_wp2
      go_ret
      exact ⟨ret_bool e.out, hu.out⟩

theorem sis_calls (a : Option Addr) (n c : Nat) (l : List FT) (w : World) (hnc : n ≤ c) (hc : c ≤ maxLen) (hv : Flds w a n l) :
    Calls Try.prog 13 #[.slice a n c] w fun e w' => e = .returned (.bool (isF l)) ∧ Up w w' := by
  by_cases h8 : 8 < n
  · refine (sis_many _ _ _ h8 _).mono ?_
    rintro _ _ ⟨rfl, rfl⟩
    exact ⟨ret_bool (isF_many (by rw [hv.1]; exact h8)), Up.refl _⟩
  rcases hv.2.2 with rfl | ⟨b, off, rfl, _⟩
  · obtain rfl : l = [] := List.length_eq_zero_iff.1 hv.1
    refine (sis_none _ _ _).mono ?_
    rintro _ _ ⟨rfl, rfl⟩
    exact ⟨rfl, Up.refl _⟩
  · by_cases h0 : n < 1
    · obtain rfl : n = 0 := by omega
      obtain rfl : l = [] := List.length_eq_zero_iff.1 hv.1
      refine (sis_none _ _ _).mono ?_
      rintro _ _ ⟨rfl, rfl⟩
      exact ⟨rfl, Up.refl _⟩
    · exact sis_some _ _ _ _ l w (by omega) (by omega) hnc hc hv

end Go.Proofs.Yteigjboelhcaiaa
