/-
  RowRoom, walked.
-/
import Derived.Test.YtaodekbpjkcpeaaRowKnw
namespace Go.Proofs.Ytaodekbpjkcpeaa
open Go.ChangeShapes Go.WideShapes Go.ChangeAt Go.RowKit
set_option linter.unusedVariables false
attribute [local go_sem ↓] Go.wp_at_zero Go.wp_at_succ
attribute [local go_sem] run_store_float

/-- A store whose rows are those from lo on, below its next number. -/
def RoomR (p : Nat) (w wr : World) (n : Nat) (lo nx wrt : Int) (cnt : Nat) : Prop :=
  ∃ O R, Sto p O wr n nx wrt R cnt ∧ (∀ x, lo ≤ x → x < nx → ∃ d, R x = some d) ∧ (∀ x, x < lo → R x = none) ∧ Up w wr ∧ ∀ x, O x → w.heap.size ≤ x
theorem RoomR.up {p n cnt : Nat} {w wr w' : World} {lo nx wrt : Int} (h : RoomR p w wr n lo nx wrt cnt) (hu : Up wr w') : RoomR p w w' n lo nx wrt cnt := by
  obtain ⟨O, R, h1, h2, h3, h4, h5⟩ := h
  exact ⟨O, R, h1.up hu, h2, h3, h4.trans hu, h5⟩

/-- A number is inserted. -/
theorem RoomR.inserted {p n cnt : Nat} {w wr w2 w3 : World} {lo nx wrt : Int} {m : List VT} {O O' : Nat → Prop} {R : Int → Option RD} (h1 : Sto p O wr n nx wrt R cnt) (h2 : ∀ x, lo ≤ x → x < nx → ∃ d, R x = some d) (h3 : ∀ x, x < lo → R x = none) (h4 : Up w wr) (h5 : ∀ x, O x → w.heap.size ≤ x) (hlo : lo ≤ nx)
    (hu : Up wr w2) (hs : Sto p O' w3 n (nx + 1) (wrt + 1) (upd R nx (some (1, m))) (cnt + 1)) (hc : Chg O w2 w3) (ho : ∀ y, O' y → O y ∨ w2.heap.size ≤ y) : RoomR p w w3 n lo (nx + 1) (wrt + 1) (cnt + 1) := by
  refine ⟨O', _, hs, fun x hx1 hx2 => ?_, fun x hx => ?_, (h4.trans hu).thenChg hc (fun x hx e => by have := h5 x e; omega), fun x hx => (ho x hx).elim (h5 x) (fun h => Nat.le_trans (h4.trans hu).size h)⟩
  · by_cases e : x = nx
    · subst e; exact ⟨_, upd_same _ _ _⟩
    · rw [upd_other _ _ e]; exact h2 x hx1 (by omega)
  · rw [upd_other _ _ (by omega)]; exact h3 x hx
/-- The least is erased. -/
theorem RoomR.erased {p n cnt : Nat} {w wr w3 : World} {lo nx wrt : Int} {O O' : Nat → Prop} {R : Int → Option RD} (h2 : ∀ x, lo ≤ x → x < nx → ∃ d, R x = some d) (h3 : ∀ x, x < lo → R x = none) (h4 : Up w wr) (h5 : ∀ x, O x → w.heap.size ≤ x)
    (hs : Sto p O' w3 n nx (wrt + 1) (upd R lo none) cnt) (hc : Chg O wr w3) (ho : ∀ y, O' y → O y ∨ wr.heap.size ≤ y) : RoomR p w w3 n (lo + 1) nx (wrt + 1) cnt := by
  refine ⟨O', _, hs, fun x hx1 hx2 => ?_, fun x hx => ?_, h4.thenChg hc (fun x hx e => by have := h5 x e; omega), fun x hx => (ho x hx).elim (h5 x) (fun h => Nat.le_trans h4.size h)⟩
  · rw [upd_other _ _ (by omega)]; exact h2 x (by omega) hx2
  · by_cases e : x = lo
    · subst e; exact upd_same _ _ _
    · rw [upd_other _ _ e]; exact h3 x (by omega)

set_option maxRecDepth 20000 in
set_option maxHeartbeats 16000000 in
theorem rowRoom_all (a0 : Int) (b : Nat) (w : World) (hb : b < 256) : Calls Try.prog 6 #[.int .i64 a0, .int .u8 b] w fun e w' => e = .returned (.bool true) ∧ Up w w' := by
  by_cases h1 : a0 > 1000 ∨ a0 < -1000
  · by_cases h2 : a0 > 1000
    · have t1 : decide (a0 > 1000) = true := decide_eq_true h2
      go_enter Try.func6, Try.ntmps6
      go_wp2_with fail
      go_at_call 8
      refine (known_calls _).mono ?_
      rintro _ w1 ⟨rfl, hu1⟩
      have HU := hide hu1
      clear hu1
      go_wp2
      go_ret
      exact ⟨rfl, HU.out⟩
    · have t1 : decide (a0 > 1000) = false := decide_eq_false h2
      have t2 : decide (a0 < -1000) = true := decide_eq_true (by omega)
      go_enter Try.func6, Try.ntmps6
      go_wp2_with fail
      go_at_call 8
      refine (known_calls _).mono ?_
      rintro _ w1 ⟨rfl, hu1⟩
      have HU := hide hu1
      clear hu1
      go_wp2
      go_ret
      exact ⟨rfl, HU.out⟩
  · have t1 : decide (a0 > 1000) = false := decide_eq_false (by omega)
    have t2 : decide (a0 < -1000) = false := decide_eq_false (by omega)
    have hn := roomN_le a0
    have hk : max 0 (min a0 200) = ((roomN a0 : Nat) : Int) := by unfold roomN; split; omega; split <;> omega
    generalize hroom : roomN a0 = n at *
    go_enter Try.func6, Try.ntmps6
    go_wp2_with fail
    go_at_call 8
    refine (known_calls _).mono ?_
    rintro _ w1 ⟨rfl, hu1⟩
    go_wp2_with fail
    go_at_call 10
    refine (new_calls a0 w1).mono ?_
    rintro _ w2 ⟨p, O, rfl, hp, hs2, hu2, ho2⟩
    rw [hroom] at hs2
    have hr0 : Hid (RoomR p w w2 n 1 1 0 0) := ⟨O, _, hs2, fun x h1 h2 => by omega, fun _ _ => rfl, hu1.trans hu2, fun x hx => Nat.le_trans hu1.size (ho2 x hx)⟩
    clear hs2 hu2 ho2 hu1 hp hroom h1
    go_wp2_with fail
    go_loopw [7] (fun i wr => ∃ j : Nat, j ≤ n ∧ i = .int .i64 j ∧ RoomR p w wr n 1 (j + 1) j j) (fun i _ => n - (intOf i).toNat)
    case atStart => exact ⟨0, Nat.zero_le _, rfl, hr0.out⟩
    case round =>
      clear hr0
      obtain ⟨j, hj, rfl, hr⟩ := hrel
      by_cases hlt : j < n
      · have t3 : decide ((j : Int) < n) = true := decide_eq_true (by omega)
        obtain ⟨O, R, q1, q2, q3, q4, q5⟩ := hr
        replace q1 := hide q1
        replace q2 := hide q2
        replace q3 := hide q3
        replace q4 := hide q4
        replace q5 := hide q5
        go_wp2_with fail
        go_at_call 32
        refine (num_calls j wr (by omega) (by omega)).mono ?_
        rintro _ w3 ⟨a3, rfl, hn3, hu3⟩
        have hs3 := hide (q1.out.up hu3)
        have hv3 := hide (hn3.valsO q1.out.olt)
        have HU3 := hide hu3
        clear hn3 hu3
        go_wp2_with fail
        go_at_call 12
        refine (insert_ok p n 1 1 j O (j + 1) j R a3 [numV j] w3 hs3.out hlt (by omega) (by omega) hv3.out (small_num _)).mono ?_
        rintro _ w4 ⟨rfl, O4, hs4, hc4, ho4⟩
        have hr4 := hide (RoomR.inserted q1.out q2.out q3.out q4.out q5.out (by omega) HU3.out hs4 hc4 ho4)
        clear q1 q2 q3 q4 q5 hs3 hv3 HU3 hs4 hc4 ho4
        go_wp2
        go_roundw
        case rel => exact ⟨j + 1, by omega, by go_num, by simpa using hr4.out⟩
        case measure => simp [intOf]; omega
      · obtain rfl : j = n := by omega
        have t3 : decide ((j : Int) < j) = false := decide_eq_false (by omega)
        obtain ⟨O, R, q1, q2, q3, q4, q5⟩ := hr
        replace q1 := hide q1
        replace q2 := hide q2
        replace q3 := hide q3
        replace q4 := hide q4
        replace q5 := hide q5
        go_wp2_with fail
        go_at_call 32
        refine (num_calls 7 wr (by omega) (by omega)).mono ?_
        rintro _ w3 ⟨a3, rfl, hn3, hu3⟩
        have hs3 := hide (q1.out.up hu3)
        have HU3 := hide hu3
        clear hn3 hu3
        go_wp2_with fail
        go_at_call 12
        refine (insert_full p j 1 1 O (j + 1) j R a3 w3 hs3.out).mono ?_
        rintro _ w4 ⟨rfl, hu4⟩
        have hs4 := hide (hs3.out.up hu4)
        have HU4 := hide (HU3.out.trans hu4)
        clear hs3 hu4 HU3
        go_wp2_with fail
        go_at_call 28
        refine (slen_calls p j j O (j + 1) j R w4 hs4.out).mono ?_
        rintro _ w9 ⟨rfl, hw9⟩
        obtain rfl : w4 = w9 := hw9.symm
        have hr4 : Hid (RoomR p w w4 j 1 (j + 1) j j) := ⟨O, R, hs4.out, q2.out, q3.out, q4.out.trans HU4.out, q5.out⟩
        clear q1 q2 q3 q4 q5 hs4 HU4
        go_wp2
        clear hj hlt t3
        go_loopw [12] (fun i wr => ∃ t : Nat, t ≤ 10 ∧ t ≤ j ∧ i = .int .i64 t ∧ RoomR p w wr j (t + 1) (j + t + 1) (j + 2 * t) j) (fun i _ => 10 - (intOf i).toNat)
        case atStart => exact ⟨0, by decide, Nat.zero_le _, rfl, by simpa using hr4.out⟩
        case round =>
          clear hr4
          obtain ⟨t, ht, htj, rfl, hr⟩ := hrel
          have hr5 := hide hr
          clear hr
          have hend : ∀ W, RoomR p w W j (t + 1) (j + t + 1) (j + 2 * t) j → Calls Try.prog 28 #[.pointer (some ⟨p, 0, none⟩)] W fun e w' => e = .returned (.int .i64 j) ∧ w' = W ∧ Up w W := fun W ⟨O, R, q1, q2, q3, q4, q5⟩ => (slen_calls p j j O _ _ R W q1).mono (fun e w' ⟨h1, h2⟩ => ⟨h1, h2, q4⟩)
          have HE := hide hend
          clear hend
          have hb10 : b % 10 < 10 := Nat.mod_lt _ (by decide)
          by_cases hlt : t < b % 10
          · have t3 : decide ((t : Int) < (b : Int) % 10) = true := decide_eq_true (by omega)
            by_cases hlj : t < j
            · have t4 : decide ((t : Int) < j) = true := decide_eq_true (by omega)
              obtain ⟨O, R, q1, q2, q3, q4, q5⟩ := hr5.out
              obtain ⟨d, hd⟩ := q2 (t + 1) (by omega) (by omega)
              have Q1 := hide q1
              have Q2 := hide q2
              have Q3 := hide q3
              have Q4 := hide q4
              have Q5 := hide q5
              have HD := hide hd
              clear q1 q2 q3 q4 q5 hd hr5 HE
              go_wp2_with fail
              go_at_call 21
              refine (erase_ok p j j O (j + t + 1) (j + 2 * t) (t + 1) d R wr Q1.out (wf64_of (by omega) (by omega)) HD.out (by omega)).mono ?_
              rintro _ w5 ⟨rfl, h0j, O5, hs5, hc5, ho5⟩
              have hr6 := RoomR.erased Q2.out Q3.out Q4.out Q5.out hs5 hc5 ho5
              obtain ⟨O, R, q1, q2, q3, q4, q5⟩ := hr6
              clear Q1 Q2 Q3 Q4 Q5 HD hs5 hc5 ho5
              have Q1 := hide q1
              have Q2 := hide q2
              have Q3 := hide q3
              have Q4 := hide q4
              have Q5 := hide q5
              clear q1 q2 q3 q4 q5
              go_wp2_with fail
              go_at_call 32
              refine (num_calls 9 w5 (by omega) (by omega)).mono ?_
              rintro _ w6 ⟨a6, rfl, hn6, hu6⟩
              have hs6 := hide (Q1.out.up hu6)
              have hv6 := hide (hn6.valsO Q1.out.olt)
              have HU6 := hide hu6
              clear hn6 hu6
              go_wp2_with fail
              go_at_call 12
              refine (insert_ok p j 1 1 (j - 1) O (j + t + 1) (j + 2 * t + 1) R a6 [numV 9] w6 hs6.out (by omega) (by omega) (by omega) hv6.out (small_num _)).mono ?_
              rintro _ w7 ⟨rfl, O7, hs7, hc7, ho7⟩
              have hr7 := RoomR.inserted Q1.out Q2.out Q3.out Q4.out Q5.out (by omega) HU6.out hs7 hc7 ho7
              rw [show j - 1 + 1 = j by omega, show (j : Int) + 2 * t + 1 + 1 = j + 2 * (t + 1 : Nat) by omega, show (t : Int) + 1 + 1 = (t + 1 : Nat) + 1 by omega] at hr7
              have HR7 := hide hr7
              obtain ⟨O, R, q1, q2, q3, q4, q5⟩ := hr7
              clear Q1 Q2 Q3 Q4 Q5 hs6 hv6 HU6 hs7 hc7 ho7
              have hnn := q3 (t + 1) (by omega)
              have Q1 := hide q1
              have HN := hide hnn
              clear q1 q2 q3 q4 q5 hnn
              have e1 : (((j : Int) + t + 1) != ((j : Int) + t + 1)) = false := by simp
              go_wp2_with fail
              go_at_call 23
              refine (put_full p j 0 0 O _ _ (t + 1) 0 R none w7 Q1.out HN.out (by omega) (by omega)).mono ?_
              rintro _ w8 ⟨rfl, hu8⟩
              have HR8 := hide (HR7.out.up hu8)
              clear HR7 hu8 Q1 HN
              go_wp2
              go_roundw
              case rel => exact ⟨t + 1, by omega, by omega, by go_num, by simpa [Int.add_assoc] using HR8.out⟩
              case measure => simp [intOf]; omega
            · have t4 : decide ((t : Int) < j) = false := decide_eq_false (by omega)
              go_wp2_with fail
              go_at_call 28
              refine (HE.out wr hr5.out).mono ?_
              rintro _ w9 ⟨rfl, hw9, hu9⟩
              obtain rfl : wr = w9 := hw9.symm
              have HU9 := hide hu9
              clear hu9
              go_wp2
              go_ret
              exact ⟨by simp, HU9.out⟩
          · have t3 : decide ((t : Int) < (b : Int) % 10) = false := decide_eq_false (by omega)
            go_wp2_with fail
            go_at_call 28
            refine (HE.out wr hr5.out).mono ?_
            rintro _ w9 ⟨rfl, hw9, hu9⟩
            obtain rfl : wr = w9 := hw9.symm
            have HU9 := hide hu9
            clear hu9
            go_wp2
            go_ret
            exact ⟨by simp, HU9.out⟩

end Go.Proofs.Ytaodekbpjkcpeaa
