/-
  What the document's own helps of texts (package rialtoref4: hex, two, unhex, Digits) answer, as their text runs.
-/
import Derived.Test.YtjnnmghehoodhaaGreatDoorBytes
import Derived.Test.YtjnnmghehoodhaaGreatDoorTextOrd
namespace Go.Proofs.YtjnnmghehoodhaaGreatDoor
open Go.ChangeShapes Go.WideShapes Go.ChangeAt Go.RowKit
attribute [local go_sem ↓] Go.wp_at_zero Go.wp_at_succ

theorem hex_at : ∀ n, (h : n < 16) → ({ data := #[48, 49, 50, 51, 52, 53, 54, 55, 56, 57, 97, 98, 99, 100, 101, 102] } : ByteArray)[n]'h = hexD n := by decide

theorem rhex_calls (z : Int) (n : Nat) (hz : z = (n : Int)) (hn : n < 16) (w : World) : Calls Tryz.prog 35 #[.int .u8 z] w fun e w' => e = .returned (.int .u8 ((hexD n).toNat : Int)) ∧ w' = w := by
  subst hz
  go_enter Tryz.func35, Tryz.ntmps35
  go_wp2
  go_ret
  refine ⟨?_, rfl⟩
  rw [← hex_at n hn]
  rfl

set_option maxHeartbeats 4000000 in
theorem rtwo_calls (base : Nat) (v : Value) (l : List UInt8) (c : UInt8) (w : World) (hown : Own w base v l) (hb : base ≤ w.heap.size) (hlen : l.length ≤ 1000000) :
    Calls Tryz.prog 19 #[v, .int .u8 (c.toNat : Int)] w fun e w' => ∃ v', e = .returned v' ∧ Own w' base v' (l ++ [hexHi c, hexLo c]) ∧ Below base w w' := by
  have hsg : IntKind.u8.signed = false := rfl
  have h1 := hi_lt c
  have h2 := lo_lt c
  go_enter Tryz.func19, Tryz.ntmps19
  go_wp2_with fail
  go_at_call 35
  refine (rhex_calls _ (c.toNat / 16) (by omega) h1 w).mono ?_
  rintro _ _ ⟨rfl, rfl⟩
  go_wp2_with fail
  go_at_call 35
  refine (rhex_calls _ (c.toNat % 16) (by omega) h2 _).mono ?_
  rintro _ _ ⟨rfl, rfl⟩
  go_wp2_with (at_builtin; refine append_bytes rfl _ _ rfl base _ _ rfl (hown.alloc _) _ 2 2 [hexHi c, hexLo c] rfl rfl (bytes_new2 rfl rfl) (by omega) (Nat.le_trans hb (by simp)) ?_)
  intro u1 w1 ho1 hg1
  have hb1 := hide (below_append (Below.refl _ _) hb hown hg1)
  replace ho1 := hide ho1
  clear hg1 hown
  go_wp2
  go_ret
  exact ⟨_, rfl, ho1.out, hb1.out⟩

/-- What a digit means; -1: it is none. -/
def unhexI (c : UInt8) : Int := match unhexD c with | some x => (x : Int) | none => -1
theorem unhexI_dig {c : UInt8} (h1 : (48 : Int) ≤ (c.toNat : Int)) (h2 : (c.toNat : Int) ≤ 57) : unhexI c = (c.toNat : Int) - 48 := by
  unfold unhexI unhexD
  rw [if_pos ⟨by omega, by omega⟩]
  show ((c.toNat - 48 : Nat) : Int) = _
  omega
theorem unhexI_let {c : UInt8} (h1 : (97 : Int) ≤ (c.toNat : Int)) (h2 : (c.toNat : Int) ≤ 102) : unhexI c = (c.toNat : Int) - 97 + 10 := by
  unfold unhexI unhexD
  rw [if_neg (by omega), if_pos ⟨by omega, by omega⟩]
  show ((c.toNat - 87 : Nat) : Int) = _
  omega
theorem unhexI_none {c : UInt8} (h1 : ¬ ((48 : Int) ≤ (c.toNat : Int) ∧ (c.toNat : Int) ≤ 57)) (h2 : ¬ ((97 : Int) ≤ (c.toNat : Int) ∧ (c.toNat : Int) ≤ 102)) : unhexI c = -1 := by
  unfold unhexI unhexD
  rw [if_neg (by omega), if_neg (by omega)]

set_option maxHeartbeats 4000000 in
theorem runhex_calls (c : UInt8) (w : World) : Calls Tryz.prog 58 #[.int .u8 (c.toNat : Int)] w fun e w' => e = .returned (.int .i64 (unhexI c)) ∧ w' = w := by
  go_enter Tryz.func58, Tryz.ntmps58
  go_wp2
  all_goals go_ret
  all_goals refine ⟨?_, rfl⟩
  all_goals first
    | (rw [unhexI_dig (by assumption) (by assumption)]; rfl)
    | (rw [unhexI_let (by assumption) (by assumption)]; rfl)
    | (rw [unhexI_none (by omega) (by omega)]; rfl)

theorem conv_one (w : World) (z : Int) (b : UInt8) (h : z = (b.toNat : Int)) : (convert 42 9 (.slice (some ⟨w.heap.size, 0, none⟩) 1 1)).run Tryz.prog (w.alloc (.cells #[.int .u8 z] 5)) = .ok (.string ⟨#[b]⟩) (w.alloc (.cells #[.int .u8 z] 5)) := by
  refine conv_bts (l := [b]) ⟨rfl, .inr ⟨_, 0, rfl, fun i hi => ?_⟩⟩ (fun e => by cases e)
  obtain rfl : i = 0 := by omega
  subst h
  simp

/-- The digits of a number that isn't below nought, from behind. -/
theorem digits_step (u : Nat) (t : List UInt8) (h : ¬ u < 10) : decN (u / 10) ++ (UInt8.ofNat (48 + u % 10) :: t) = decN u ++ t := by
  rw [decN_great h, List.append_assoc]; rfl
theorem wrap_neg {n : Int} (h : n < 0) (hn : IntKind.i64.min ≤ n ∧ n ≤ IntKind.i64.max) : IntKind.u64.wrap (-IntKind.u64.wrap n) = (n.natAbs : Int) := by
  have h1 : IntKind.i64.min = -9223372036854775808 := by decide
  have h2 : IntKind.i64.max = 9223372036854775807 := by decide
  rw [h1, h2] at hn
  simp [IntKind.wrap, IntKind.signed, IntKind.bits]
  omega
theorem wrap_pos {n : Int} (h : ¬ n < 0) (hn : IntKind.i64.min ≤ n ∧ n ≤ IntKind.i64.max) : IntKind.u64.wrap n = (n.natAbs : Int) := by
  have h1 : IntKind.i64.min = -9223372036854775808 := by decide
  have h2 : IntKind.i64.max = 9223372036854775807 := by decide
  rw [h1, h2] at hn
  simp [IntKind.wrap, IntKind.signed, IntKind.bits]
  omega
theorem decN_len : ∀ (k n : Nat), n < 10 ^ (k + 1) → (decN n).length ≤ k + 1 := by
  intro k
  induction k with
  | zero =>
    intro n h
    rw [decN_small (by simpa using h)]; simp
  | succ k ih =>
    intro n h
    by_cases h9 : n < 10
    · rw [decN_small h9]; simp
    · rw [decN_great h9, List.length_append]
      have := ih (n / 10) (by rw [Nat.pow_succ] at h; omega)
      simp; omega
theorem natAbs_lt {n : Int} (hn : IntKind.i64.min ≤ n ∧ n ≤ IntKind.i64.max) : n.natAbs ≤ 9223372036854775808 := by
  have h1 : IntKind.i64.min = -9223372036854775808 := by decide
  have h2 : IntKind.i64.max = 9223372036854775807 := by decide
  rw [h1, h2] at hn
  omega
theorem one_append (d : UInt8) (t : List UInt8) : (⟨#[d]⟩ : ByteArray) ++ ⟨t.toArray⟩ = ⟨(d :: t).toArray⟩ := by
  apply ByteArray.ext
  simp [ByteArray.data_append]
set_option maxHeartbeats 4000000 in
theorem rdigits_pos (n : Int) (hn : IntKind.i64.min ≤ n ∧ n ≤ IntKind.i64.max) (hneg : ¬ n < 0) (w : World) : Calls Tryz.prog 18 #[.int .i64 n] w fun e w' => e = .returned (.string ⟨(decI n).toArray⟩) ∧ Up w w' := by
  have hsg : IntKind.u64.signed = false := rfl
  have hw := wrap_pos hneg hn
  have hd : decide (n < 0) = false := decide_eq_false hneg
  have HD : Hid (decI n = decN n.natAbs) := by unfold decI; exact if_neg hneg
  have hl : Hid ((decN n.natAbs).length ≤ 20) := decN_len 19 n.natAbs (by have := natAbs_lt hn; omega)
  have hab := natAbs_lt hn
  clear hneg
  go_enter Tryz.func18, Tryz.ntmps18
  go_wp2_with fail
  go_loopw [3, 4] (fun u s wr => ∃ (m : Nat) (t : List UInt8), u = .int .u64 (m : Int) ∧ s = .string ⟨t.toArray⟩ ∧ m ≤ 9223372036854775808 ∧ Hid (decN m ++ t = decN n.natAbs) ∧ Up w wr) (fun u _ _ => (intOf u).toNat)
  case atStart => exact ⟨n.natAbs, [], rfl, rfl, hab, List.append_nil _, Up.refl _⟩
  case round =>
    obtain ⟨m, t, rfl, rfl, hm, ht, hu⟩ := hrel
    replace hu := hide hu
    have htl : t.length ≤ 20 := by
      have h := congrArg List.length ht.out
      rw [List.length_append] at h
      have := hl.out
      omega
    have hwm : IntKind.u64.wrap ((m : Int) / 10) = (m : Int) / 10 := by
      simp [IntKind.wrap, IntKind.signed, IntKind.bits]
      omega
    obtain ⟨d, hdd⟩ : ∃ d, d = UInt8.ofNat (48 + m % 10) := ⟨_, rfl⟩
    have hcv := conv_one wr (48 + (m : Int) % 10) d (by rw [hdd, dig_toNat (by omega)]; omega)
    by_cases h9 : m < 10
    · have hz : ((m : Int) / 10 == 0) = true := by rw [beq_iff_eq]; omega
      have hf : Hid (d :: t = decN n.natAbs) := by
        have h := ht.out
        rw [decN_small h9] at h
        rw [hdd, Nat.mod_eq_of_lt h9]; exact h
      clear ht hdd
      go_wp2
      go_ret
      refine ⟨?_, hu.out.alloc _⟩
      show Ending.returned (.string ((⟨#[d]⟩ ++ ⟨t.toArray⟩))) = _
      rw [one_append, hf.out, ← HD.out]
    · have hz : ((m : Int) / 10 == 0) = false := by rw [beq_eq_false_iff_ne]; omega
      have hf : Hid (decN (m / 10) ++ (d :: t) = decN n.natAbs) := by rw [hdd]; exact (digits_step m t h9).trans ht.out
      clear ht hdd
      go_wp2
      go_roundw
      case rel => exact ⟨m / 10, d :: t, by congr 1, by rw [one_append], by omega, hf.out, hu.out.alloc _⟩
      case measure => simp [intOf]; omega

set_option maxHeartbeats 4000000 in
theorem rdigits_neg (n : Int) (hn : IntKind.i64.min ≤ n ∧ n ≤ IntKind.i64.max) (hneg : n < 0) (w : World) : Calls Tryz.prog 18 #[.int .i64 n] w fun e w' => e = .returned (.string ⟨(decI n).toArray⟩) ∧ Up w w' := by
  have hsg : IntKind.u64.signed = false := rfl
  have hw := wrap_neg hneg hn
  have hd : decide (n < 0) = true := decide_eq_true hneg
  have HD : Hid (decI n = 45 :: decN n.natAbs) := by unfold decI; exact if_pos hneg
  have hl : Hid ((decN n.natAbs).length ≤ 20) := decN_len 19 n.natAbs (by have := natAbs_lt hn; omega)
  have hab := natAbs_lt hn
  clear hneg
  go_enter Tryz.func18, Tryz.ntmps18
  go_wp2_with fail
  go_loopw [3, 4] (fun u s wr => ∃ (m : Nat) (t : List UInt8), u = .int .u64 (m : Int) ∧ s = .string ⟨t.toArray⟩ ∧ m ≤ 9223372036854775808 ∧ Hid (decN m ++ t = decN n.natAbs) ∧ Up w wr) (fun u _ _ => (intOf u).toNat)
  case atStart => exact ⟨n.natAbs, [], rfl, rfl, hab, List.append_nil _, Up.refl _⟩
  case round =>
    obtain ⟨m, t, rfl, rfl, hm, ht, hu⟩ := hrel
    replace hu := hide hu
    have htl : t.length ≤ 20 := by
      have h := congrArg List.length ht.out
      rw [List.length_append] at h
      have := hl.out
      omega
    have hwm : IntKind.u64.wrap ((m : Int) / 10) = (m : Int) / 10 := by
      simp [IntKind.wrap, IntKind.signed, IntKind.bits]
      omega
    obtain ⟨d, hdd⟩ : ∃ d, d = UInt8.ofNat (48 + m % 10) := ⟨_, rfl⟩
    have hcv := conv_one wr (48 + (m : Int) % 10) d (by rw [hdd, dig_toNat (by omega)]; omega)
    by_cases h9 : m < 10
    · have hz : ((m : Int) / 10 == 0) = true := by rw [beq_iff_eq]; omega
      have hf : Hid (d :: t = decN n.natAbs) := by
        have h := ht.out
        rw [decN_small h9] at h
        rw [hdd, Nat.mod_eq_of_lt h9]; exact h
      clear ht hdd
      go_wp2
      go_ret
      refine ⟨?_, hu.out.alloc _⟩
      show Ending.returned (.string (⟨#[45]⟩ ++ (⟨#[d]⟩ ++ ⟨t.toArray⟩))) = _
      rw [one_append d t, hf.out, one_append, ← HD.out]
    · have hz : ((m : Int) / 10 == 0) = false := by rw [beq_eq_false_iff_ne]; omega
      have hf : Hid (decN (m / 10) ++ (d :: t) = decN n.natAbs) := by rw [hdd]; exact (digits_step m t h9).trans ht.out
      clear ht hdd
      go_wp2
      go_roundw
      case rel => exact ⟨m / 10, d :: t, by congr 1, by rw [one_append], by omega, hf.out, hu.out.alloc _⟩
      case measure => simp [intOf]; omega

theorem rdigits_calls (n : Int) (hn : IntKind.i64.min ≤ n ∧ n ≤ IntKind.i64.max) (w : World) : Calls Tryz.prog 18 #[.int .i64 n] w fun e w' => e = .returned (.string ⟨(decI n).toArray⟩) ∧ Up w w' := by
  by_cases h : n < 0
  · exact rdigits_neg n hn h w
  · exact rdigits_pos n hn h w

end Go.Proofs.YtjnnmghehoodhaaGreatDoor
