/-
  What strconv.ParseUint answers at base 16 (64 bits, 8 bits), as the library's text runs; what its two ends mean for package text.
-/
import Derived.Test.YtjnnmghehoodhaaGreatDoorTabs
import Derived.Test.YtjnnmghehoodhaaGreatDoorTextOrd
import Derived.Test.YtjnnmghehoodhaaGreatDoorBytes
import Derived.Lib.Strings
import Derived.Lib.Walk
import Derived.Lib.ConvBytes
import Derived.Lib.AtoiAllMem
import Derived.Lib.Hide
import Derived.Laws.Strings3
import Derived.Laws.Closers25
import Derived.Laws.Closers25b
import Derived.BigCall
import Derived.BigGuard
namespace Go.Proofs.YtjnnmghehoodhaaGreatDoor
open Go.ChangeShapes Go.WideShapes Go.ChangeAt Go.RowKit
attribute [local go_sem ↓] Go.wp_at_zero Go.wp_at_succ
set_option linter.unusedVariables false

/-- A digit of sixteen as the library reads one: capital letters too. -/
def dig16 (c : UInt8) : Option Nat :=
  if 48 ≤ c.toNat ∧ c.toNat ≤ 57 then some (c.toNat - 48) else if 97 ≤ (c ||| 32).toNat ∧ (c ||| 32).toNat ≤ 102 then some ((c ||| 32).toNat - 87) else none
/-- Digits of sixteen, none of what they mean beyond M. -/
def pu16 (M acc : Nat) : List UInt8 → Go.Lib.NumEnd Nat
  | [] => .ok acc
  | c :: r => match dig16 c with
    | none => .syntax
    | some d => if 1152921504606846976 ≤ acc then .range else if M < acc * 16 + d then .range else pu16 M (acc * 16 + d) r
theorem pu16_none {M acc : Nat} {c : UInt8} {r : List UInt8} (h : dig16 c = none) : pu16 M acc (c :: r) = .syntax := by rw [pu16, h]
theorem pu16_cut {M acc d : Nat} {c : UInt8} {r : List UInt8} (h : dig16 c = some d) (hc : 1152921504606846976 ≤ acc) : pu16 M acc (c :: r) = .range := by rw [pu16, h]; exact if_pos hc
theorem pu16_over {M acc d : Nat} {c : UInt8} {r : List UInt8} (h : dig16 c = some d) (hc : ¬ 1152921504606846976 ≤ acc) (ho : M < acc * 16 + d) : pu16 M acc (c :: r) = .range := by
  rw [pu16, h]; exact (if_neg hc).trans (if_pos ho)
theorem pu16_next {M acc d : Nat} {c : UInt8} {r : List UInt8} (h : dig16 c = some d) (hc : ¬ 1152921504606846976 ≤ acc) (ho : ¬ M < acc * 16 + d) : pu16 M acc (c :: r) = pu16 M (acc * 16 + d) r := by
  rw [pu16, h]; exact (if_neg hc).trans (if_neg ho)
/-- The library's four sorts of signs. -/
theorem dig16_sorts (c : UInt8) : ∃ x : Nat, bits .or .u8 (c.toNat : Int) 32 = (x : Int) ∧ x < 256 ∧ ((48 ≤ c.toNat ∧ c.toNat ≤ 57 ∧ dig16 c = some (c.toNat - 48))
    ∨ (57 < c.toNat ∧ 97 ≤ x ∧ x ≤ 102 ∧ dig16 c = some (x - 87)) ∨ ((c.toNat < 48 ∨ 57 < c.toNat) ∧ (x < 97 ∨ 102 < x) ∧ dig16 c = none)) := by
  have h : ∀ n : Fin 256, ∃ x : Nat, bits .or .u8 (n.val : Int) 32 = (x : Int) ∧ x < 256 ∧ x = ((UInt8.ofNat n.val) ||| 32).toNat := by
    intro n
    refine ⟨((UInt8.ofNat n.val) ||| 32).toNat, ?_, UInt8.toNat_lt _, rfl⟩
    revert n
    decide +kernel
  obtain ⟨x, h1, h2, h3⟩ := h ⟨c.toNat, c.toNat_lt⟩
  refine ⟨x, h1, h2, ?_⟩
  have h3' : x = (c ||| 32).toNat := by rw [h3]; simp
  have hb : 97 ≤ (c ||| 32).toNat → (c ||| 32).toNat ≤ 102 → ¬ (48 ≤ c.toNat ∧ c.toNat ≤ 57) → 57 < c.toNat := by
    have k : ∀ n : Fin 256, 97 ≤ ((UInt8.ofNat n.val) ||| 32).toNat → ((UInt8.ofNat n.val) ||| 32).toNat ≤ 102 → ¬ (48 ≤ n.val ∧ n.val ≤ 57) → 57 < n.val := by decide +kernel
    have := k ⟨c.toNat, c.toNat_lt⟩
    simpa using this
  subst h3'
  unfold dig16
  by_cases hd : 48 ≤ c.toNat ∧ c.toNat ≤ 57
  · exact .inl ⟨hd.1, hd.2, if_pos hd⟩
  · by_cases hl : 97 ≤ (c ||| 32).toNat ∧ (c ||| 32).toNat ≤ 102
    · exact .inr (.inl ⟨hb hl.1 hl.2 hd, hl.1, hl.2, (if_neg hd).trans (if_pos hl)⟩)
    · exact .inr (.inr ⟨by omega, by omega, (if_neg hd).trans (if_neg hl)⟩)

/-- What the library's ParseUint hands back: T the inner error's type, M the greatest number. -/
def puTup (T : TypeId) (M : Int) : Go.Lib.NumEnd Nat → Value
  | .ok n => .tuple #[.int .u64 n, .nilIface]
  | .syntax => .tuple #[.int .u64 0, .iface T (.int .i64 2)]
  | .range => .tuple #[.int .u64 M, .iface T (.int .i64 1)]

set_option maxHeartbeats 32000000 in
set_option maxRecDepth 100000 in
theorem ipu64_calls (t : ByteArray) (hne : t.size ≠ 0) (hmax : t.size ≤ 1000000) (w : World) :
    Calls Tryz.prog 55 #[.string t, .int .i64 16, .int .i64 64] w fun e w' => e = .returned (puTup 86 18446744073709551615 (pu16 18446744073709551615 0 t.data.toList)) ∧ w' = Go.Lib.bytesWorld w 5 t := by
  have hemp : t.toList.isEmpty = false := by
    rw [← decide_eq_emptyBytes]
    exact decide_eq_false (fun h => hne (by rw [h]; rfl))
  have hcv := Go.Lib.run_convert_string_bytes (P := Tryz.prog) w 9 42 5 t (u := .string) Tryz.underlying9 Tryz.underlying42 Tryz.underlying5
  have hB : ∀ j, j < t.size → (Go.Lib.bytesWorld w 5 t).cell? ⟨w.heap.size, j, none⟩ = some (.int .u8 (t.data.toList.getD j 0).toNat) := fun j hj => Go.Lib.bytesWorld_cell w 5 t j hj
  obtain ⟨W1, hW1⟩ : ∃ W1, W1 = Go.Lib.bytesWorld w 5 t := ⟨_, rfl⟩
  rw [← hW1] at hcv hB ⊢
  clear hW1
  obtain ⟨bs, hL⟩ : ∃ bs, bs = t.data.toList := ⟨_, rfl⟩
  have hLn : bs.length = t.size := by rw [hL, Go.Lib.size_eq]
  rw [← hL] at hB ⊢
  clear hL
  have hmv : IntKind.u64.wrap (IntKind.u64.wrap 18446744073709551616 - 1) = 18446744073709551615 := by
    rw [IntKind.wrap_u64, IntKind.wrap_u64]
    decide
  go_enter Tryz.func55, Tryz.ntmps55
  go_wp2
  go_loop [12, 13, 101] (fun vu vn vi => ∃ (k acc : Nat) (a : Int), vu = .bool false ∧ vn = .int .u64 a ∧ vi = .int .i64 k ∧ k ≤ t.size ∧ Hid (a = (acc : Int) ∧ acc ≤ 18446744073709551615 ∧ pu16 18446744073709551615 0 bs = pu16 18446744073709551615 acc (bs.drop k)))
    (fun _ _ vi => t.size - (intOf vi).toNat)
  case atStart => exact ⟨0, 0, 0, rfl, rfl, rfl, by omega, rfl, by omega, rfl⟩
  case round =>
    obtain ⟨k, acc, a, rfl, rfl, rfl, hk, hh⟩ := hrel
    obtain ⟨ha, hacc, hdec⟩ := hh.out
    clear hh
    have a0 : 0 ≤ a := by omega
    have a1 : a ≤ 18446744073709551615 := by omega
    by_cases hkn : k < t.size
    · have hc := hB k hkn
      have hdrop : bs.drop k = bs[k]'(by omega) :: bs.drop (k + 1) := List.drop_eq_getElem_cons (by omega)
      have hget : bs.getD k 0 = bs[k]'(by omega) := by simp [List.getD, List.getElem?_eq_getElem (show k < bs.length by omega)]
      rw [hdrop] at hdec
      rw [hget] at hc
      generalize bs[k]'(by omega) = c at hc hdec
      have hc256 : c.toNat < 256 := c.toNat_lt
      clear hB hdrop hget
      obtain ⟨x, hor, hx, ⟨hd0, hd1, hdig⟩ | ⟨hd0, hx0, hx1, hdig⟩ | ⟨hd0, hx0, hdig⟩⟩ := dig16_sorts c
      · clear hor hx
        have hd16 : dig16 c = some (c.toNat - 48) := hdig
        by_cases hcut : 1152921504606846976 ≤ acc
        · have hF := pu16_cut (M := 18446744073709551615) (r := bs.drop (k + 1)) hd16 hcut
          rw [hF] at hdec
          have icut : 1152921504606846976 ≤ a := by omega
          clear hcut hacc hF ha hd16 hdig
          go_wp2
          go_ret2
          first | exact ⟨rfl, rfl⟩ | exact ⟨by rw [hdec]; rfl, rfl⟩
        · by_cases hov : 18446744073709551615 < acc * 16 + (c.toNat - 48)
          · omega
          · have hF := pu16_next (M := 18446744073709551615) (r := bs.drop (k + 1)) hd16 hcut hov
            have HN : Hid (a * 16 + ((c.toNat : Int) - 48) = ((acc * 16 + (c.toNat - 48) : Nat) : Int) ∧ acc * 16 + (c.toNat - 48) ≤ 18446744073709551615 ∧ pu16 18446744073709551615 0 bs = pu16 18446744073709551615 (acc * 16 + (c.toNat - 48)) (bs.drop (k + 1))) := Go.Lib.hid ⟨by omega, by omega, hdec.trans hF⟩
            have icut : a < 1152921504606846976 := by omega
            have iov : a * 16 + ((c.toNat : Int) - 48) ≤ 18446744073709551615 := by omega
            clear hcut hacc hF hov hdec ha hd16 hdig
            go_wp2
            refine ⟨⟨k + 1, acc * 16 + (c.toNat - 48), a * 16 + ((c.toNat : Int) - 48), rfl, (by first | rfl | (congr 1; omega)), (by first | rfl | (congr 1; omega)), by omega, HN⟩, by simp [intOf]; omega⟩
      · have q0 : (57 : Int) < (c.toNat : Int) := by omega
        have q1 : (97 : Int) ≤ (x : Int) := by omega
        have q2 : (x : Int) ≤ 102 := by omega
        have q3 : ((c.toNat : Int) == 95) = false := by
          rw [beq_eq_false_iff_ne]
          intro h95
          have : c = 95 := UInt8.toNat_inj.1 (by show c.toNat = 95; omega)
          subst this
          have hb : bits .or .u8 (((95 : UInt8).toNat : Int)) 32 = 127 := by decide
          rw [hb] at hor
          omega
        have hd16 : dig16 c = some (x - 87) := hdig
        by_cases hcut : 1152921504606846976 ≤ acc
        · have hF := pu16_cut (M := 18446744073709551615) (r := bs.drop (k + 1)) hd16 hcut
          rw [hF] at hdec
          have icut : 1152921504606846976 ≤ a := by omega
          clear hcut hacc hF ha hd16 hdig
          go_wp2_with (go_at_call 66; refine (Tryz.internal_strconv_lower _ _).mono ?_; rintro _ _ ⟨rfl, rfl⟩; rw [hor])
          go_ret2
          first | exact ⟨rfl, rfl⟩ | exact ⟨by rw [hdec]; rfl, rfl⟩
        · by_cases hov : 18446744073709551615 < acc * 16 + (x - 87)
          · omega
          · have hF := pu16_next (M := 18446744073709551615) (r := bs.drop (k + 1)) hd16 hcut hov
            have HN : Hid (a * 16 + ((x : Int) - 87) = ((acc * 16 + (x - 87) : Nat) : Int) ∧ acc * 16 + (x - 87) ≤ 18446744073709551615 ∧ pu16 18446744073709551615 0 bs = pu16 18446744073709551615 (acc * 16 + (x - 87)) (bs.drop (k + 1))) := Go.Lib.hid ⟨by omega, by omega, hdec.trans hF⟩
            have icut : a < 1152921504606846976 := by omega
            have iov : a * 16 + ((x : Int) - 87) ≤ 18446744073709551615 := by omega
            clear hcut hacc hF hov hdec ha hd16 hdig
            go_wp2_with (go_at_call 66; refine (Tryz.internal_strconv_lower _ _).mono ?_; rintro _ _ ⟨rfl, rfl⟩; rw [hor])
            refine ⟨⟨k + 1, acc * 16 + (x - 87), a * 16 + ((x : Int) - 87), rfl, (by first | rfl | (congr 1; omega)), (by first | rfl | (congr 1; omega)), by omega, HN⟩, by simp [intOf]; omega⟩
      · have hF := pu16_none (M := 18446744073709551615) (acc := acc) (r := bs.drop (k + 1)) hdig
        rw [hF] at hdec
        clear hacc hF ha hdig
        by_cases h95 : c = 95
        · subst h95
          have hc' : W1.cell? ⟨w.heap.size, k, none⟩ = some (.int .u8 95) := hc
          replace hor : bits .or .u8 95 32 = 127 := by decide
          clear hc hx0 hd0 hx
          go_wp2_with (go_at_call 66; refine (Tryz.internal_strconv_lower _ _).mono ?_; rintro _ _ ⟨rfl, rfl⟩; rw [hor])
          all_goals go_ret2
          all_goals first | exact ⟨rfl, rfl⟩ | exact ⟨by rw [hdec]; rfl, rfl⟩
        · have q3 : ((c.toNat : Int) == 95) = false := by
            rw [beq_eq_false_iff_ne]
            intro h
            exact h95 (UInt8.toNat_inj.1 (by show c.toNat = 95; omega))
          clear h95
          go_wp2_with (go_at_call 66; refine (Tryz.internal_strconv_lower _ _).mono ?_; rintro _ _ ⟨rfl, rfl⟩; rw [hor])
          all_goals first | (exfalso; omega) | skip
          all_goals go_ret2
          all_goals first | exact ⟨rfl, rfl⟩ | exact ⟨by rw [hdec]; rfl, rfl⟩
    · have hkk : k = t.size := by omega
      subst hkk
      have hF : pu16 18446744073709551615 acc (bs.drop t.size) = .ok acc := by rw [List.drop_eq_nil_of_le (by omega)]; rfl
      rw [hF] at hdec
      subst ha
      clear hacc hF a0 a1
      go_wp2
      go_ret2
      first | exact ⟨rfl, rfl⟩ | exact ⟨by rw [hdec]; rfl, rfl⟩

set_option maxHeartbeats 32000000 in
set_option maxRecDepth 100000 in
theorem ipu8_calls (t : ByteArray) (hne : t.size ≠ 0) (hmax : t.size ≤ 1000000) (w : World) :
    Calls Tryz.prog 55 #[.string t, .int .i64 16, .int .i64 8] w fun e w' => e = .returned (puTup 86 255 (pu16 255 0 t.data.toList)) ∧ w' = Go.Lib.bytesWorld w 5 t := by
  have hemp : t.toList.isEmpty = false := by
    rw [← decide_eq_emptyBytes]
    exact decide_eq_false (fun h => hne (by rw [h]; rfl))
  have hcv := Go.Lib.run_convert_string_bytes (P := Tryz.prog) w 9 42 5 t (u := .string) Tryz.underlying9 Tryz.underlying42 Tryz.underlying5
  have hB : ∀ j, j < t.size → (Go.Lib.bytesWorld w 5 t).cell? ⟨w.heap.size, j, none⟩ = some (.int .u8 (t.data.toList.getD j 0).toNat) := fun j hj => Go.Lib.bytesWorld_cell w 5 t j hj
  obtain ⟨W1, hW1⟩ : ∃ W1, W1 = Go.Lib.bytesWorld w 5 t := ⟨_, rfl⟩
  rw [← hW1] at hcv hB ⊢
  clear hW1
  obtain ⟨bs, hL⟩ : ∃ bs, bs = t.data.toList := ⟨_, rfl⟩
  have hLn : bs.length = t.size := by rw [hL, Go.Lib.size_eq]
  rw [← hL] at hB ⊢
  clear hL
  go_enter Tryz.func55, Tryz.ntmps55
  go_wp2
  go_loop [12, 13, 101] (fun vu vn vi => ∃ (k acc : Nat) (a : Int), vu = .bool false ∧ vn = .int .u64 a ∧ vi = .int .i64 k ∧ k ≤ t.size ∧ Hid (a = (acc : Int) ∧ acc ≤ 255 ∧ pu16 255 0 bs = pu16 255 acc (bs.drop k)))
    (fun _ _ vi => t.size - (intOf vi).toNat)
  case atStart => exact ⟨0, 0, 0, rfl, rfl, rfl, by omega, rfl, by omega, rfl⟩
  case round =>
    obtain ⟨k, acc, a, rfl, rfl, rfl, hk, hh⟩ := hrel
    obtain ⟨ha, hacc, hdec⟩ := hh.out
    clear hh
    have a0 : 0 ≤ a := by omega
    have a1 : a ≤ 255 := by omega
    by_cases hkn : k < t.size
    · have hc := hB k hkn
      have hdrop : bs.drop k = bs[k]'(by omega) :: bs.drop (k + 1) := List.drop_eq_getElem_cons (by omega)
      have hget : bs.getD k 0 = bs[k]'(by omega) := by simp [List.getD, List.getElem?_eq_getElem (show k < bs.length by omega)]
      rw [hdrop] at hdec
      rw [hget] at hc
      generalize bs[k]'(by omega) = c at hc hdec
      have hc256 : c.toNat < 256 := c.toNat_lt
      clear hB hdrop hget
      obtain ⟨x, hor, hx, ⟨hd0, hd1, hdig⟩ | ⟨hd0, hx0, hx1, hdig⟩ | ⟨hd0, hx0, hdig⟩⟩ := dig16_sorts c
      · clear hor hx
        have hd16 : dig16 c = some (c.toNat - 48) := hdig
        by_cases hcut : 1152921504606846976 ≤ acc
        · omega
        · by_cases hov : 255 < acc * 16 + (c.toNat - 48)
          · have hF := pu16_over (M := 255) (r := bs.drop (k + 1)) hd16 hcut hov
            rw [hF] at hdec
            have icut : a < 1152921504606846976 := by omega
            have iov : 255 < a * 16 + ((c.toNat : Int) - 48) := by omega
            clear hcut hacc hF hov ha hd16 hdig
            go_wp2
            go_ret2
            first | exact ⟨rfl, rfl⟩ | exact ⟨by rw [hdec]; rfl, rfl⟩
          · have hF := pu16_next (M := 255) (r := bs.drop (k + 1)) hd16 hcut hov
            have HN : Hid (a * 16 + ((c.toNat : Int) - 48) = ((acc * 16 + (c.toNat - 48) : Nat) : Int) ∧ acc * 16 + (c.toNat - 48) ≤ 255 ∧ pu16 255 0 bs = pu16 255 (acc * 16 + (c.toNat - 48)) (bs.drop (k + 1))) := Go.Lib.hid ⟨by omega, by omega, hdec.trans hF⟩
            have icut : a < 1152921504606846976 := by omega
            have iov : a * 16 + ((c.toNat : Int) - 48) ≤ 255 := by omega
            clear hcut hacc hF hov hdec ha hd16 hdig
            go_wp2
            refine ⟨⟨k + 1, acc * 16 + (c.toNat - 48), a * 16 + ((c.toNat : Int) - 48), rfl, (by first | rfl | (congr 1; omega)), (by first | rfl | (congr 1; omega)), by omega, HN⟩, by simp [intOf]; omega⟩
      · have q0 : (57 : Int) < (c.toNat : Int) := by omega
        have q1 : (97 : Int) ≤ (x : Int) := by omega
        have q2 : (x : Int) ≤ 102 := by omega
        have q3 : ((c.toNat : Int) == 95) = false := by
          rw [beq_eq_false_iff_ne]
          intro h95
          have : c = 95 := UInt8.toNat_inj.1 (by show c.toNat = 95; omega)
          subst this
          have hb : bits .or .u8 (((95 : UInt8).toNat : Int)) 32 = 127 := by decide
          rw [hb] at hor
          omega
        have hd16 : dig16 c = some (x - 87) := hdig
        by_cases hcut : 1152921504606846976 ≤ acc
        · omega
        · by_cases hov : 255 < acc * 16 + (x - 87)
          · have hF := pu16_over (M := 255) (r := bs.drop (k + 1)) hd16 hcut hov
            rw [hF] at hdec
            have icut : a < 1152921504606846976 := by omega
            have iov : 255 < a * 16 + ((x : Int) - 87) := by omega
            clear hcut hacc hF hov ha hd16 hdig
            go_wp2_with (go_at_call 66; refine (Tryz.internal_strconv_lower _ _).mono ?_; rintro _ _ ⟨rfl, rfl⟩; rw [hor])
            go_ret2
            first | exact ⟨rfl, rfl⟩ | exact ⟨by rw [hdec]; rfl, rfl⟩
          · have hF := pu16_next (M := 255) (r := bs.drop (k + 1)) hd16 hcut hov
            have HN : Hid (a * 16 + ((x : Int) - 87) = ((acc * 16 + (x - 87) : Nat) : Int) ∧ acc * 16 + (x - 87) ≤ 255 ∧ pu16 255 0 bs = pu16 255 (acc * 16 + (x - 87)) (bs.drop (k + 1))) := Go.Lib.hid ⟨by omega, by omega, hdec.trans hF⟩
            have icut : a < 1152921504606846976 := by omega
            have iov : a * 16 + ((x : Int) - 87) ≤ 255 := by omega
            clear hcut hacc hF hov hdec ha hd16 hdig
            go_wp2_with (go_at_call 66; refine (Tryz.internal_strconv_lower _ _).mono ?_; rintro _ _ ⟨rfl, rfl⟩; rw [hor])
            refine ⟨⟨k + 1, acc * 16 + (x - 87), a * 16 + ((x : Int) - 87), rfl, (by first | rfl | (congr 1; omega)), (by first | rfl | (congr 1; omega)), by omega, HN⟩, by simp [intOf]; omega⟩
      · have hF := pu16_none (M := 255) (acc := acc) (r := bs.drop (k + 1)) hdig
        rw [hF] at hdec
        clear hacc hF ha hdig
        by_cases h95 : c = 95
        · subst h95
          have hc' : W1.cell? ⟨w.heap.size, k, none⟩ = some (.int .u8 95) := hc
          replace hor : bits .or .u8 95 32 = 127 := by decide
          clear hc hx0 hd0 hx
          go_wp2_with (go_at_call 66; refine (Tryz.internal_strconv_lower _ _).mono ?_; rintro _ _ ⟨rfl, rfl⟩; rw [hor])
          all_goals go_ret2
          all_goals first | exact ⟨rfl, rfl⟩ | exact ⟨by rw [hdec]; rfl, rfl⟩
        · have q3 : ((c.toNat : Int) == 95) = false := by
            rw [beq_eq_false_iff_ne]
            intro h
            exact h95 (UInt8.toNat_inj.1 (by show c.toNat = 95; omega))
          clear h95
          go_wp2_with (go_at_call 66; refine (Tryz.internal_strconv_lower _ _).mono ?_; rintro _ _ ⟨rfl, rfl⟩; rw [hor])
          all_goals first | (exfalso; omega) | skip
          all_goals go_ret2
          all_goals first | exact ⟨rfl, rfl⟩ | exact ⟨by rw [hdec]; rfl, rfl⟩
    · have hkk : k = t.size := by omega
      subst hkk
      have hF : pu16 255 acc (bs.drop t.size) = .ok acc := by rw [List.drop_eq_nil_of_le (by omega)]; rfl
      rw [hF] at hdec
      subst ha
      clear hacc hF a0 a1
      go_wp2
      go_ret2
      first | exact ⟨rfl, rfl⟩ | exact ⟨by rw [hdec]; rfl, rfl⟩

end Go.Proofs.YtjnnmghehoodhaaGreatDoor
