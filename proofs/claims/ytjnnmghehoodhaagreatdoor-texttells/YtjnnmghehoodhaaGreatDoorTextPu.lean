/-
  What strconv.ParseUint answers at base 16 (64 bits, 8 bits): the library's own face.
-/
import Derived.Test.YtjnnmghehoodhaaGreatDoorTextHex
namespace Go.Proofs.YtjnnmghehoodhaaGreatDoor
open Go.ChangeShapes Go.WideShapes Go.ChangeAt Go.RowKit
attribute [local go_sem ↓] Go.wp_at_zero Go.wp_at_succ
set_option linter.unusedVariables false
set_option maxRecDepth 100000

/-- What ParseUint at base 16 reads, if it reads anything. -/
def puR (M : Nat) (l : List UInt8) : Option Nat := if l = [] then none else match pu16 M 0 l with
  | .ok n => some n
  | _ => none
def PuPost (M : Nat) (t : ByteArray) (w : World) (e : Ending) (w' : World) : Prop :=
  Up w w' ∧ ((∃ n, puR M t.data.toList = some n ∧ e = .returned (.tuple #[.int .u64 (n : Int), .nilIface])) ∨ (puR M t.data.toList = none ∧ ∃ (m : Nat) (te : TypeId) (pe : Value), m ≤ M ∧ e = .returned (.tuple #[.int .u64 (m : Int), .iface te pe])))
theorem up_bytes (w : World) (t : ByteArray) : Up w (Go.Lib.bytesWorld w 5 t) := Go.Lib.bytesWorld_below w 5 t
theorem nil_of_size {t : ByteArray} (h : t.size = 0) : t = ⟨#[]⟩ := by
  apply ByteArray.ext
  exact Array.eq_empty_of_size_eq_zero h
theorem ne_of_size {t : ByteArray} (h : t.size ≠ 0) : t.data.toList ≠ [] := fun e => h (by
  have := congrArg List.length e
  simpa using this)

set_option maxHeartbeats 4000000 in
theorem tpu64_calls (t : ByteArray) (hm : t.size ≤ 1000000) (w : World) (hT : Tabs w) : Calls Tryz.prog 38 #[.string t, .int .i64 16, .int .i64 64] w fun e w' => PuPost 18446744073709551615 t w e w' := by
  by_cases h0 : t.size = 0
  · obtain rfl := nil_of_size h0
    obtain ⟨a, b, hs⟩ := hT.syn
    have hR : Hid (puR 18446744073709551615 (⟨#[]⟩ : ByteArray).data.toList = none) := by exact rfl
    clear h0 hm
    go_enter Tryz.func38, Tryz.ntmps38
    go_wp2_with fail
    go_at_call 55
    refine (Tryz.internal_strconv_ParseUint_empty _ _ _).mono ?_
    rintro _ w1 ⟨rfl, hw1⟩
    obtain rfl : w = w1 := hw1.symm
    go_wp2_with fail
    go_at_call 56
    refine (Tryz.strconv_toError_syntax _ _ _ _ _ _ (by decide) hs (.inr ⟨_, _, rfl⟩)).mono ?_
    rintro _ w2 ⟨N, rfl, _, _, hb⟩
    have HU : Hid (Up w w2) := hb
    clear hb hs
    go_wp2
    go_ret2
    exact ⟨HU.out, .inr ⟨hR.out, 0, _, _, Nat.zero_le _, rfl⟩⟩
  · have hP := ipu64_calls t h0 hm w
    have hne := ne_of_size h0
    have hu := up_bytes w t
    obtain ⟨a, b, hs⟩ := (hT.up hu).syn
    obtain ⟨a', b', hr⟩ := (hT.up hu).ran
    obtain ⟨W1, hW1⟩ : ∃ W1, W1 = Go.Lib.bytesWorld w 5 t := ⟨_, rfl⟩
    rw [← hW1] at hP hs hr hu
    have HU := hide hu
    have hR : puR 18446744073709551615 t.data.toList = match pu16 18446744073709551615 0 t.data.toList with | .ok n => some n | _ => none := if_neg hne
    clear hW1 hu hne h0 hT
    cases he : pu16 18446744073709551615 0 t.data.toList with
    | ok n =>
      rw [he] at hP hR
      have HR := hide hR
      clear hR he
      go_enter Tryz.func38, Tryz.ntmps38
      go_wp2_with fail
      go_at_call 55
      refine hP.mono ?_
      rintro _ w1 ⟨rfl, hw1⟩
      obtain rfl : W1 = w1 := hw1.symm
      unfold puTup
      go_wp2
      go_ret2
      exact ⟨HU.out, .inl ⟨n, HR.out, rfl⟩⟩
    | «syntax» =>
      rw [he] at hP hR
      have HR := hide hR
      clear hR he hr
      go_enter Tryz.func38, Tryz.ntmps38
      go_wp2_with fail
      go_at_call 55
      refine hP.mono ?_
      rintro _ w1 ⟨rfl, hw1⟩
      obtain rfl : W1 = w1 := hw1.symm
      unfold puTup
      go_wp2_with fail
      go_at_call 56
      refine (Tryz.strconv_toError_syntax _ _ _ _ _ _ (by omega) hs (.inr ⟨_, _, rfl⟩)).mono ?_
      rintro _ w2 ⟨N, rfl, _, _, hb⟩
      replace HU := hide (HU.out.trans hb)
      clear hb hs
      go_wp2
      go_ret2
      exact ⟨HU.out, .inr ⟨HR.out, 0, _, _, Nat.zero_le _, rfl⟩⟩
    | range =>
      rw [he] at hP hR
      have HR := hide hR
      clear hR he hs
      go_enter Tryz.func38, Tryz.ntmps38
      go_wp2_with fail
      go_at_call 55
      refine hP.mono ?_
      rintro _ w1 ⟨rfl, hw1⟩
      obtain rfl : W1 = w1 := hw1.symm
      unfold puTup
      go_wp2_with fail
      go_at_call 56
      refine (Tryz.strconv_toError_range _ _ _ _ _ _ (by omega) hr (.inr ⟨_, _, rfl⟩)).mono ?_
      rintro _ w2 ⟨N, rfl, _, _, hb⟩
      replace HU := hide (HU.out.trans hb)
      clear hb hr
      go_wp2
      go_ret2
      exact ⟨HU.out, .inr ⟨HR.out, 18446744073709551615, _, _, Nat.le_refl _, rfl⟩⟩

set_option maxHeartbeats 4000000 in
theorem tpu8_calls (t : ByteArray) (hm : t.size ≤ 1000000) (w : World) (hT : Tabs w) : Calls Tryz.prog 38 #[.string t, .int .i64 16, .int .i64 8] w fun e w' => PuPost 255 t w e w' := by
  by_cases h0 : t.size = 0
  · obtain rfl := nil_of_size h0
    obtain ⟨a, b, hs⟩ := hT.syn
    have hR : Hid (puR 255 (⟨#[]⟩ : ByteArray).data.toList = none) := by exact rfl
    clear h0 hm
    go_enter Tryz.func38, Tryz.ntmps38
    go_wp2_with fail
    go_at_call 55
    refine (Tryz.internal_strconv_ParseUint_empty _ _ _).mono ?_
    rintro _ w1 ⟨rfl, hw1⟩
    obtain rfl : w = w1 := hw1.symm
    go_wp2_with fail
    go_at_call 56
    refine (Tryz.strconv_toError_syntax _ _ _ _ _ _ (by decide) hs (.inr ⟨_, _, rfl⟩)).mono ?_
    rintro _ w2 ⟨N, rfl, _, _, hb⟩
    have HU : Hid (Up w w2) := hb
    clear hb hs
    go_wp2
    go_ret2
    exact ⟨HU.out, .inr ⟨hR.out, 0, _, _, Nat.zero_le _, rfl⟩⟩
  · have hP := ipu8_calls t h0 hm w
    have hne := ne_of_size h0
    have hu := up_bytes w t
    obtain ⟨a, b, hs⟩ := (hT.up hu).syn
    obtain ⟨a', b', hr⟩ := (hT.up hu).ran
    obtain ⟨W1, hW1⟩ : ∃ W1, W1 = Go.Lib.bytesWorld w 5 t := ⟨_, rfl⟩
    rw [← hW1] at hP hs hr hu
    have HU := hide hu
    have hR : puR 255 t.data.toList = match pu16 255 0 t.data.toList with | .ok n => some n | _ => none := if_neg hne
    clear hW1 hu hne h0 hT
    cases he : pu16 255 0 t.data.toList with
    | ok n =>
      rw [he] at hP hR
      have HR := hide hR
      clear hR he
      go_enter Tryz.func38, Tryz.ntmps38
      go_wp2_with fail
      go_at_call 55
      refine hP.mono ?_
      rintro _ w1 ⟨rfl, hw1⟩
      obtain rfl : W1 = w1 := hw1.symm
      unfold puTup
      go_wp2
      go_ret2
      exact ⟨HU.out, .inl ⟨n, HR.out, rfl⟩⟩
    | «syntax» =>
      rw [he] at hP hR
      have HR := hide hR
      clear hR he hr
      go_enter Tryz.func38, Tryz.ntmps38
      go_wp2_with fail
      go_at_call 55
      refine hP.mono ?_
      rintro _ w1 ⟨rfl, hw1⟩
      obtain rfl : W1 = w1 := hw1.symm
      unfold puTup
      go_wp2_with fail
      go_at_call 56
      refine (Tryz.strconv_toError_syntax _ _ _ _ _ _ (by omega) hs (.inr ⟨_, _, rfl⟩)).mono ?_
      rintro _ w2 ⟨N, rfl, _, _, hb⟩
      replace HU := hide (HU.out.trans hb)
      clear hb hs
      go_wp2
      go_ret2
      exact ⟨HU.out, .inr ⟨HR.out, 0, _, _, Nat.zero_le _, rfl⟩⟩
    | range =>
      rw [he] at hP hR
      have HR := hide hR
      clear hR he hs
      go_enter Tryz.func38, Tryz.ntmps38
      go_wp2_with fail
      go_at_call 55
      refine hP.mono ?_
      rintro _ w1 ⟨rfl, hw1⟩
      obtain rfl : W1 = w1 := hw1.symm
      unfold puTup
      go_wp2_with fail
      go_at_call 56
      refine (Tryz.strconv_toError_range _ _ _ _ _ _ (by omega) hr (.inr ⟨_, _, rfl⟩)).mono ?_
      rintro _ w2 ⟨N, rfl, _, _, hb⟩
      replace HU := hide (HU.out.trans hb)
      clear hb hr
      go_wp2
      go_ret2
      exact ⟨HU.out, .inr ⟨HR.out, 255, _, _, Nat.le_refl _, rfl⟩⟩

end Go.Proofs.YtjnnmghehoodhaaGreatDoor
