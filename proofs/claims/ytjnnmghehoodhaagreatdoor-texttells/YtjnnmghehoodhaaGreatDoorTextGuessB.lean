/-
  What text.guessBytes answers, as its text runs.
-/
import Derived.Test.YtjnnmghehoodhaaGreatDoorTextGMath
namespace Go.Proofs.YtjnnmghehoodhaaGreatDoor
open Go.ChangeShapes Go.WideShapes Go.ChangeAt Go.RowKit
attribute [local go_sem ↓] Go.wp_at_zero Go.wp_at_succ
set_option linter.unusedVariables false
set_option maxRecDepth 100000

def GbPost (D : ByteArray) (w : World) (e : Ending) (w' : World) : Prop :=
  Up w w' ∧ ∃ (out : ByteArray) (b : Bool), e = .returned (.tuple #[.string out, .bool b]) ∧ out.size ≤ 4000000 ∧ (∀ l, D.data.toList = hexL l → out.data.toList = l ∧ b = true)

theorem hexL_at : ∀ (l : List UInt8) (k : Nat), k < l.length → ∃ c, l[k]? = some c ∧ ((hexL l).drop (2 * k)).take 2 = [hexHi c, hexLo c]
  | [], k, h => by simp at h
  | c :: l, 0, h => ⟨c, rfl, rfl⟩
  | c :: l, k + 1, h => by
    obtain ⟨d, h1, h2⟩ := hexL_at l k (by simpa using h)
    refine ⟨d, by simpa using h1, ?_⟩
    rw [show 2 * (k + 1) = 2 * k + 1 + 1 by omega, hexL, List.drop_succ_cons, List.drop_succ_cons]
    exact h2
theorem piece_list (t : ByteArray) (a b : Nat) : (t.extract a b).data.toList = (t.data.toList.drop a).take (b - a) := by
  rw [ByteArray.data_extract, Array.toList_extract, List.extract_eq_take_drop]

def GbRel (D : ByteArray) (w : World) (b i : Value) (wr : World) : Prop := ∃ (k : Nat) (d : List UInt8), i = .int .i64 (2 * (k : Int)) ∧ 2 * k ≤ D.size ∧ d.length = k ∧ Hid (Own wr w.heap.size b d ∧ Up w wr ∧ ∀ l, D.data.toList = hexL l → d = l.take k)

set_option maxHeartbeats 8000000 in
theorem guessBytes_calls (D : ByteArray) (hm : D.size ≤ 1000000) (w : World) (hT : Tabs w) :
    Calls Tryz.prog 37 #[.string D] w fun e w' => GbPost D w e w' := by
  by_cases hodd : D.size % 2 = 1
  · have HN : Hid (∀ l, D.data.toList ≠ hexL l) := fun l hl => by
      have := size_list D
      rw [hl, hexL_length] at this
      omega
    have o1 : ((D.size : Int) % 2 != 0) = true := by rw [bne_iff_ne]; omega
    clear hT
    go_enter Tryz.func37, Tryz.ntmps37
    go_wp2
    go_ret2
    exact ⟨Up.refl _, _, _, rfl, by decide, fun l hl => absurd hl (HN.out l)⟩
  · have o1 : ((D.size : Int) % 2 != 0) = false := by rw [bne_eq_false_iff_eq]; omega
    have HT := hide hT
    have HO := hide hodd
    clear hT hodd
    go_enter Tryz.func37, Tryz.ntmps37
    go_wp2_with fail
    go_loopw [4, 5] (fun b i wr => GbRel D w b i wr) (fun _ i _ => D.size - (intOf i).toNat)
    case atStart => exact ⟨0, [], rfl, by omega, rfl, Own.nil _ _, Up.refl _, fun l _ => rfl⟩
    case round =>
      obtain ⟨k, d, rfl, hk, hd, HH⟩ := hrel
      have HD := hide hd
      clear hd
      by_cases hlt : 2 * k < D.size
      · have hlt2 : 2 * k + 2 ≤ D.size := by have := HO.out; omega
        have i1 : 2 * (k : Int) < (D.size : Int) := by omega
        have i2 : 2 * (k : Int) + 2 ≤ (D.size : Int) := by omega
        have i3 : (0 : Int) ≤ 2 * (k : Int) := by omega
        have i4 : 2 * (k : Int) ≤ 2 * (k : Int) + 2 := by omega
        have e1 : (2 * (k : Int)).toNat = 2 * k := by omega
        have e2 : (2 * (k : Int) + 2).toNat = 2 * k + 2 := by omega
        have hP := fun W => tpu8_calls (D.extract (2 * k) (2 * k + 2)) (by rw [ByteArray.size_extract]; omega) W
        have HX : Hid (∀ l, D.data.toList = hexL l → ∃ c, l.take (k + 1) = d ++ [c] ∧ puR 255 (D.extract (2 * k) (2 * k + 2)).data.toList = some c.toNat) := fun l hl => by
          have hsz := size_list D
          rw [hl, hexL_length] at hsz
          obtain ⟨c, h1, h2⟩ := hexL_at l k (by omega)
          refine ⟨c, ?_, ?_⟩
          · rw [List.take_add_one, h1, ← HH.out.2.2 l hl]; rfl
          · rw [piece_list, hl, show 2 * k + 2 - 2 * k = 2 by omega, h2]; exact puR_byte c
        go_wp2_with fail
        go_at_call 38
        refine (hP _ (HT.out.up HH.out.2.1)).mono ?_
        clear hP
        rintro _ w1 ⟨hu1, ⟨n, hn, rfl⟩ | ⟨hn, m, te, pe, _, rfl⟩⟩
        · have hn255 := puR_le hn
          obtain ⟨c, hc⟩ : ∃ c : UInt8, c.toNat = n := ⟨UInt8.ofNat n, by rw [UInt8.toNat_ofNat']; omega⟩
          have HN : Hid (∀ l, D.data.toList = hexL l → d ++ [c] = l.take (k + 1)) := fun l hl => by
            obtain ⟨c', h1, h2⟩ := HX.out l hl
            rw [hn] at h2
            have : c = c' := UInt8.toNat_inj.1 (hc.trans (Option.some.inj h2))
            rw [h1, this]
          have ho := HH.out.1.up hu1
          have HU := hide (HH.out.2.1.trans hu1)
          have hbs := HU.out.size
          have hcv : (n : Int) % 256 = (c.toNat : Int) := by omega
          have hd2 : d.length + 1 ≤ 1000000000000 := by have := HD.out; omega
          have HC := hide hc
          clear HH hu1 hn HX hc
          go_wp2_with (at_builtin; refine append_bytes rfl (.tmp 29) (.tmp 32) rfl w.heap.size _ _ rfl (ho.alloc _) _ 1 1 [c] rfl rfl (byte_new (by first | exact hcv | omega)) hd2 (Nat.le_trans hbs (by simp)) ?_)
          intro b4 w4 ho4 hg4
          have HU4 := hide (below_append HU.out.below hbs ho hg4)
          replace ho4 := hide ho4
          clear hg4 ho
          go_wp2
          go_roundw
          case rel => exact ⟨k + 1, d ++ [c], by (first | rfl | (congr 1; omega)), by omega, by rw [List.length_append, HD.out]; rfl, ho4.out, HU4.out, HN.out⟩
          case measure => simp [intOf]; omega
        · have HN : Hid (∀ l, D.data.toList ≠ hexL l) := fun l hl => by
            obtain ⟨c', h1, h2⟩ := HX.out l hl
            rw [hn] at h2; cases h2
          have HU := hide (HH.out.2.1.trans hu1)
          clear HH hu1 hn HX
          go_wp2
          go_ret2
          exact ⟨HU.out, _, _, rfl, by decide, fun l hl => absurd hl (HN.out l)⟩
      · have hk2 : D.size = 2 * k := by have := HO.out; omega
        have HE : Hid (∀ l, D.data.toList = hexL l → d = l) := fun l hl => by
          have hsz := size_list D
          rw [hl, hexL_length] at hsz
          rw [HH.out.2.2 l hl, List.take_of_length_le (by omega)]
        have i1 : decide (2 * (k : Int) < (D.size : Int)) = false := decide_eq_false (by omega)
        have hcv := HH.out.1.conv
        have HU := hide HH.out.2.1
        have hds : d.length ≤ 4000000 := by have := HD.out; omega
        clear HH hk2 hlt
        go_wp2
        go_ret2
        exact ⟨HU.out, _, _, rfl, hds, fun l hl => ⟨HE.out l hl, rfl⟩⟩

end Go.Proofs.YtjnnmghehoodhaaGreatDoor
