/-
  The small functions of a counted tree of whole numbers: isLeaf, size, find, write, joined, halves, nodes, as their text runs.
-/
import Derived.Test.YtcaccbjolgjmkaaTrNd
import Derived.Test.YtcaccbjolgjmkaaTrCatI
import Derived.Test.YtcaccbjolgjmkaaTrCatPI
namespace Go.Proofs.Ytcaccbjolgjmkaa
open Go.ChangeShapes Go.WideShapes Go.ChangeAt Go.RowKit
set_option linter.unusedVariables false
set_option maxRecDepth 100000
attribute [local go_sem ↓] Go.wp_at_zero Go.wp_at_succ

theorem leafI_calls (X : Nat → Prop) (h b : Nat) (xs : List Int) (s : Nat) (w : World) (hn : Nd (Value.int .i64) X w h b xs s) (hs : h ≠ 0 → s ≠ 0) :
    Calls Try.prog 39 #[.pointer (some ⟨b, 0, none⟩)] w fun e w' => e = .returned (.bool (decide (h = 0))) ∧ w' = w := by
  obtain ⟨ve, vb, ⟨hX, c0, c1, c2⟩, hl⟩ := nd_iff.1 hn
  obtain ⟨ae, ne, ce, ab, nb, cb, rfl, rfl, _, _, _, h1, h2⟩ := hl.slices
  clear hn hl
  by_cases hh : h = 0
  · obtain ⟨rfl, rfl⟩ := h1 hh
    have hd : decide (h = 0) = true := decide_eq_true hh
    rw [hd]
    clear h1 h2 hs hh hd
    go_enter Try.func39, Try.ntmps39
    go_wp2
    go_ret
    exact ⟨rfl, rfl⟩
  · obtain ⟨rfl, rfl⟩ := h2 hh
    have hd : decide (h = 0) = false := decide_eq_false hh
    have hz : ((nb : Int) == 0) = false := by have := hs hh; simp; omega
    rw [hd]
    clear h1 h2 hs hh hd
    go_enter Try.func39, Try.ntmps39
    go_wp2
    go_ret
    exact ⟨rfl, rfl⟩

theorem sizeI_calls (X : Nat → Prop) (h : Nat) (ve vb : Value) (xs : List Int) (s : Nat) (w : World) (hl : Ld (Value.int .i64) X w h ve vb xs s) (hs : s ≤ 1000000) :
    Calls Try.prog 59 #[.agg #[ve, vb]] w fun e w' => e = .returned (.int .i64 s) ∧ Up w w' := by
  obtain ⟨ae, ne, ce, ab, nb, cb, rfl, rfl, _, _, h0, _, _⟩ := hl.slices
  have e1 : IntKind.i64.wrap ((ne : Int) + (nb : Int)) = (s : Int) := by rw [IntKind.wrap_i64]; omega
  have hu : Hid (Up w (w.alloc (.cells #[.slice ae ne ce, .slice ab nb cb] 64))) := (Up.refl w).alloc _
  clear hl h0
  go_enter Try.func59, Try.ntmps59
  go_wp2
  go_ret
  exact ⟨rfl, hu.out⟩

set_option maxHeartbeats 2000000 in
/-- Below which node a place is, and which one of its it is. -/
theorem findI_calls (X : Nat → Prop) (h b i : Nat) (ve vb : Value) (L : List (Nat × List Int)) (n : Nat) (w : World) (hc : NodeC X w b ve vb n) (hr : Rd pE X w vb (L.map (·.1))) (hk : Kids (Value.int .i64) X w h L) (hL : L ≠ []) (hi : i ≤ (L.flatMap (·.2)).length) (hbig : (L.flatMap (·.2)).length ≤ 1000000) :
    Calls Try.prog 40 #[.pointer (some ⟨b, 0, none⟩), .int .i64 i] w fun e w' => FindPost L i w e w' := by
  obtain ⟨hX, c0, c1, c2⟩ := hc
  obtain ⟨a, m, c, rfl, hm, hmc⟩ := hr.sliceN
  have hm1 : m = L.length := by rw [hm.out]; simp
  have hm0 : 0 < m := by rw [hm1]; exact List.length_pos_iff.2 hL
  have HR := hide hr
  have HK := hide hk
  have HI := hide hi
  have HB := hide hbig
  have HM := hide hm1
  have hi6 : i ≤ 1000000 := Nat.le_trans hi hbig
  have hm6 : m ≤ 1000000 := by
    have h1 := flat_ge (c := 1) (L := L) (fun q hq => Nat.le_trans (by decide) (hk.some q hq))
    rw [hm1]; omega
  clear hr hk hi hbig hm1 hL hm c0 c2
  have em : IntKind.i64.wrap ((m : Int) - 1) = (m : Int) - 1 := by rw [IntKind.wrap_i64]; omega
  go_enter Try.func40, Try.ntmps40
  go_wp2_with fail
  go_loopw [1, 6] (fun iv av wr => ∃ j at_ : Nat, at_ < m ∧ iv = .int .i64 j ∧ av = .int .i64 at_ ∧ Hid (i = ((L.take at_).flatMap (·.2)).length + j) ∧ Hid (Up w wr)) (fun _ av _ => m - (intOf av).toNat)
  case atStart => exact ⟨i, 0, hm0, rfl, rfl, by unfold Hid; simp, Up.refl _⟩
  case round =>
    obtain ⟨j, at_, hat, rfl, rfl, hj, hu⟩ := hrel
    have hatL : at_ < L.length := by rw [← HM.out]; exact hat
    have hj6 : j ≤ 1000000 := by have := hj.out; omega
    replace c1 := hu.out.cell c1
    obtain ⟨g, off, rfl, hg⟩ := HR.out.get (i := at_) (by rw [List.length_map]; exact hatL)
    replace hg := hu.out.cell hg
    rw [List.getElem_map] at hg
    have hmem : L[at_] ∈ L := List.getElem_mem hatL
    have hlen4 := HK.out.some _ hmem
    obtain ⟨t, t1, t2, t3⟩ := HK.out _ hmem
    obtain ⟨ve', vb', ⟨_, _, _, d2⟩, _⟩ := nd_iff.1 t3
    replace d2 := hu.out.cell d2
    have hcat := cat_le L at_ hatL
    have hcat2 := cat_le2 L (at_ + 1) HB.out
    obtain ⟨kb, hkb⟩ : ∃ kb, kb = L[at_].1 := ⟨_, rfl⟩
    obtain ⟨kn, hkn⟩ : ∃ kn, kn = L[at_].2.length := ⟨_, rfl⟩
    rw [← hkb] at hg d2
    rw [← hkn] at d2 hcat hlen4
    have hk6 : kn ≤ 1000000 := by omega
    have HKN := hide hkn
    have HCAT := hide hcat
    have i0 : (0 : Int) ≤ (at_ : Int) := by omega
    have i1 : (at_ : Int) < (m : Int) := by omega
    unfold pE at hg
    clear hkb hkn hcat hcat2 t3 t1 t2 hmem
    have e1 : IntKind.i64.wrap ((at_ : Int) + 1) = (at_ : Int) + 1 := by rw [IntKind.wrap_i64]; omega
    by_cases hlast : at_ + 1 < m
    · have h1 : decide ((at_ : Int) < (m : Int) - 1) = true := decide_eq_true (by omega)
      have h1' : (at_ : Int) < (m : Int) - 1 := by omega
      by_cases hge : kn ≤ j
      · have h2 : decide ((j : Int) ≥ (kn : Int)) = true := decide_eq_true (by omega)
        have h2' : (j : Int) ≥ (kn : Int) := by omega
        have e2 : IntKind.i64.wrap ((j : Int) - (kn : Int)) = ((j - kn : Nat) : Int) := by rw [IntKind.wrap_i64]; omega
        go_wp2
        go_roundw
        case rel => exact ⟨j - kn, at_ + 1, hlast, by first | rfl | congr 1, by first | rfl | congr 1, by unfold Hid; rw [← HCAT.out]; have := hj.out; omega, hu⟩
        case measure => simp [intOf]; omega
      · have h2 : decide ((j : Int) ≥ (kn : Int)) = false := decide_eq_false (by omega)
        have h2' : ¬ (j : Int) ≥ (kn : Int) := by omega
        go_wp2
        go_ret2
        refine ⟨at_, j, hatL, rfl, hj.out, by rw [← HKN.out]; omega, fun _ => by rw [← HKN.out]; omega, hu.out⟩
    · have h1 : decide ((at_ : Int) < (m : Int) - 1) = false := decide_eq_false (by omega)
      have h1' : ¬ (at_ : Int) < (m : Int) - 1 := by omega
      have hfin : ((L.take (at_ + 1)).flatMap (·.2)).length = (L.flatMap (·.2)).length := by rw [List.take_of_length_le (by rw [← HM.out]; omega)]
      have HF := hide hfin
      clear hfin
      go_wp2
      go_ret2
      have a1 := HF.out
      have a2 := HCAT.out
      have a3 := hj.out
      have a4 := HI.out
      refine ⟨at_, j, hatL, rfl, hj.out, by rw [← HKN.out]; omega, fun h => by rw [← HKN.out]; omega, hu.out⟩
end Go.Proofs.Ytcaccbjolgjmkaa
