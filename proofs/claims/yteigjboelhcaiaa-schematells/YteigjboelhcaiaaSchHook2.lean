/-
  Hooks of which some are there: what the law's own hooks (package rialtolaw5) answer, as their text runs.
-/
import Derived.Test.YteigjboelhcaiaaSchHooks
namespace Go.Proofs.Yteigjboelhcaiaa
open Go.ChangeShapes Go.WideShapes Go.ChangeAt Go.RowKit
attribute [local go_sem ↓] Go.wp_at_zero Go.wp_at_succ

theorem take_add (l : List Bool) {j : Nat} (h : j < l.length) : l.take (j + 1) = l.take j ++ [l.getD j false] := by
  rw [List.take_add_one, List.getD_eq_getElem?_getD, List.getElem?_eq_getElem h]
  rfl

set_option maxRecDepth 20000 in
set_option maxHeartbeats 8000000 in
theorem hooks_calls (a2 : Option Addr) (n2 c2 : Nat) (E : List Bool) (a3 : Option Addr) (n3 c3 : Nat) (C : List Bool) (w : World) (h2 : n2 ≤ 8) (h3 : n3 ≤ 8) (hE : Blns w a2 n2 E) (hC : Blns w a3 n3 C) :
    Calls Try.prog 18 #[.slice a2 n2 c2, .slice a3 n3 c3] w fun e w' => ∃ a c l a' c' l', e = .returned (.agg #[.slice a n2 c, .slice a' n3 c']) ∧ Fns w' a n2 l ∧ Fns w' a' n3 l' ∧ l.map fnB = E ∧ l'.map fnB = C ∧ Up w w' := by
  go_enter Try.func18, Try.ntmps18
  go_wp2_with fail
  go_at_call 32
  refine (phooks_calls _).mono ?_
  rintro _ w1 ⟨ea, ec, el, ca, cc, cl, rfl, HE, HC, hae, hac, hu1⟩
  have r0 : w1.cell? ⟨w.heap.size, 0, none⟩ = some (.slice none 0 0) := hu1.cell (by go_simp)
  have r1 : w1.cell? ⟨w.heap.size, 1, none⟩ = some (.slice none 0 0) := hu1.cell (by go_simp)
  have rf : ∀ j, w1.frozen? ⟨w.heap.size, j, none⟩ = false := fun j => (hu1.frozen (p := ⟨w.heap.size, j, none⟩) (by simp)).trans (by go_simp)
  obtain ⟨f0, x0, y0, he0⟩ := hae 0 (by rw [HE.1]; decide)
  obtain ⟨f1, x1, y1, hc0⟩ := hac 0 (by rw [HC.1]; decide)
  have hs1 : w.heap.size < w1.heap.size := by have := hu1.size; simp at this; omega
  replace HE := hide HE
  replace HC := hide HC
  replace he0 := hide he0
  replace hc0 := hide hc0
  have HB2 := hide hE
  have HB3 := hide hC
  have hlE := hide hE.1
  have hlC := hide hC.1
  have hu0w := hide (((Up.refl w).alloc _).trans hu1)
  clear hae hac hE hC hu1
  go_wp2_with fail
  obtain ⟨A, hA⟩ : ∃ A, A = w1.heap.size := ⟨_, rfl⟩
  obtain ⟨D, hD⟩ : ∃ D, D = w1.heap.size + 1 := ⟨_, rfl⟩
  obtain ⟨B, hB⟩ : ∃ B, B = D + 1 := ⟨_, rfl⟩
  have hu01 : Hid (Up w1 ((w1.alloc (.cells #[.slice ea 5 ec, .slice ca 3 cc] 42)).alloc (.cells #[.slice none 0 0, .slice none 0 0] 42))) := ((Up.refl _).alloc _).alloc _
  have hu00 : Hid (Up w ((w1.alloc (.cells #[.slice ea 5 ec, .slice ca 3 cc] 42)).alloc (.cells #[.slice none 0 0, .slice none 0 0] 42))) := hu0w.out.trans hu01.out
  have hsz0 : ((w1.alloc (.cells #[.slice ea 5 ec, .slice ca 3 cc] 42)).alloc (.cells #[.slice none 0 0, .slice none 0 0] 42)).heap.size = B := by rw [hB, hD]; simp
  have A0 : ((w1.alloc (.cells #[.slice ea 5 ec, .slice ca 3 cc] 42)).alloc (.cells #[.slice none 0 0, .slice none 0 0] 42)).cell? ⟨A, 0, none⟩ = some (.slice ea 5 ec) := by rw [hA]; go_simp
  have A1 : ((w1.alloc (.cells #[.slice ea 5 ec, .slice ca 3 cc] 42)).alloc (.cells #[.slice none 0 0, .slice none 0 0] 42)).cell? ⟨A, 1, none⟩ = some (.slice ca 3 cc) := by rw [hA]; go_simp
  have k0 : ((w1.alloc (.cells #[.slice ea 5 ec, .slice ca 3 cc] 42)).alloc (.cells #[.slice none 0 0, .slice none 0 0] 42)).cell? ⟨D, 0, none⟩ = some (.slice none 0 0) := by rw [hD]; go_simp
  have k1 : ((w1.alloc (.cells #[.slice ea 5 ec, .slice ca 3 cc] 42)).alloc (.cells #[.slice none 0 0, .slice none 0 0] 42)).cell? ⟨D, 1, none⟩ = some (.slice none 0 0) := by rw [hD]; go_simp
  have kf : ∀ j, ((w1.alloc (.cells #[.slice ea 5 ec, .slice ca 3 cc] 42)).alloc (.cells #[.slice none 0 0, .slice none 0 0] 42)).frozen? ⟨D, j, none⟩ = false := by rw [hD]; intro j; go_simp
  have R0 : ((w1.alloc (.cells #[.slice ea 5 ec, .slice ca 3 cc] 42)).alloc (.cells #[.slice none 0 0, .slice none 0 0] 42)).cell? ⟨w.heap.size, 0, none⟩ = some (.slice none 0 0) := hu01.out.cell r0
  have R1 : ((w1.alloc (.cells #[.slice ea 5 ec, .slice ca 3 cc] 42)).alloc (.cells #[.slice none 0 0, .slice none 0 0] 42)).cell? ⟨w.heap.size, 1, none⟩ = some (.slice none 0 0) := hu01.out.cell r1
  have RF : ∀ j, ((w1.alloc (.cells #[.slice ea 5 ec, .slice ca 3 cc] 42)).alloc (.cells #[.slice none 0 0, .slice none 0 0] 42)).frozen? ⟨w.heap.size, j, none⟩ = false := fun j => (hu01.out.frozen (p := ⟨w.heap.size, j, none⟩) hs1).trans (rf j)
  rw [← hD, ← hA]
  generalize ((w1.alloc (.cells #[.slice ea 5 ec, .slice ca 3 cc] 42)).alloc (.cells #[.slice none 0 0, .slice none 0 0] 42)) = W0 at *
  have hDB : D < B := by omega
  have hAD : A < D := by omega
  have hw1D : w1.heap.size < D := by omega
  have hwD : w.heap.size < D := by omega
  clear r0 r1 rf hA hD hB hu0w
  go_loopw [7] (fun i wr => ∃ (j : Nat) (v : Value) (l : List Value), j ≤ n2 ∧ i = .int .i64 j ∧ l.length = j ∧ l.map fnB = E.take j ∧ (∀ i, FitsFn (l.getD i .nilFunc)) ∧ OwnE wr B v l ∧ Below D W0 wr ∧ B ≤ wr.heap.size ∧ wr.cell? ⟨D, 0, none⟩ = some v ∧ wr.cell? ⟨D, 1, none⟩ = some (.slice none 0 0) ∧ (∀ j, wr.frozen? ⟨D, j, none⟩ = false)) (fun i _ => n2 - (intOf i).toNat)
  case atStart => exact ⟨0, _, [], Nat.zero_le _, rfl, rfl, rfl, fun i => .inl (by simp), OwnG.nil _ _ _ _ _, Below.refl _ _, Nat.le_of_eq hsz0.symm, k0, k1, kf⟩
  case round =>
    clear hsz0 k0 k1 kf
    obtain ⟨j, v, l, hj, rfl, hl, hmp, hft, ho, hbl, hsz, c0, c1, fz⟩ := hrel
    replace hmp := hide hmp
    replace hft := hide hft
    replace hbl := hide hbl
    have hDs : D < wr.heap.size := Nat.lt_of_lt_of_le hDB hsz
    by_cases hlt : j < n2
    · have t0 : decide ((j : Int) < n2) = true := decide_eq_true (by omega)
      have g0 := (hbl.out.cell (p := ⟨A, 0, none⟩) hAD).trans A0
      obtain ⟨be, oe, hae, xe⟩ := HE.out.fn (i := 0) (by decide)
      subst hae
      rw [he0.out] at xe
      have xv := (hbl.out.cell (p := ⟨be, oe + 0, none⟩) (Nat.lt_trans (World.block_lt_of_cell? _ _ xe) hw1D)).trans (hu01.out.cell xe)
      rw [Nat.add_zero] at xv
      clear xe
      obtain ⟨bb, ob, haa, xb⟩ := HB2.out.bln hlt
      subst haa
      have xw := (hbl.out.cell (p := ⟨bb, ob + j, none⟩) (Nat.lt_trans (World.block_lt_of_cell? _ _ xb) hwD)).trans (hu00.out.cell xb)
      clear xb
      obtain ⟨bv, hbv⟩ : ∃ bv, bv = E.getD j false := ⟨_, rfl⟩
      rw [← hbv] at xw
      replace hbv := hide hbv
      cases bv with
      | true =>
        go_wp2_with (at_builtin; refine append_fn Try.underlying39 info_extractor rfl (.tmp 28) (.tmp 30) rfl B _ _ rfl (ho.alloc _) _ 1 (Value.func f0 x0 y0) rfl (.inr ⟨_, _, _, rfl⟩) (fn_new _) (by omega) (Nat.le_trans hsz (by simp)) ?_)
        intro v2 w3 ho3 hg3
        have hb3 := OwnG.below (Below.refl B _) (Nat.le_trans hsz (by simp)) (OwnG.alloc ho (.cells #[Value.func f0 x0 y0] 66)) hg3
        have ub := (Up.refl wr).alloc (.cells #[Value.func f0 x0 y0] 66)
        have q0 := (hb3.cell (p := ⟨D, 0, none⟩) hDB).trans (ub.cell c0)
        have q1 := hide ((hb3.cell (p := ⟨D, 1, none⟩) hDB).trans (ub.cell c1))
        have qf : Hid (∀ j, w3.frozen? ⟨D, j, none⟩ = false) := fun j => (hb3.frozen (p := ⟨D, j, none⟩) hDB).trans ((ub.frozen (p := ⟨D, j, none⟩) hDs).trans (fz j))
        have f3 := qf.out 0
        have qb : Hid (Below D W0 w3) := Below.trans (Below.trans hbl.out (Below.mono ub.below (Nat.le_of_lt hDs))) (Below.mono hb3 (Nat.le_of_lt hDB))
        have qs : B ≤ w3.heap.size := Nat.le_trans hsz (Nat.le_trans (by simp) hb3.size)
        have hfits : Hid (∀ i, FitsFn ((l ++ [Value.func f0 x0 y0]).getD i .nilFunc)) := getD_add hft.out (.inr ⟨_, _, _, rfl⟩) (.inl rfl)
        have hmap : Hid ((l ++ [Value.func f0 x0 y0]).map fnB = E.take (j + 1)) := by
          show _ = _
          rw [List.map_append, hmp.out, take_add E (by rw [hlE.out]; exact hlt), ← hbv.out]; rfl
        obtain ⟨a9, c9, rfl, _, _, _⟩ := ho3.slc (z := .nilFunc) (ok := FitsFn) (fun _ => rfl) hfits.out
        have hll : (l ++ [Value.func f0 x0 y0]).length = j + 1 := by rw [List.length_append, hl]; rfl
        rw [hll] at ho3 ⊢
        replace ho3 := hide ho3
        replace q0 := hide q0
        clear hg3 hb3 ub ho c0 c1 fz hmp hft hbv
        have q0' := q0.out
        go_wp2
        go_roundw
        case rel => exact ⟨j + 1, _, l ++ [Value.func f0 x0 y0], by omega, by go_num, hll, hmap.out, hfits.out, ownsRow_setCell_below ho3.out hDB _, qb.out.setCell (Nat.le_refl _) _, by simpa using qs, World.cell?_setCell_same _ _ _ q0.out, (World.cell?_setCell_other _ _ _ _ (by simp)).trans q1.out, fun j => by rw [World.frozen?_setCell]; exact qf.out j⟩
        case measure => simp [intOf]; omega
      | false =>
        go_wp2_with (at_builtin; refine append_fn Try.underlying39 info_extractor rfl (.tmp 28) (.tmp 30) rfl B _ _ rfl (ho.alloc _) _ 1 (Value.nilFunc) rfl (.inl rfl) (fn_new _) (by omega) (Nat.le_trans hsz (by simp)) ?_)
        intro v2 w3 ho3 hg3
        have hb3 := OwnG.below (Below.refl B _) (Nat.le_trans hsz (by simp)) (OwnG.alloc ho (.cells #[Value.nilFunc] 66)) hg3
        have ub := (Up.refl wr).alloc (.cells #[Value.nilFunc] 66)
        have q0 := (hb3.cell (p := ⟨D, 0, none⟩) hDB).trans (ub.cell c0)
        have q1 := hide ((hb3.cell (p := ⟨D, 1, none⟩) hDB).trans (ub.cell c1))
        have qf : Hid (∀ j, w3.frozen? ⟨D, j, none⟩ = false) := fun j => (hb3.frozen (p := ⟨D, j, none⟩) hDB).trans ((ub.frozen (p := ⟨D, j, none⟩) hDs).trans (fz j))
        have f3 := qf.out 0
        have qb : Hid (Below D W0 w3) := Below.trans (Below.trans hbl.out (Below.mono ub.below (Nat.le_of_lt hDs))) (Below.mono hb3 (Nat.le_of_lt hDB))
        have qs : B ≤ w3.heap.size := Nat.le_trans hsz (Nat.le_trans (by simp) hb3.size)
        have hfits : Hid (∀ i, FitsFn ((l ++ [Value.nilFunc]).getD i .nilFunc)) := getD_add hft.out (.inl rfl) (.inl rfl)
        have hmap : Hid ((l ++ [Value.nilFunc]).map fnB = E.take (j + 1)) := by
          show _ = _
          rw [List.map_append, hmp.out, take_add E (by rw [hlE.out]; exact hlt), ← hbv.out]; rfl
        obtain ⟨a9, c9, rfl, _, _, _⟩ := ho3.slc (z := .nilFunc) (ok := FitsFn) (fun _ => rfl) hfits.out
        have hll : (l ++ [Value.nilFunc]).length = j + 1 := by rw [List.length_append, hl]; rfl
        rw [hll] at ho3 ⊢
        replace ho3 := hide ho3
        replace q0 := hide q0
        clear hg3 hb3 ub ho c0 c1 fz hmp hft hbv
        have q0' := q0.out
        go_wp2
        go_roundw
        case rel => exact ⟨j + 1, _, l ++ [Value.nilFunc], by omega, by go_num, hll, hmap.out, hfits.out, ownsRow_setCell_below ho3.out hDB _, qb.out.setCell (Nat.le_refl _) _, by simpa using qs, World.cell?_setCell_same _ _ _ q0.out, (World.cell?_setCell_other _ _ _ _ (by simp)).trans q1.out, fun j => by rw [World.frozen?_setCell]; exact qf.out j⟩
        case measure => simp [intOf]; omega
    · obtain rfl : n2 = j := by omega
      have t0 : decide ((n2 : Int) < n2) = false := decide_eq_false (by omega)
      obtain ⟨a, c, rfl, _, _, _⟩ := ho.slc (z := .nilFunc) (ok := FitsFn) (fun _ => rfl) hft.out
      have hmE : Hid (l.map fnB = E) := by
        show _ = _
        rw [hmp.out, List.take_of_length_le (by rw [hlE.out]; exact Nat.le_refl _)]
      have hfE := hft
      have hlL := hl
      rw [hl] at c0 ho
      rename World => wa
      obtain ⟨B2, hB2⟩ : ∃ B2, B2 = wa.heap.size := ⟨_, rfl⟩
      have hgE : ∀ g, (Value.slice a n2 c).ownBlock = some g → g < B2 := fun g hg => hB2 ▸ (ho.lt g hg).2
      have hDB1 := hDB
      have hDB2 : D < B2 := by omega
      replace hB2 := hide hB2
      clear hlt hj hmp hft hl hDs HE he0 HB2 A0 hlE hDB
      have hDB := hDB2
      clear hDB2
      go_wp2_with fail
      go_loopw [9] (fun i wr => ∃ (j : Nat) (v : Value) (l2 : List Value), j ≤ n3 ∧ i = .int .i64 j ∧ l2.length = j ∧ l2.map fnB = C.take j ∧ (∀ i, FitsFn (l2.getD i .nilFunc)) ∧ OwnC wr B2 v l2 ∧ Below D W0 wr ∧ B2 ≤ wr.heap.size ∧ wr.cell? ⟨D, 1, none⟩ = some v ∧ wr.cell? ⟨D, 0, none⟩ = some (.slice a n2 c) ∧ (∀ j, wr.frozen? ⟨D, j, none⟩ = false) ∧ OwnE wr B (.slice a n2 c) l) (fun i _ => n3 - (intOf i).toNat)
      case atStart => exact ⟨0, _, [], Nat.zero_le _, rfl, rfl, rfl, fun i => .inl (by simp), OwnG.nil _ _ _ _ _, hbl.out, Nat.le_of_eq hB2.out, c1, c0, fz, ho⟩
      case round =>
        clear hbl hsz c0 c1 fz ho
        obtain ⟨j, v, l2, hj, rfl, hl, hmp, hft, ho, hbl, hsz, c0, c1, fz, hoE⟩ := hrel
        replace hmp := hide hmp
        replace hft := hide hft
        replace hbl := hide hbl
        have hDs : D < wr.heap.size := Nat.lt_of_lt_of_le hDB hsz
        by_cases hlt : j < n3
        · have t0 : decide ((j : Int) < n3) = true := decide_eq_true (by omega)
          have g0 := (hbl.out.cell (p := ⟨A, 1, none⟩) hAD).trans A1
          obtain ⟨be, oe, hae, xe⟩ := HC.out.fn (i := 0) (by decide)
          subst hae
          rw [hc0.out] at xe
          have xv := (hbl.out.cell (p := ⟨be, oe + 0, none⟩) (Nat.lt_trans (World.block_lt_of_cell? _ _ xe) hw1D)).trans (hu01.out.cell xe)
          rw [Nat.add_zero] at xv
          clear xe
          obtain ⟨bb, ob, haa, xb⟩ := HB3.out.bln hlt
          subst haa
          have xw := (hbl.out.cell (p := ⟨bb, ob + j, none⟩) (Nat.lt_trans (World.block_lt_of_cell? _ _ xb) hwD)).trans (hu00.out.cell xb)
          clear xb
          obtain ⟨bv, hbv⟩ : ∃ bv, bv = C.getD j false := ⟨_, rfl⟩
          rw [← hbv] at xw
          replace hbv := hide hbv
          cases bv with
          | true =>
            go_wp2_with (at_builtin; refine append_fn Try.underlying40 info_comparator rfl (.tmp 49) (.tmp 51) rfl B2 _ _ rfl (ho.alloc _) _ 1 (Value.func f1 x1 y1) rfl (.inr ⟨_, _, _, rfl⟩) (fn_new _) (by omega) (Nat.le_trans hsz (by simp)) ?_)
            intro v2 w3 ho3 hg3
            have hb3 := OwnG.below (Below.refl B2 _) (Nat.le_trans hsz (by simp)) (OwnG.alloc ho (.cells #[Value.func f1 x1 y1] 68)) hg3
            have ub := (Up.refl wr).alloc (.cells #[Value.func f1 x1 y1] 68)
            have q0 := (hb3.cell (p := ⟨D, 1, none⟩) hDB).trans (ub.cell c0)
            have q1 := hide ((hb3.cell (p := ⟨D, 0, none⟩) hDB).trans (ub.cell c1))
            have qf : Hid (∀ j, w3.frozen? ⟨D, j, none⟩ = false) := fun j => (hb3.frozen (p := ⟨D, j, none⟩) hDB).trans ((ub.frozen (p := ⟨D, j, none⟩) hDs).trans (fz j))
            have f3 := qf.out 1
            have qb : Hid (Below D W0 w3) := Below.trans (Below.trans hbl.out (Below.mono ub.below (Nat.le_of_lt hDs))) (Below.mono hb3 (Nat.le_of_lt hDB))
            have qs : B2 ≤ w3.heap.size := Nat.le_trans hsz (Nat.le_trans (by simp) hb3.size)
            have qe := hide (OwnG.keep (OwnG.alloc hoE (.cells #[Value.func f1 x1 y1] 68)) hb3 hgE)
            have hfits : Hid (∀ i, FitsFn ((l2 ++ [Value.func f1 x1 y1]).getD i .nilFunc)) := getD_add hft.out (.inr ⟨_, _, _, rfl⟩) (.inl rfl)
            have hmap : Hid ((l2 ++ [Value.func f1 x1 y1]).map fnB = C.take (j + 1)) := by
              show _ = _
              rw [List.map_append, hmp.out, take_add C (by rw [hlC.out]; exact hlt), ← hbv.out]; rfl
            obtain ⟨a9, c9, rfl, _, _, _⟩ := ho3.slc (z := .nilFunc) (ok := FitsFn) (fun _ => rfl) hfits.out
            have hll : (l2 ++ [Value.func f1 x1 y1]).length = j + 1 := by rw [List.length_append, hl]; rfl
            rw [hll] at ho3 ⊢
            replace ho3 := hide ho3
            replace q0 := hide q0
            clear hg3 hb3 ub ho c0 c1 fz hmp hft hbv hoE
            have q0' := q0.out
            go_wp2
            go_roundw
            case rel => exact ⟨j + 1, _, l2 ++ [Value.func f1 x1 y1], by omega, by go_num, hll, hmap.out, hfits.out, ownsRow_setCell_below ho3.out hDB _, qb.out.setCell (Nat.le_refl _) _, by simpa using qs, World.cell?_setCell_same _ _ _ q0.out, (World.cell?_setCell_other _ _ _ _ (by simp)).trans q1.out, fun j => by rw [World.frozen?_setCell]; exact qf.out j, ownsRow_setCell_below qe.out hDB1 _⟩
            case measure => simp [intOf]; omega
          | false =>
            go_wp2_with (at_builtin; refine append_fn Try.underlying40 info_comparator rfl (.tmp 49) (.tmp 51) rfl B2 _ _ rfl (ho.alloc _) _ 1 (Value.nilFunc) rfl (.inl rfl) (fn_new _) (by omega) (Nat.le_trans hsz (by simp)) ?_)
            intro v2 w3 ho3 hg3
            have hb3 := OwnG.below (Below.refl B2 _) (Nat.le_trans hsz (by simp)) (OwnG.alloc ho (.cells #[Value.nilFunc] 68)) hg3
            have ub := (Up.refl wr).alloc (.cells #[Value.nilFunc] 68)
            have q0 := (hb3.cell (p := ⟨D, 1, none⟩) hDB).trans (ub.cell c0)
            have q1 := hide ((hb3.cell (p := ⟨D, 0, none⟩) hDB).trans (ub.cell c1))
            have qf : Hid (∀ j, w3.frozen? ⟨D, j, none⟩ = false) := fun j => (hb3.frozen (p := ⟨D, j, none⟩) hDB).trans ((ub.frozen (p := ⟨D, j, none⟩) hDs).trans (fz j))
            have f3 := qf.out 1
            have qb : Hid (Below D W0 w3) := Below.trans (Below.trans hbl.out (Below.mono ub.below (Nat.le_of_lt hDs))) (Below.mono hb3 (Nat.le_of_lt hDB))
            have qs : B2 ≤ w3.heap.size := Nat.le_trans hsz (Nat.le_trans (by simp) hb3.size)
            have qe := hide (OwnG.keep (OwnG.alloc hoE (.cells #[Value.nilFunc] 68)) hb3 hgE)
            have hfits : Hid (∀ i, FitsFn ((l2 ++ [Value.nilFunc]).getD i .nilFunc)) := getD_add hft.out (.inl rfl) (.inl rfl)
            have hmap : Hid ((l2 ++ [Value.nilFunc]).map fnB = C.take (j + 1)) := by
              show _ = _
              rw [List.map_append, hmp.out, take_add C (by rw [hlC.out]; exact hlt), ← hbv.out]; rfl
            obtain ⟨a9, c9, rfl, _, _, _⟩ := ho3.slc (z := .nilFunc) (ok := FitsFn) (fun _ => rfl) hfits.out
            have hll : (l2 ++ [Value.nilFunc]).length = j + 1 := by rw [List.length_append, hl]; rfl
            rw [hll] at ho3 ⊢
            replace ho3 := hide ho3
            replace q0 := hide q0
            clear hg3 hb3 ub ho c0 c1 fz hmp hft hbv hoE
            have q0' := q0.out
            go_wp2
            go_roundw
            case rel => exact ⟨j + 1, _, l2 ++ [Value.nilFunc], by omega, by go_num, hll, hmap.out, hfits.out, ownsRow_setCell_below ho3.out hDB _, qb.out.setCell (Nat.le_refl _) _, by simpa using qs, World.cell?_setCell_same _ _ _ q0.out, (World.cell?_setCell_other _ _ _ _ (by simp)).trans q1.out, fun j => by rw [World.frozen?_setCell]; exact qf.out j, ownsRow_setCell_below qe.out hDB1 _⟩
            case measure => simp [intOf]; omega
        · obtain rfl : n3 = j := by omega
          have t0 : decide ((n3 : Int) < n3) = false := decide_eq_false (by omega)
          obtain ⟨a', c', rfl, _, _, _⟩ := ho.slc (z := .nilFunc) (ok := FitsFn) (fun _ => rfl) hft.out
          have hmC : Hid (l2.map fnB = C) := by
            show _ = _
            rw [hmp.out, List.take_of_length_le (by rw [hlC.out]; exact Nat.le_refl _)]
          rw [hl] at c0 ho
          have hRB : w.heap.size < B := Nat.lt_trans hwD hDB1
          have hRB2 : w.heap.size < B2 := Nat.lt_trans hwD hDB
          have HC' := hide (OwnG.slc (z := .nilFunc) (ok := FitsFn) (show OwnC _ B2 _ _ from ownsRow_setCell_below (ownsRow_setCell_below ho (a := ⟨w.heap.size, 0, none⟩) hRB2 (.slice a n2 c)) (a := ⟨w.heap.size, 1, none⟩) hRB2 (.slice a' n3 c')) (fun _ => rfl) hft.out)
          have HE' := hide (OwnG.slc (z := .nilFunc) (ok := FitsFn) (show OwnE _ B _ _ from ownsRow_setCell_below (ownsRow_setCell_below hoE (a := ⟨w.heap.size, 0, none⟩) hRB (.slice a n2 c)) (a := ⟨w.heap.size, 1, none⟩) hRB (.slice a' n3 c')) (fun _ => rfl) hfE.out)
          have r0 := (hbl.out.cell (p := ⟨w.heap.size, 0, none⟩) hwD).trans R0
          have r1 := (hbl.out.cell (p := ⟨w.heap.size, 1, none⟩) hwD).trans R1
          have rf0 := (hbl.out.frozen (p := ⟨w.heap.size, 0, none⟩) hwD).trans (RF 0)
          have rf1 := (hbl.out.frozen (p := ⟨w.heap.size, 1, none⟩) hwD).trans (RF 1)
          have hup : Hid (Up w wr) := Below.trans hu00.out.below (Below.mono hbl.out (Nat.le_of_lt hwD))
          clear ho hoE fz R0 R1 RF hbl hmp hft
          go_wp2
          refine bodyPost_ret (v := .agg #[.slice a n2 c, .slice a' n3 c']) (by simp [results, Try.results18, go_sem, r0, r1]) rfl ?_
          obtain ⟨a5, c5, e5, _, _, H5⟩ := HE'.out
          obtain ⟨a4, c4, e4, _, _, H4⟩ := HC'.out
          rw [hlL] at e5 H5
          rw [hl] at e4 H4
          obtain ⟨rfl, rfl⟩ : a = a5 ∧ c = c5 := by cases e5; exact ⟨rfl, rfl⟩
          obtain ⟨rfl, rfl⟩ : a' = a4 ∧ c' = c4 := by cases e4; exact ⟨rfl, rfl⟩
          exact ⟨a, c, l, a', c', l2, rfl, H5, H4, hmE.out, hmC.out, (hup.out.setCell (Nat.le_refl _) _).setCell (Nat.le_refl _) _⟩

end Go.Proofs.Yteigjboelhcaiaa
