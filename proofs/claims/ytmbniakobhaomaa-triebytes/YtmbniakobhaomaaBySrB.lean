/-
  The ordered sort of bytes: breakPatterns of rows of at most 256.
-/
import Derived.Test.YtmbniakobhaomaaBySrX
import Derived.Test.YtmbniakobhaomaaBySrV
import Derived.Sort.Walk7
namespace Go.Proofs.Ytmbniakobhaomaa
open Go.ChangeShapes Go.WideShapes Go.ChangeAt Go.RowKit Go.Sort
set_option linter.unusedVariables false
set_option maxRecDepth 100000

/-- A world of the sort's, and the random number. -/
structure RndW (W0 : World) (g : Nat) (ok : Int → Prop) (n : Nat) (d : Array Int) (c r : Nat) (wr : World) : Prop where
  srt : SrtB W0 g ok n d wr
  rnd : wr.cell? ⟨c, 0, none⟩ = some (.int .u64 r)
  fro : wr.frozen? ⟨c, 0, none⟩ = false
  new : W0.heap.size ≤ c
  ne : ¬ c = g
theorem RndW.start {W0 wr : World} {g n : Nat} {ok : Int → Prop} {d : Array Int} (h : SrtB W0 g ok n d wr) (hg : g < W0.heap.size) (t : TypeId) (L : Nat) : RndW W0 g ok n d wr.heap.size L (wr.alloc (.cells #[.int .u64 L] t)) := by
  have hsz := h.chg.size
  have hu : Up wr (wr.alloc (.cells #[.int .u64 L] t)) := (Up.refl _).alloc _
  refine ⟨⟨h.size, h.ok, h.chg.alloc _, fun i hi => hu.cell (h.cell i hi), fun i hi => ?_⟩, by simp, by simp, hsz, by omega⟩
  rw [hu.frozen (p := ⟨g, i, none⟩) (by show g < _; omega)]
  exact h.froz i hi
theorem RndW.bump {W0 wr : World} {g n c r t q : Nat} {ok : Int → Prop} {d : Array Int} (h : RndW W0 g ok n d c r wr) : RndW W0 g ok n d c t ((wr.setCell ⟨c, 0, none⟩ (.int .u64 t)).drewN q) := by
  have h0 : RndW W0 g ok n d c t (wr.setCell ⟨c, 0, none⟩ (.int .u64 t)) := by
    refine ⟨⟨h.srt.size, h.srt.ok, h.srt.chg.set (p := ⟨c, 0, none⟩) (fun hlt => absurd hlt (by have := h.new; show ¬ c < _; omega)) _, fun i hi => ?_, fun i hi => ?_⟩, World.cell?_setCell_same _ _ _ h.rnd, ?_, h.new, h.ne⟩
    · rw [World.cell?_setCell_other _ _ _ _ (by intro e'; simp only [Addr.mk.injEq] at e'; exact h.ne e'.1)]
      exact h.srt.cell i hi
    · rw [World.frozen?_setCell]; exact h.srt.froz i hi
    · rw [World.frozen?_setCell]; exact h.fro
  exact ⟨h0.srt.drewN q, h0.rnd, h0.fro, h0.new, h0.ne⟩
theorem RndW.drewN {W0 wr : World} {g n c r : Nat} {ok : Int → Prop} {d : Array Int} (h : RndW W0 g ok n d c r wr) (q : Nat) : RndW W0 g ok n d c r (wr.drewN q) := ⟨h.srt.drewN q, h.rnd, h.fro, h.new, h.ne⟩
theorem RndW.swap {W0 wr : World} {g n c r : Nat} {ok : Int → Prop} {d : Array Int} (h : RndW W0 g ok n d c r wr) {i j : Nat} (hi : i < n) (hj : j < n) : RndW W0 g ok n (swp d i j) c r ((wr.setCell ⟨g, i, none⟩ (.int .u8 d[j]!)).setCell ⟨g, j, none⟩ (.int .u8 d[i]!)) := by
  have hne : ∀ k v (w : World), (w.setCell ⟨g, k, none⟩ v).cell? ⟨c, 0, none⟩ = w.cell? ⟨c, 0, none⟩ := fun k v w => World.cell?_setCell_other _ _ _ _ (by intro e'; simp only [Addr.mk.injEq] at e'; exact h.ne e'.1.symm)
  exact ⟨h.srt.swap hi hj, by rw [hne, hne]; exact h.rnd, by rw [World.frozen?_setCell, World.frozen?_setCell]; exact h.fro, h.new, h.ne⟩

set_option maxHeartbeats 16000000 in
theorem break_go (g cap n a L : Nat) (W0 : World) (ok : Int → Prop) (d : Array Int) (w : World) (hs : SrtB W0 g ok n d w) (hg : g < W0.heap.size) (h8 : 8 ≤ L) (hb : a + L ≤ n) (hn : n ≤ 256) :
    Calls Try.prog 60 #[.slice (some ⟨g, 0, none⟩) n cap, .int .i64 a, .int .i64 ((a + L : Nat) : Int)] w fun e w' => e = .returned (.tuple #[]) ∧ SrtB W0 g ok n (breakPatterns d a (a + L)) w' := by
  rw [Go.Proofs.breakPatterns_eq d a L h8]
  obtain ⟨M, hM⟩ : ∃ M : Nat, M = 1 <<< bitsLen L := ⟨_, rfl⟩
  have hM1 : 1 ≤ M := by rw [hM, Nat.one_shiftLeft]; exact Nat.two_pow_pos _
  have hM2 : M ≤ 2 * L := by rw [hM, Nat.one_shiftLeft]; exact two_pow_bitsLen_le (by omega)
  have hNP : Hid (∀ w, Calls Try.prog 71 #[.int .i64 (L : Int)] w fun e w' => e = .returned (.int .u64 (M : Int)) ∧ w' = w) := by rw [hM]; exact fun w => nextPow_calls L (by omega) w
  rw [← hM]
  have hST := hide (RndW.start hs hg 110 L)
  have hLr : L = (UInt64.ofNat L).toNat := by simp; omega
  obtain ⟨I0, hI0⟩ : ∃ I0, I0 = a + L / 4 * 2 - 1 := ⟨_, rfl⟩
  rw [← hI0]
  obtain ⟨Q, hQ⟩ : ∃ Q, Q = L / 4 := ⟨_, rfl⟩
  have hQ1 : 2 ≤ Q ∧ 4 * Q ≤ L := by omega
  have hQz : (L : Int).tdiv 4 = (Q : Int) := by rw [Int.tdiv_eq_ediv_of_nonneg (by omega)]; omega
  have hQz2 : (L : Int) / 4 = (Q : Int) := by omega
  have hIQ : (I0 : Int) = (a : Int) + (Q : Int) * 2 - 1 := by rw [hI0, ← hQ]; omega
  have eL : ((a : Int) + (L : Int) - (a : Int)) = (L : Int) := by omega
  have HLR := hide hLr
  clear hM hs hLr hI0 hQ
  go_enter Try.func60, Try.ntmps60
  go_wp2_with fail
  refine (hNP.out _).mono ?_
  rintro _ w9 ⟨rfl, hw9⟩
  generalize hc : w.heap.size = c at hST hw9 ⊢
  generalize w.alloc (.cells #[.int .u64 (L : Int)] 110) = W at *
  obtain rfl : W = w9 := hw9.symm
  clear hc
  dsimp only
  go_wp2_with fail
  go_loopw [9] (fun vi wr => ∃ (t : Nat) (r : UInt64) (dk : Array Int), vi = .int .i64 ((I0 + t : Nat) : Int) ∧ t ≤ 3 ∧ Hid (RndW W0 g ok n dk c r.toNat wr ∧ bpRest a L M I0 (3 - t) t (r, dk) = bpRest a L M I0 3 0 (UInt64.ofNat L, d))) (fun vi _ => I0 + 4 - (intOf vi).toNat)
  case atStart =>
    exact ⟨0, UInt64.ofNat L, d, by congr 1; omega, by omega, by rw [← HLR.out]; exact hide ⟨hST.out, rfl⟩⟩
  case round =>
    obtain ⟨t, r, dk, rfl, ht, hr⟩ := hrel
    clear hST
    by_cases h3 : t < 3
    · obtain ⟨R, hRr⟩ : ∃ R : Nat, R = r.toNat := ⟨_, rfl⟩
      have lR : R < 18446744073709551616 := by rw [hRr]; exact r.toNat_lt
      obtain ⟨R', hR'⟩ : ∃ R' : Nat, R' = xorNextN R := ⟨_, rfl⟩
      have lR' : R' < 18446744073709551616 := by rw [hR']; exact xorNextN_lt R lR
      obtain ⟨O, hO⟩ : ∃ O : Nat, O = R' &&& (M - 1) := ⟨_, rfl⟩
      have lO : O ≤ M - 1 := by rw [hO]; exact Nat.and_le_right
      have eAnd : bits .and .u64 (R' : Int) ((M : Int) - 1) = (O : Int) := by
        rw [show ((M : Int) - 1) = ((M - 1 : Nat) : Int) by omega, bits_and_u64_nat _ _ lR' (by omega), hO]
      have HN : Hid (R' = (xorNext r).toNat ∧ O = (xorNext r).toNat &&& (M - 1)) := by
        have e : R' = (xorNext r).toNat := by rw [hR', hRr, xorNext_toNat]
        exact ⟨e, by rw [hO, e]⟩
      have hNX := hide (nextBy_calls c R lR wr (by rw [hRr]; exact hr.out.1.rnd) hr.out.1.fro)
      rw [← hR'] at hNX
      obtain ⟨J, hJ⟩ : ∃ J, J = I0 + t := ⟨_, rfl⟩
      have hJn : J < n := by omega
      have k1 : (J : Int) ≤ (a : Int) + (Q : Int) * 2 + 1 := by omega
      have zj0 : (0 : Int) ≤ (J : Int) := by omega
      have zj1 : (J : Int) < (n : Int) := by omega
      have eJ : IntKind.i64.wrap ((J : Int) + 1) = (J : Int) + 1 := by rw [IntKind.wrap_i64]; omega
      have HBP := hide hr.out.2
      have HRN := hide hr.out.1
      have hM8 : M - 1 < 1000 := by omega
      have hmI : (J : Int) + 1 = ((I0 + (t + 1) : Nat) : Int) := by omega
      have HMI := hide (⟨hmI, hJ⟩ : _ ∧ _)
      rw [← hJ]
      clear hRr hR' hO hr hIQ hmI
      go_wp2_with fail
      refine hNX.out.mono ?_
      rintro _ W2 ⟨rfl, q, hq⟩
      have HR2 : Hid (RndW W0 g ok n dk c R' W2) := by rw [hq]; exact hide HRN.out.bump
      clear hq hNX HRN
      dsimp only
      by_cases hLO : L ≤ O
      · have ho : a + (O - L) < n := by omega
        have hSW : Hid (∀ (W2 : World) (q : Nat), RndW W0 g ok n dk c R' W2 → RndW W0 g ok n (swp dk J (a + (O - L))) c R' ((((W2.drewN q)).setCell ⟨g, J, none⟩ (.int .u8 dk[a + (O - L)]!)).setCell ⟨g, a + (O - L), none⟩ (.int .u8 dk[J]!))) := hide (fun W2 q h => (h.drewN q).swap hJn ho)
        have y1 := HR2.out.srt.cell J hJn
        have y2 := HR2.out.srt.cell (a + (O - L)) ho
        have f1 := HR2.out.srt.froz J hJn
        have f2 := HR2.out.srt.froz (a + (O - L)) ho
        have hstep : Hid (bpRest a L M I0 (3 - (t + 1)) (t + 1) (xorNext r, swp dk J (a + (O - L))) = bpRest a L M I0 3 0 (UInt64.ofNat L, d)) := by
          unfold Hid
          rw [← HBP.out, Go.Proofs.bp_step a L M I0 t r dk ((O - L)) h3 (by rw [← HN.out.2]; rw [if_pos hLO]), hJ]
        obtain ⟨o, hoo⟩ : ∃ o, o = a + (O - L) := ⟨_, rfl⟩
        have hoI : (a : Int) + (((O - L) : Nat) : Int) = (o : Int) := by omega
        rw [← hoo] at hSW y2 f2 hstep ho
        have u1 : (L : Int) ≤ (O : Int) := by omega
        have u2 : (O : Int) - (L : Int) = ((O - L : Nat) : Int) := by omega
        clear hoo HBP hJ
        have zo0 : (0 : Int) ≤ (o : Int) := by omega
        have zo1 : (o : Int) < (n : Int) := by omega
        generalize hX : dk[J]! = X at *
        generalize hY : dk[o]! = Y at *
        have hSW2 : Hid (∀ q, RndW W0 g ok n (swp dk J o) c (xorNext r).toNat (((W2.drewN q).setCell ⟨g, J, none⟩ (.int .u8 Y)).setCell ⟨g, o, none⟩ (.int .u8 X))) := hide (fun q => by have h9 := hSW.out W2 q HR2.out; rw [HN.out.1] at h9; exact h9)
        have HXY : Hid (J = o → X = Y) := hide (fun e => by rw [← hX, ← hY, e])
        clear hSW hX hY HR2
        by_cases hEq : J = o
        · subst hEq
          obtain rfl : X = Y := HXY.out rfl
          clear y2 f2
          go_wp2_with fail
          go_region
          all_goals go_wp2
          all_goals go_roundw
          all_goals first
            | exact ⟨t + 1, xorNext r, swp dk J J, by rw [HMI.out.1], by omega, hide ⟨by first | exact hSW2.out _ | exact (hSW2.out _).drewN _ | exact (hSW2.out 0) | exact (hSW2.out 1), hstep.out⟩⟩
            | (have hm := HMI.out.2; simp [intOf]; omega)
        · have hne : ¬ o = J := fun e => hEq e.symm
          go_wp2_with fail
          go_region
          all_goals go_wp2
          all_goals go_roundw
          all_goals first
            | exact ⟨t + 1, xorNext r, swp dk J o, by rw [HMI.out.1], by omega, hide ⟨by first | exact hSW2.out _ | exact (hSW2.out _).drewN _ | exact (hSW2.out 0) | exact (hSW2.out 1), hstep.out⟩⟩
            | (have hm := HMI.out.2; simp [intOf]; omega)
      · have ho : a + O < n := by omega
        have hSW : Hid (∀ (W2 : World) (q : Nat), RndW W0 g ok n dk c R' W2 → RndW W0 g ok n (swp dk J (a + O)) c R' ((((W2.drewN q)).setCell ⟨g, J, none⟩ (.int .u8 dk[a + O]!)).setCell ⟨g, a + O, none⟩ (.int .u8 dk[J]!))) := hide (fun W2 q h => (h.drewN q).swap hJn ho)
        have y1 := HR2.out.srt.cell J hJn
        have y2 := HR2.out.srt.cell (a + O) ho
        have f1 := HR2.out.srt.froz J hJn
        have f2 := HR2.out.srt.froz (a + O) ho
        have hstep : Hid (bpRest a L M I0 (3 - (t + 1)) (t + 1) (xorNext r, swp dk J (a + O)) = bpRest a L M I0 3 0 (UInt64.ofNat L, d)) := by
          unfold Hid
          rw [← HBP.out, Go.Proofs.bp_step a L M I0 t r dk (O) h3 (by rw [← HN.out.2]; rw [if_neg hLO]), hJ]
        obtain ⟨o, hoo⟩ : ∃ o, o = a + O := ⟨_, rfl⟩
        have hoI : (a : Int) + ((O : Nat) : Int) = (o : Int) := by omega
        rw [← hoo] at hSW y2 f2 hstep ho
        have u1 : ¬ (L : Int) ≤ (O : Int) := by omega
        clear hoo HBP hJ
        have zo0 : (0 : Int) ≤ (o : Int) := by omega
        have zo1 : (o : Int) < (n : Int) := by omega
        generalize hX : dk[J]! = X at *
        generalize hY : dk[o]! = Y at *
        have hSW2 : Hid (∀ q, RndW W0 g ok n (swp dk J o) c (xorNext r).toNat (((W2.drewN q).setCell ⟨g, J, none⟩ (.int .u8 Y)).setCell ⟨g, o, none⟩ (.int .u8 X))) := hide (fun q => by have h9 := hSW.out W2 q HR2.out; rw [HN.out.1] at h9; exact h9)
        have HXY : Hid (J = o → X = Y) := hide (fun e => by rw [← hX, ← hY, e])
        clear hSW hX hY HR2
        by_cases hEq : J = o
        · subst hEq
          obtain rfl : X = Y := HXY.out rfl
          clear y2 f2
          go_wp2_with fail
          go_region
          all_goals go_wp2
          all_goals go_roundw
          all_goals first
            | exact ⟨t + 1, xorNext r, swp dk J J, by rw [HMI.out.1], by omega, hide ⟨by first | exact hSW2.out _ | exact (hSW2.out _).drewN _ | exact (hSW2.out 0) | exact (hSW2.out 1), hstep.out⟩⟩
            | (have hm := HMI.out.2; simp [intOf]; omega)
        · have hne : ¬ o = J := fun e => hEq e.symm
          go_wp2_with fail
          go_region
          all_goals go_wp2
          all_goals go_roundw
          all_goals first
            | exact ⟨t + 1, xorNext r, swp dk J o, by rw [HMI.out.1], by omega, hide ⟨by first | exact hSW2.out _ | exact (hSW2.out _).drewN _ | exact (hSW2.out 0) | exact (hSW2.out 1), hstep.out⟩⟩
            | (have hm := HMI.out.2; simp [intOf]; omega)
    · obtain rfl : t = 3 := by omega
      have k1 : ¬ ((I0 + 3 : Nat) : Int) ≤ (a : Int) + (Q : Int) * 2 + 1 := by omega
      have HR := hide hr.out
      clear hr
      go_wp2
      go_end0
      exact ⟨rfl, by rw [← HR.out.2]; exact HR.out.1.srt⟩
theorem break_calls (g cap n a L : Nat) (W0 : World) (ok : Int → Prop) (d : Array Int) (w : World) (hs : SrtB W0 g ok n d w) (hg : g < W0.heap.size) (hb : a + L ≤ n) (hn : n ≤ 256) :
    Calls Try.prog 60 #[.slice (some ⟨g, 0, none⟩) n cap, .int .i64 a, .int .i64 ((a + L : Nat) : Int)] w fun e w' => e = .returned (.tuple #[]) ∧ SrtB W0 g ok n (breakPatterns d a (a + L)) w' := by
  by_cases h8 : 8 ≤ L
  · exact break_go g cap n a L W0 ok d w hs hg h8 hb hn
  · have hv : breakPatterns d a (a + L) = d := by unfold breakPatterns; simp only [Nat.add_sub_cancel_left]; rw [if_neg h8]
    rw [hv]
    have HS := hide hs
    have eL : ((a : Int) + (L : Int) - (a : Int)) = (L : Int) := by omega
    have t8 : ¬ (8 : Int) ≤ (L : Int) := by omega
    clear hs hv
    go_enter Try.func60, Try.ntmps60
    go_wp2
    go_end0
    exact ⟨rfl, HS.out⟩
end Go.Proofs.Ytmbniakobhaomaa
