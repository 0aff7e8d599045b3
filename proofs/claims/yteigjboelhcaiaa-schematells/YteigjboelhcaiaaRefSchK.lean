/-
  What the document's own Def (package rialtoref5) answers of every shape and definition, as its text runs.
-/
import Derived.Test.YteigjboelhcaiaaRefSchC
import Derived.Test.YteigjboelhcaiaaSchFns
namespace Go.Proofs.Yteigjboelhcaiaa
open Go.ChangeShapes Go.WideShapes Go.ChangeAt Go.RowKit
attribute [local go_sem ↓] Go.wp_at_zero Go.wp_at_succ

set_option maxRecDepth 20000 in
set_option maxHeartbeats 8000000 in
theorem rdef_keys (a : Option Addr) (n c : Nat) (l : List FT) (s : ByteArray) (k : Int) (a1 : Option Addr) (n1 c1 : Nat) (P : List PT) (m : Int) (a2 : Option Addr) (n2 c2 : Nat) (E : List Bool) (a3 : Option Addr) (n3 c3 : Nat) (C : List Bool) (w : World)
    (hn : n ≤ maxLen) (hs : s.size ≤ maxLen) (hv : Flds w a n l) (hP : Prts w a1 n1 P) (hE : Blns w a2 n2 E) (hC : Blns w a3 n3 C) (hb : isF l = true) (g1 : nameB s = true) (q1 : decide (k < 1) = false) (q2 : decide (7 < k) = false) (q3 : decide ((3 : Int) < n1) = false)
    (e5 : (k == 5) = false) (e6 : (k == 6) = false) (e7 : (k == 7) = false) (b0 : ((n1 : Int) == 0) = false) (h8 : ¬ k = 7) (hm : ManyOk k n1) :
    Calls Try.prog 19 #[.slice a n c, .agg #[.string s, .int .i64 k, .slice a1 n1 c1, .int .i64 m], .slice a2 n2 c2, .slice a3 n3 c3] w fun e w' => e = .returned (.int .i64 (defN l s k P m E C)) ∧ Up w w' := by
  go_enter Try.func19, Try.ntmps19
  go_wp2_with fail
  have hua : Up w (w.alloc (.cells #[.string s, .int .i64 k, .slice a1 n1 c1, .int .i64 m] 26)) := (Up.refl _).alloc _
  go_at_call 14
  refine (rsis_calls _ _ _ l _ hn (hv.up hua)).mono ?_
  rintro _ w1 ⟨rfl, hu1⟩
  have d0 : w1.cell? ⟨w.heap.size, 0, none⟩ = some (.string s) := hu1.cell (by go_simp)
  have d1 : w1.cell? ⟨w.heap.size, 1, none⟩ = some (.int .i64 k) := hu1.cell (by go_simp)
  have d2 : w1.cell? ⟨w.heap.size, 2, none⟩ = some (.slice a1 n1 c1) := hu1.cell (by go_simp)
  have d3 : w1.cell? ⟨w.heap.size, 3, none⟩ = some (.int .i64 m) := hu1.cell (by go_simp)
  replace hu1 := hua.trans hu1
  clear hua
  have HL := hide (hv.up hu1)
  have HP := hide (hP.up hu1)
  have HE := hide (hE.up hu1)
  have HC := hide (hC.up hu1)
  have hlen := hide hP.1
  have hll := hide hv.1
  have hle := hide hE.1
  have hlc := hide hC.1
  have hu := hide hu1
  clear hv hP hE hC hu1
  have hbad : Hid (∀ j, j < n1 → ¬ PartOk l k E (P.getD j zeroP) → defN l s k P m E C = 82) := fun j hj h => defN_part hb (by rw [hlen.out]; exact hj) h
  have hgood : Hid ((∀ j, j < n1 → PartOk l k E (P.getD j zeroP)) → CmpOk k m C → defN l s k P m E C = 0) := fun h hc => defN_good hb ⟨g1, by rw [hlen.out]; exact hm, hc, fun j hj => h j (by rw [← hlen.out]; exact hj)⟩
  have hcmp : Hid (¬ CmpOk k m C → defN l s k P m E C = 82) := fun h => defN_cmp hb h
  have hn1 : n1 ≤ 3 := by
    have := of_decide_eq_false q3
    omega
  clear hm
  go_wp2_with (go_at_call 25; refine (rname_calls _ (by with_reducible assumption) _).mono ?_; rintro _ w2 ⟨rfl, hw2⟩; obtain rfl : w1 = w2 := hw2.symm)
  go_loopw [11] (fun i wr => ∃ j : Nat, j ≤ n1 ∧ i = .int .i64 j ∧ Up w1 wr ∧ Hid (∀ i, i < j → PartOk l k E (P.getD i zeroP))) (fun i _ => n1 - (intOf i).toNat)
  case atStart => exact ⟨0, Nat.zero_le _, rfl, Up.refl _, fun i hi => absurd hi (Nat.not_lt_zero i)⟩
  case round =>
    obtain ⟨j, hj, rfl, hur, he⟩ := hrel
    by_cases hlt : j < n1
    · obtain ⟨b1, off1, rfl, p0, p1⟩ := (HP.out.up hur).prt hlt
      have t0 : decide ((j : Int) < n1) = true := decide_eq_true (by omega)
      have hfit := HP.out.2.1 j
      replace hbad := hide (hbad.out j hlt)
      have hpo : Hid (∀ i, i < j + 1 → PartOk l k E (P.getD j zeroP) → PartOk l k E (P.getD i zeroP)) := fun i hi hx => by
        rcases Nat.lt_succ_iff_lt_or_eq.1 hi with hi | rfl
        · exact he.out i hi
        · exact hx
      clear he hgood hcmp
      obtain ⟨⟨f, h⟩, hpq⟩ : ∃ v, v = P.getD j zeroP := ⟨_, rfl⟩
      rw [← hpq] at p0 p1 hbad hpo
      dsimp only at p0 p1
      clear hpq hfit
      have hua : Up wr (wr.alloc (.cells #[.int .i64 f, .int .i64 h] 52)) := (Up.refl _).alloc _
      replace d2 := hur.cell d2
      have d1' := hua.cell (hur.cell d1)
      replace HL := hide (HL.out.up (hur.trans hua))
      replace HE := hide (HE.out.up (hur.trans hua))
      replace hur := hide hur
      clear d0 d1 d3 HP HC
      by_cases h1 : f < -1
      · have t1 : decide (f < -1) = true := decide_eq_true h1
        have e := hide (hbad.out (by rintro (h | h) <;> (have := hle.out; have := hll.out; simp only at h; omega)))
        clear h1
        go_wp2
        all_goals go_ret
        all_goals exact ⟨ret_int e.out, hu.out.trans (hur.out.trans hua)⟩
      have t1 : decide (f < -1) = false := decide_eq_false h1
      by_cases h2 : (n : Int) ≤ f
      · have t2 : decide ((n : Int) ≤ f) = true := decide_eq_true h2
        have e := hide (hbad.out (by rintro (h | h) <;> (have := hle.out; have := hll.out; simp only at h; omega)))
        clear h1 h2
        go_wp2
        all_goals go_ret
        all_goals exact ⟨ret_int e.out, hu.out.trans (hur.out.trans hua)⟩
      have t2 : decide ((n : Int) ≤ f) = false := decide_eq_false h2
      by_cases h3 : f = -1
      · have t3 : (f == -1) = true := by rw [beq_iff_eq]; exact h3
        have t6 : decide (0 ≤ f) = false := decide_eq_false (by omega)
        by_cases h4 : h < 0
        · have t4 : decide (h < 0) = true := decide_eq_true h4
          have e := hide (hbad.out (by rintro (h | h) <;> (have := hle.out; have := hll.out; simp only at h; omega)))
          clear h1 h2 h3 h4
          go_wp2
          all_goals go_ret
          all_goals exact ⟨ret_int e.out, hu.out.trans (hur.out.trans hua)⟩
        have t4 : decide (h < 0) = false := decide_eq_false h4
        by_cases h5 : (n2 : Int) ≤ h
        · have t5 : decide ((n2 : Int) ≤ h) = true := decide_eq_true h5
          have e := hide (hbad.out (by rintro (h | h) <;> (have := hle.out; have := hll.out; simp only at h; omega)))
          clear h1 h2 h3 h4 h5
          go_wp2
          all_goals go_ret
          all_goals exact ⟨ret_int e.out, hu.out.trans (hur.out.trans hua)⟩
        have t5 : decide ((n2 : Int) ≤ h) = false := decide_eq_false h5
        obtain ⟨g, rfl⟩ : ∃ g : Nat, h = g := ⟨h.toNat, by omega⟩
        have hg : g < n2 := by omega
        obtain ⟨b2, off2, rfl, x0⟩ := HE.out.bln hg
        have hxx : Hid (∀ b, b = E.getD g false → b = true → PartOk l k E (f, (g : Int))) := fun b hb h => .inl ⟨h3, by omega, by have := hle.out; simp only; omega, by rw [Int.toNat_natCast, ← hb]; exact h⟩
        have hyy : Hid (∀ b, b = E.getD g false → b = false → ¬ PartOk l k E (f, (g : Int))) := fun b hb h hx => by
          rcases hx with hx | hx
          · have := hx.2.2.2
            rw [Int.toNat_natCast, ← hb, h] at this
            cases this
          · have := hx.1; simp only at this; omega
        obtain ⟨b, hb⟩ : ∃ b, b = E.getD g false := ⟨_, rfl⟩
        rw [← hb] at x0
        cases b with
        | false =>
          have e := hide (hbad.out (hyy.out false hb rfl))
          clear h1 h2 h3 h4 h5 hb
          go_wp2
          all_goals go_ret
          all_goals exact ⟨ret_int e.out, hu.out.trans (hur.out.trans hua)⟩
        | true =>
          have e := hide (hxx.out true hb rfl)
          clear h1 h2 h3 h4 h5 hb
          go_wp2
          all_goals go_roundw
          case rel => exact ⟨j + 1, by omega, by go_num, hur.out.trans hua, fun i hi => hpo.out i hi e.out⟩
          case measure => simp [intOf]; omega
      have t3 : (f == -1) = false := by rw [beq_eq_false_iff_ne]; exact h3
      have t6 : decide (0 ≤ f) = true := decide_eq_true (by omega)
      by_cases h7 : h = 0
      · have t7 : (h != 0) = false := by rw [h7]; rfl
        have e := hide (.inr ⟨by omega, by have := hll.out; simp only; omega, h7, fun h => absurd h h8⟩ : PartOk l k E (f, h))
        clear h1 h2 h3 h7
        go_wp2
        all_goals go_roundw
        case rel => exact ⟨j + 1, by omega, by go_num, hur.out.trans hua, fun i hi => hpo.out i hi e.out⟩
        case measure => simp [intOf]; omega

      · have t7 : (h != 0) = true := by rw [bne_iff_ne]; exact h7
        have e := hide (hbad.out (by rintro (h | h) <;> (have := hle.out; have := hll.out; simp only at h; omega)))
        clear h1 h2 h3 h7
        go_wp2
        all_goals go_ret
        all_goals exact ⟨ret_int e.out, hu.out.trans (hur.out.trans hua)⟩
    · obtain rfl : j = n1 := by omega
      have t0 : decide ((j : Int) < j) = false := decide_eq_false (by omega)
      replace hgood := hide (hgood.out he.out)
      replace d1 := hur.cell d1
      replace d3 := hur.cell d3
      replace HC := hide (HC.out.up hur)
      replace hu := hide (hu.out.trans hur)
      clear he HL HP HE d0 d2 hur hbad
      by_cases h1 : m = -1
      · have t1 : (m != -1) = false := by rw [h1]; rfl
        have e := hide (hgood.out (.inl h1))
        clear h1
        go_wp2
        all_goals go_ret
        all_goals exact ⟨ret_int e.out, hu.out⟩
      have t1 : (m != -1) = true := by rw [bne_iff_ne]; exact h1
      by_cases h2 : k = 3 ∨ k = 4
      · by_cases h3 : m < 0
        · have t3 : decide (m < 0) = true := decide_eq_true h3
          have e := hide (hcmp.out (by rintro (h | h) <;> omega))
          clear h1 h3
          rcases h2 with rfl | rfl
          · go_wp2
            all_goals go_ret
            all_goals exact ⟨ret_int e.out, hu.out⟩
          · go_wp2
            all_goals go_ret
            all_goals exact ⟨ret_int e.out, hu.out⟩
        have t3 : decide (m < 0) = false := decide_eq_false h3
        by_cases h4 : (n3 : Int) ≤ m
        · have t4 : decide ((n3 : Int) ≤ m) = true := decide_eq_true h4
          have e := hide (hcmp.out (by have := hlc.out; rintro (h | h) <;> omega))
          clear h1 h3 h4
          rcases h2 with rfl | rfl
          · go_wp2
            all_goals go_ret
            all_goals exact ⟨ret_int e.out, hu.out⟩
          · go_wp2
            all_goals go_ret
            all_goals exact ⟨ret_int e.out, hu.out⟩
        have t4 : decide ((n3 : Int) ≤ m) = false := decide_eq_false h4
        obtain ⟨g, rfl⟩ : ∃ g : Nat, m = g := ⟨m.toNat, by omega⟩
        have hg : g < n3 := by omega
        obtain ⟨b3, off3, rfl, x0⟩ := HC.out.bln hg
        have hxx : Hid (∀ b, b = C.getD g false → b = true → CmpOk k (g : Int) C) := fun b hb h => .inr ⟨h2, by omega, by have := hlc.out; omega, by rw [Int.toNat_natCast, ← hb]; exact h⟩
        have hyy : Hid (∀ b, b = C.getD g false → b = false → ¬ CmpOk k (g : Int) C) := fun b hb h hx => by
          rcases hx with hx | hx
          · exact h1 hx
          · have := hx.2.2.2
            rw [Int.toNat_natCast, ← hb, h] at this
            cases this
        obtain ⟨b, hb⟩ : ∃ b, b = C.getD g false := ⟨_, rfl⟩
        rw [← hb] at x0
        cases b with
        | false =>
          have e := hide (hcmp.out (hyy.out false hb rfl))
          clear h1 h3 h4 hb
          rcases h2 with rfl | rfl
          · go_wp2
            all_goals go_ret
            all_goals exact ⟨ret_int e.out, hu.out⟩
          · go_wp2
            all_goals go_ret
            all_goals exact ⟨ret_int e.out, hu.out⟩
        | true =>
          have e := hide (hgood.out (hxx.out true hb rfl))
          clear h1 h3 h4 hb
          rcases h2 with rfl | rfl
          · go_wp2
            all_goals go_ret
            all_goals exact ⟨ret_int e.out, hu.out⟩
          · go_wp2
            all_goals go_ret
            all_goals exact ⟨ret_int e.out, hu.out⟩
      · have e := hide (hcmp.out (by rintro (h | h) <;> omega))
        have t2 : (k == 3) = false := by rw [beq_eq_false_iff_ne]; omega
        have t3 : (k == 4) = false := by rw [beq_eq_false_iff_ne]; omega
        clear h1 h2
        go_wp2
        all_goals go_ret
        all_goals exact ⟨ret_int e.out, hu.out⟩

end Go.Proofs.Yteigjboelhcaiaa
