/-
  SeqMoves of rialtolaw13, as its text runs: it tells true.
-/
import Derived.Test.YtbnkddnjfkagkaaSqKnw
namespace Go.Proofs.Ytbnkddnjfkagkaa
open Go.ChangeShapes Go.WideShapes Go.ChangeAt Go.RowKit
set_option linter.unusedVariables false
set_option maxRecDepth 100000
attribute [local go_sem ↓] Go.wp_at_zero Go.wp_at_succ

theorem shL_eq {xs : List Int} {a t : Nat} (ha : a < xs.length) : shL xs a t = insL (xs.getD a 0) (delL xs a) (shN a t) := by
  unfold shL
  by_cases h : shN a t = a
  · rw [if_pos h, h, ins_back ha]
  · rw [if_neg h]
theorem shN_le {xs : List Int} {a t : Nat} (ha : a < xs.length) (ht : t ≤ xs.length) : shN a t ≤ (delL xs a).length := by
  have := delL_len xs a ha
  unfold shN; split <;> omega
theorem shL_len {xs : List Int} {a t : Nat} (ha : a < xs.length) (ht : t ≤ xs.length) : (shL xs a t).length = xs.length := by
  rw [shL_eq ha, insL_len _ _ _ (shN_le ha ht)]
  exact delL_len xs a ha
theorem shL_at {xs : List Int} {a t : Nat} (ha : a < xs.length) (ht : t ≤ xs.length) : (shL xs a t)[shN a t]? = some (xs.getD a 0) := by
  rw [shL_eq ha, insL_get _ _ (shN_le ha ht), if_neg (by omega), if_pos rfl]
/-- The others stand as they stood. -/
theorem shL_rest {xs : List Int} {a t c : Nat} (ha : a < xs.length) (ht : t ≤ xs.length) : (shL xs a t)[if c < shN a t then c else c + 1]? = xs[if c < a then c else c + 1]? := by
  have h1 : (delL xs a)[c]? = xs[if c < a then c else c + 1]? := by
    rw [delL_get xs ha]; split <;> rfl
  rw [← h1, shL_eq ha, insL_get _ _ (shN_le ha ht)]
  by_cases h : c < shN a t
  · rw [if_pos h, if_pos h]
  · rw [if_neg h, if_neg (by omega), if_neg (by omega), Nat.add_sub_cancel]
theorem shL_mem {xs : List Int} {a t : Nat} (ha : a < xs.length) (hn : xs.Nodup) {v : Int} : v ∈ shL xs a t ↔ v ∈ xs := by
  rw [shL_eq ha, insL_mem, delL_mem ha hn, getD_in xs ha]
  constructor
  · rintro (h | h)
    · rw [h]; exact List.getElem_mem ha
    · exact h.1
  · intro h
    by_cases e : v = xs[a]
    · exact .inl e
    · exact .inr ⟨h, e⟩
theorem AllIn.sh {k a t : Nat} {xs : List Int} (h : AllIn k xs) (hn : xs.Nodup) (ha : a < xs.length) (ht : t ≤ xs.length) : AllIn k (shL xs a t) :=
  ⟨by rw [shL_len ha ht]; exact h.1, fun v => by rw [shL_mem ha hn]; exact h.2 v⟩
theorem SqIn.nd {w wr : World} {p T M N : Nat} {xs : List Int} (i : SqIn w p T M xs N wr) : xs.Nodup := by
  obtain ⟨_, _, _, ix, _, _⟩ := i
  exact ix.ok.nd
/-- Where the reader of the new row stands when m of the old one are read. -/
def cntN (a m : Nat) : Nat := if m ≤ a then m else m - 1
def cjN (q c : Nat) : Nat := if c ≤ q then c else c + 1
/-- What holds from move to move. -/
def MvIn (w : World) (p T M k i : Nat) (wr : World) : Prop := ∃ xs, SqIn w p T M xs (100000 + 1600 * i) wr ∧ AllIn k xs
set_option maxHeartbeats 8000000 in
theorem seqMoves_few (a0 : Int) (a1 : Option Addr) (n1 c1 : Nat) (l : List Int) (w : World) (h0 : 0 ≤ a0 ∧ a0 ≤ 255) (hl : l.length = n1) (hr : Rd (Value.int .u8) (fun _ => False) w (.slice a1 n1 c1) l) (hs : ∀ x ∈ l, 0 ≤ x ∧ x ≤ 255) (hn : n1 ≤ 40) :
    Calls Try.prog 4 #[.int .u8 a0, .slice a1 n1 c1] w fun e w' => e = .returned (.bool true) ∧ Up w w' := by
  obtain ⟨N, rfl⟩ : ∃ k : Nat, a0 = (k : Int) := ⟨a0.toNat, by omega⟩
  obtain ⟨k, hk⟩ : ∃ k : Nat, k = N % 20 + 2 := ⟨_, rfl⟩
  have ek0 : (N : Int).tmod 20 = ((N % 20 : Nat) : Int) := rfl
  have ek1 : (N : Int) % 20 = (k : Int) - 2 := by omega
  have ek2 : IntKind.i64.wrap ((k : Int) - 2) = (k : Int) - 2 := by rw [IntKind.wrap_i64]; omega
  have ek3 : IntKind.i64.wrap ((k : Int) - 2 + 2) = (k : Int) := by rw [IntKind.wrap_i64]; omega
  have ek4 : (k : Int) - 2 + 2 = (k : Int) := by omega
  have hk1 : 2 ≤ k := by omega
  have hk2 : k ≤ 21 := by omega
  have HL := hide hl
  have HR := hide hr
  have HS := hide hs
  have g0 : decide ((n1 : Int) > 40) = false := decide_eq_false (by omega)
  have g0' : ¬ ((n1 : Int) > 40) := by omega
  have g0'' : decide (40 < n1) = false := decide_eq_false (by omega)
  clear hl hr hs h0 ek0 hk
  go_enter Try.func4, Try.ntmps4
  go_wp2_with fail
  refine (known13_calls w).mono ?_
  rintro _ wk ⟨rfl, huk⟩
  replace huk := hide huk
  dsimp only
  go_wp2_with fail
  refine (in_new w wk huk.out).mono ?_
  rintro _ w0 ⟨p, T, M, rfl, i0, hT, hM⟩
  have HA0 : Hid (SqIn w p T M (ups 0) (800 * 0) w0) := i0
  clear i0 ek1 ek2 ek3 ek4
  dsimp only
  go_wp2_with fail
  go_loopw [7] (fun iv wr => ∃ i : Nat, i ≤ k ∧ iv = .int .i64 ((i + 1 : Nat) : Int) ∧ Hid (SqIn w p T M (ups i) (800 * i) wr)) (fun iv _ => k + 1 - (intOf iv).toNat)
  case atStart => exact ⟨0, Nat.zero_le _, rfl, HA0⟩
  case round =>
    obtain ⟨i, hik, rfl, hin⟩ := hrel
    obtain ⟨j, hj⟩ : ∃ j : Nat, j = i + 1 := ⟨_, rfl⟩
    rw [← hj]
    by_cases hlt : i < k
    · have hjk : j ≤ k := by omega
      have hjk' : (j : Int) ≤ (k : Int) := by omega
      have hji : (i : Int) + 1 = (j : Int) := by omega
      have HAD := hide (in_add (j : Int) hT hM hin.out (wf64_small (by omega)) (by rw [ups_mem]; omega) (by rw [ups_len]; omega) (by omega))
      rw [← hji, ups_succ, hji] at HAD
      have HJ := hide hj
      have HJI := hide hji
      clear hj hin hji
      go_wp2_with fail
      refine HAD.out.mono ?_
      rintro _ w1 ⟨rfl, i1⟩
      replace i1 := hide i1
      dsimp only
      go_wp2
      go_roundw
      case rel =>
        have hj := HJ.out
        subst hj
        exact ⟨i + 1, by omega, by simp, by unfold Hid; rw [Nat.mul_succ]; exact i1.out⟩
      case measure => simp [intOf]; omega
    · obtain rfl : k = i := by omega
      have hjk : ¬ (j ≤ k) := by omega
      have hjk' : ¬ ((j : Int) ≤ (k : Int)) := by omega
      have hjd : decide (j ≤ k) = false := decide_eq_false hjk
      have HM0 : Hid (MvIn w p T M k 0 wr) := by
        obtain ⟨h, n, f, ix, hn, hu⟩ := hin.out
        exact ⟨ups k, ⟨h, n, f, ix, by omega, hu⟩, ups_len k, ups_mem k⟩
      clear hin hj HA0
      go_wp2_with fail
      go_loopw [8] (fun iv wr => ∃ i : Nat, i ≤ n1 ∧ iv = .int .i64 i ∧ Hid (MvIn w p T M k i wr)) (fun iv _ => n1 - (intOf iv).toNat)
      case atStart => exact ⟨0, Nat.zero_le _, rfl, HM0⟩
      case round =>
        obtain ⟨i, hin, rfl, hmv⟩ := hrel
        by_cases hlt : i < n1
        · have hlt' : (i : Int) < (n1 : Int) := by omega
          obtain ⟨xs, hsq, hall⟩ := hmv.out
          have hsq0 := hsq
          obtain ⟨_, _, _, _, _, huw⟩ := hsq
          obtain ⟨gm, om, rfl, hcm⟩ := (HR.out.up huw).get (i := i) (by rw [HL.out]; exact hlt)
          obtain ⟨y, hy⟩ : ∃ y, y = l[i]'(by rw [HL.out]; exact hlt) := ⟨_, rfl⟩
          rw [← hy] at hcm
          have hy8 := HS.out y (by rw [hy]; exact List.getElem_mem _)
          obtain ⟨Y, rfl⟩ : ∃ Y : Nat, y = (Y : Int) := ⟨y.toNat, by omega⟩
          obtain ⟨id, hid⟩ : ∃ id : Nat, id = Y % k + 1 := ⟨_, rfl⟩
          obtain ⟨b, hb⟩ : ∃ b : Nat, b = Y / 16 % (k + 1) := ⟨_, rfl⟩
          have hmod : Y % k < k := Nat.mod_lt _ (by omega)
          have hmod2 : Y / 16 % (k + 1) < k + 1 := Nat.mod_lt _ (by omega)
          have hid1 : 1 ≤ id ∧ id ≤ k := by omega
          have hb1 : b ≤ k := by omega
          have e0 : IntKind.i64.wrap (Y : Int) = (Y : Int) := by rw [IntKind.wrap_i64]; omega
          have e1 : (Y : Int) % (k : Int) = (id : Int) - 1 := by rw [hid]; simp
          have e2 : IntKind.i64.wrap ((id : Int) - 1 + 1) = (id : Int) := by rw [IntKind.wrap_i64]; omega
          have e3 : (id : Int) - 1 + 1 = (id : Int) := by omega
          have e4 : (Y : Int) / 16 % ((k : Int) + 1) = (b : Int) := by rw [hb]; simp
          have e5 : IntKind.i64.wrap ((k : Int) + 1) = (k : Int) + 1 := by rw [IntKind.wrap_i64]; omega
          have z1 : ¬ ((k : Int) = 0) := by omega
          have z2 : ¬ ((k : Int) + 1 = 0) := by omega
          have E4 := hide e4
          obtain ⟨a, ha, hxa⟩ := List.getElem_of_mem ((hall.2 (id : Int)).2 (by omega))
          have htg : ∃ t, TgtAt xs (b : Int) t := by
            by_cases hb0 : b = 0
            · exact ⟨xs.length, .inl ⟨by omega, rfl⟩⟩
            · obtain ⟨t, ht, e⟩ := List.getElem_of_mem ((hall.2 (b : Int)).2 (by omega))
              exact ⟨t, .inr ⟨by omega, by rw [List.getElem?_eq_getElem ht, e]⟩⟩
          obtain ⟨t, ht⟩ := htg
          obtain ⟨q, hq⟩ : ∃ q, q = shN a t := ⟨_, rfl⟩
          have hnd := hsq0.nd
          have htl := ht.le
          have hxl := hall.1
          have hxg : xs.getD a 0 = (id : Int) := by rw [getD_in xs ha]; exact hxa
          have hzat := shL_at ha htl
          have hzre : ∀ c, (shL xs a t)[if c < shN a t then c else c + 1]? = xs[if c < a then c else c + 1]? := fun c => shL_rest ha htl
          have hzl := shL_len ha htl
          have hal := hall.sh hnd ha htl
          rw [hxg, ← hq] at hzat
          rw [← hq] at hzre
          have hql : q < xs.length := by rw [← hzl]; exact (List.getElem?_eq_some_iff.1 hzat).1
          -- what the law asks of the new row
          have hasks : (b = 0 ∧ q + 1 = k) ∨ (b ≠ 0 ∧ b = id) ∨ (b ≠ 0 ∧ b ≠ id ∧ q + 1 < k ∧ (shL xs a t)[q + 1]? = some (b : Int)) := by
            rcases ht with ⟨hb0, ht⟩ | ⟨hb0, ht⟩
            · refine .inl ⟨by omega, ?_⟩
              rw [hq]; unfold shN; rw [if_pos (by omega)]; omega
            · by_cases hbi : b = id
              · exact .inr (.inl ⟨by omega, hbi⟩)
              · refine .inr (.inr ⟨by omega, hbi, ?_⟩)
                obtain ⟨ht1, ht2⟩ := List.getElem?_eq_some_iff.1 ht
                have hta : t ≠ a := fun e => by subst e; rw [hxa] at ht2; omega
                by_cases hat : a < t
                · have hqt : q = t - 1 := by rw [hq]; unfold shN; rw [if_pos hat]
                  have := hzre q
                  rw [if_neg (by omega), if_neg (by omega), show xs[q + 1]? = some (b : Int) by rw [show q + 1 = t by omega]; exact ht] at this
                  exact ⟨by omega, this⟩
                · have hqt : q = t := by rw [hq]; unfold shN; rw [if_neg hat]
                  have := hzre q
                  rw [if_neg (by omega), if_pos (by omega), show xs[q]? = some (b : Int) by rw [hqt]; exact ht] at this
                  exact ⟨by omega, this⟩
          have HAS := hide hasks
          have HSQ := hide hsq0
          have HTG := hide ht
          have HZR := hide hzre
          have HAL := hide hal
          have HXA : Hid (xs[a]? = some (id : Int)) := by unfold Hid; rw [List.getElem?_eq_getElem ha, hxa]
          have HND := hide hnd
          have HZQ := hide hzat
          have HXL := hide hxl
          have HZL := hide hzl
          have hqk : q < k := by omega
          have hak : a < k := by omega
          clear hy hid hb hmod hmod2 e4 hasks hall ht hq hnd htl hxl hxg hzat hzre hzl hal hxa ha hql
          go_wp2_with fail
          go_quiet (fail)
          rw [E4.out]
          have S0 := hide (HSQ.out.up ((Up.refl wr).drewN nq))
          generalize wr.drewN nq = W0 at *
          go_wp2_with fail
          refine (in_all S0.out (by rw [HXL.out]; omega)).mono ?_
          rintro _ w1 ⟨v1, rfl, ho1, s1, hu1⟩
          have R1 := hide (ho1.rd S0.out)
          obtain ⟨a1, m1, d1, rfl, hm1, -⟩ := R1.out.sliceN
          obtain rfl : k = m1 := by rw [hm1.out]; exact HXL.out.symm
          have S1 := hide s1
          clear ho1 s1 hm1 hu1
          dsimp only
          go_wp2_with fail
          refine (in_move a t (id : Int) (b : Int) hT hM S1.out (List.getElem?_eq_some_iff.1 HXA.out).1 (List.getElem?_eq_some_iff.1 HXA.out).2 HTG.out (by rw [HXL.out]; omega) (by omega)).mono ?_
          rintro _ w2 ⟨rfl, s2, hc2⟩
          have R2 := hide (R1.out.chg hc2)
          have S2 := hide s2
          clear s2 hc2 R1
          dsimp only
          go_wp2_with fail
          refine (in_all S2.out (by rw [HZL.out, HXL.out]; omega)).mono ?_
          rintro _ w3 ⟨v3, rfl, ho3, s3, hu3⟩
          have N3 := hide (ho3.rd S2.out)
          have R3 := hide (R2.out.up hu3)
          obtain ⟨a3, m3, d3, rfl, hm3, -⟩ := N3.out.sliceN
          obtain rfl : k = m3 := by rw [hm3.out, HZL.out]; exact HXL.out.symm
          have S3 := hide s3
          clear ho3 s3 hm3 hu3 R2
          obtain ⟨g1, o1, rfl, hc1⟩ := R3.out.get (i := a) (List.getElem?_eq_some_iff.1 HXA.out).1
          rw [(List.getElem?_eq_some_iff.1 HXA.out).2] at hc1
          have hak' : (a : Int) < (k : Int) := by omega
          have a0' : (0 : Int) ≤ (a : Int) := by omega
          dsimp only
          go_wp2_with fail
          refine (in_place q (id : Int) S3.out (List.getElem?_eq_some_iff.1 HZQ.out).1 (List.getElem?_eq_some_iff.1 HZQ.out).2 (by rw [HZL.out, HXL.out]; omega)).mono ?_
          rintro _ w4 ⟨rfl, s4, hu4⟩
          have N4 := hide (N3.out.up hu4)
          have R4 := hide (R3.out.up hu4)
          have S4 := hide s4
          clear hc1 s4 hu4 R3 N3
          obtain ⟨q1, hq1⟩ : ∃ q1 : Nat, q1 = q + 1 := ⟨_, rfl⟩
          have f1 : IntKind.i64.wrap ((q : Int) + 1) = (q1 : Int) := by rw [IntKind.wrap_i64]; omega
          have f2 : (q : Int) + 1 = (q1 : Int) := by omega
          have f3 : IntKind.i64.wrap ((k : Int) - 1) = (k : Int) - 1 := by rw [IntKind.wrap_i64]; omega
          obtain ⟨g3, o3, rfl, hc0⟩ := N4.out.get (i := 0) (by rw [HZL.out, HXL.out]; omega)
          have HC := HAS.out
          rw [← hq1] at HC
          have HQ1 := hide hq1
          clear hq1 hc0 hmv HSQ S0 S1 S2 S3 HAS HM0 e0 e1 e2 e3 e5 E4 z1 z2 hcm hy8
          have NX : ∀ m, m < k → m ≠ a → ∃ v : Int, ∃ J : Nat, xs[m]? = some v ∧ v ≠ (id : Int) ∧ (shL xs a t)[J]? = some v ∧ J < k ∧ (cjN q (cntN a m) = J ∨ (cjN q (cntN a m) = q ∧ J = q + 1)) ∧ J + 1 = cjN q (cntN a (m + 1)) := by
            intro m hm hma
            have hml : m < xs.length := by rw [HXL.out]; exact hm
            obtain ⟨haL, hxa⟩ := List.getElem?_eq_some_iff.1 HXA.out
            have hz := HZR.out (cntN a m)
            have e1 : (if cntN a m < a then cntN a m else cntN a m + 1) = m := by unfold cntN; split <;> split <;> omega
            rw [e1, List.getElem?_eq_getElem hml] at hz
            have hJ := (List.getElem?_eq_some_iff.1 hz).1
            rw [HZL.out, HXL.out] at hJ
            refine ⟨xs[m], _, List.getElem?_eq_getElem hml, ?_, hz, hJ, ?_, ?_⟩
            · intro e
              exact hma (nodup_at HND.out (hi := hml) (hj := haL) (e.trans hxa.symm))
            · unfold cjN; split <;> split <;> omega
            · have : cntN a (m + 1) = cntN a m + 1 := by unfold cntN; split <;> split <;> omega
              rw [this]
              unfold cjN; split <;> split <;> omega
          have NX := hide NX
          have hstA : cjN q (cntN a (a + 1)) = cjN q (cntN a a) := by
            have : cntN a (a + 1) = cntN a a := by unfold cntN; split <;> split <;> omega
            rw [this]
          have hst0 : cjN q (cntN a 0) = 0 := by unfold cjN cntN; simp
          have hST := hide hstA
          have hSZ := hide hst0
          clear hstA hst0 HZR HND
          rcases HC with ⟨hb0, hqe⟩ | ⟨hb0, hbi⟩ | ⟨hb0, hbi, hql, hcb⟩
          · have r0 : (b : Int) = 0 := by omega
            have r1 : IntKind.i64.wrap ((k : Int) - 1) = (q : Int) := by rw [f3]; have := HQ1.out; omega
            clear hqe hb0 f1 f2 f3
            dsimp only
            go_wp2_with fail
            clear r1 r0
            go_loopw [17, 18] (fun jv mv wr => ∃ m : Nat, m ≤ k ∧ jv = .int .i64 (cjN q (cntN a m) : Nat) ∧ mv = .int .i64 m ∧ Hid (Up w4 wr)) (fun _ mv _ => k - (intOf mv).toNat)
            case atStart => exact ⟨0, Nat.zero_le _, by rw [hSZ.out]; rfl, rfl, Up.refl _⟩
            case round =>
              obtain ⟨m, hmk, rfl, rfl, huu⟩ := hrel
              by_cases hmlt : m < k
              · have hmlt' : (m : Int) < (k : Int) := by omega
                have m0 : (0 : Int) ≤ (m : Int) := by omega
                by_cases hma : m = a
                · obtain ⟨g, o, he, hcm⟩ := (R4.out.up huu.out).get (i := m) (by rw [HXL.out]; exact hmlt)
                  injection he with he; injection he with he1 he2
                  subst he1; subst he2
                  have hx : xs[m]'(by rw [HXL.out]; exact hmlt) = (id : Int) := (List.getElem?_eq_some_iff.1 (by rw [hma]; exact HXA.out)).2
                  rw [hx] at hcm
                  have HMA := hide hma
                  clear hx hma
                  go_wp2
                  go_roundw
                  case rel => exact ⟨m + 1, by omega, by rw [HMA.out, hST.out], by simp, huu⟩
                  case measure => simp [intOf]; omega
                · obtain ⟨v, J, hxv, hvi, hzv, hJk, hj0, hj1⟩ := NX.out m hmlt hma
                  obtain ⟨g, o, he, hcm⟩ := (R4.out.up huu.out).get (i := m) (by rw [HXL.out]; exact hmlt)
                  injection he with he; injection he with he1 he2
                  subst he1; subst he2
                  rw [(List.getElem?_eq_some_iff.1 hxv).2] at hcm
                  obtain ⟨g, o, he, hcz⟩ := (N4.out.up huu.out).get (i := J) (List.getElem?_eq_some_iff.1 hzv).1
                  injection he with he; injection he with he1 he2
                  subst he1; subst he2
                  rw [(List.getElem?_eq_some_iff.1 hzv).2] at hcz
                  obtain ⟨g, o, he, hci⟩ := (N4.out.up huu.out).get (i := q) (List.getElem?_eq_some_iff.1 HZQ.out).1
                  injection he with he; injection he with he1 he2
                  subst he1; subst he2
                  rw [(List.getElem?_eq_some_iff.1 HZQ.out).2] at hci
                  have HJ0 := hide hj0
                  have HJ1 := hide hj1
                  obtain ⟨j0, hj0'⟩ : ∃ j0 : Nat, j0 = cjN q (cntN a m) := ⟨_, rfl⟩
                  rw [← hj0'] at HJ0
                  rw [← hj0']
                  clear hj0 hj1 hj0' hxv hzv
                  go_wp2_with fail
                  go_loopw [17] (fun jv wr2 => ∃ jj : Nat, (jj = J ∨ (jj = q ∧ J = q + 1)) ∧ jv = .int .i64 jj ∧ wr2 = wr) (fun jv _ => J - (intOf jv).toNat)
                  case atStart => exact ⟨j0, HJ0.out, rfl, rfl⟩
                  case round =>
                    obtain ⟨jj, hjj, rfl, rfl⟩ := hrel
                    by_cases hjJ : jj = J
                    · subst hjJ
                      have j1 : (jj : Int) < (k : Int) := by omega
                      have j2 : (0 : Int) ≤ (jj : Int) := by omega
                      clear hjj
                      go_wp2_with fail
                      go_quiet (fail)
                      go_wp2
                      go_roundw
                      case rel => exact ⟨m + 1, by omega, by rw [← HJ1.out]; simp, by simp, hide (huu.out.drewN _)⟩
                      case measure => simp [intOf]; omega
                    · have hjq : jj = q ∧ J = q + 1 := by omega
                      obtain ⟨rfl, rfl⟩ := hjq
                      have j1 : (jj : Int) < (k : Int) := by omega
                      have j2 : (0 : Int) ≤ (jj : Int) := by omega
                      clear hjj hjJ
                      go_wp2
                      go_roundw
                      case rel => exact ⟨jj + 1, .inl rfl, by simp, by simp⟩
                      case measure => simp [intOf]
              · obtain rfl : k = m := by omega
                have hmlt' : ¬ (k : Int) < (k : Int) := by omega
                go_wp2
                go_roundw
                case rel => exact ⟨i + 1, by omega, by simp, hide ⟨_, by rw [show 100000 + 1600 * (i + 1) = 100000 + 1600 * i + 1600 by omega]; exact S4.out.up huu.out, HAL.out⟩⟩
                case measure => simp [intOf]; omega
          · have r1 : ¬ (b : Int) = 0 := by omega
            have r2 : (b : Int) = (id : Int) := by omega
            clear hb0 hbi f1 f2 f3
            dsimp only
            go_wp2_with fail
            clear r1 r2
            go_loopw [17, 18] (fun jv mv wr => ∃ m : Nat, m ≤ k ∧ jv = .int .i64 (cjN q (cntN a m) : Nat) ∧ mv = .int .i64 m ∧ Hid (Up w4 wr)) (fun _ mv _ => k - (intOf mv).toNat)
            case atStart => exact ⟨0, Nat.zero_le _, by rw [hSZ.out]; rfl, rfl, Up.refl _⟩
            case round =>
              obtain ⟨m, hmk, rfl, rfl, huu⟩ := hrel
              by_cases hmlt : m < k
              · have hmlt' : (m : Int) < (k : Int) := by omega
                have m0 : (0 : Int) ≤ (m : Int) := by omega
                by_cases hma : m = a
                · obtain ⟨g, o, he, hcm⟩ := (R4.out.up huu.out).get (i := m) (by rw [HXL.out]; exact hmlt)
                  injection he with he; injection he with he1 he2
                  subst he1; subst he2
                  have hx : xs[m]'(by rw [HXL.out]; exact hmlt) = (id : Int) := (List.getElem?_eq_some_iff.1 (by rw [hma]; exact HXA.out)).2
                  rw [hx] at hcm
                  have HMA := hide hma
                  clear hx hma
                  go_wp2
                  go_roundw
                  case rel => exact ⟨m + 1, by omega, by rw [HMA.out, hST.out], by simp, huu⟩
                  case measure => simp [intOf]; omega
                · obtain ⟨v, J, hxv, hvi, hzv, hJk, hj0, hj1⟩ := NX.out m hmlt hma
                  obtain ⟨g, o, he, hcm⟩ := (R4.out.up huu.out).get (i := m) (by rw [HXL.out]; exact hmlt)
                  injection he with he; injection he with he1 he2
                  subst he1; subst he2
                  rw [(List.getElem?_eq_some_iff.1 hxv).2] at hcm
                  obtain ⟨g, o, he, hcz⟩ := (N4.out.up huu.out).get (i := J) (List.getElem?_eq_some_iff.1 hzv).1
                  injection he with he; injection he with he1 he2
                  subst he1; subst he2
                  rw [(List.getElem?_eq_some_iff.1 hzv).2] at hcz
                  obtain ⟨g, o, he, hci⟩ := (N4.out.up huu.out).get (i := q) (List.getElem?_eq_some_iff.1 HZQ.out).1
                  injection he with he; injection he with he1 he2
                  subst he1; subst he2
                  rw [(List.getElem?_eq_some_iff.1 HZQ.out).2] at hci
                  have HJ0 := hide hj0
                  have HJ1 := hide hj1
                  obtain ⟨j0, hj0'⟩ : ∃ j0 : Nat, j0 = cjN q (cntN a m) := ⟨_, rfl⟩
                  rw [← hj0'] at HJ0
                  rw [← hj0']
                  clear hj0 hj1 hj0' hxv hzv
                  go_wp2_with fail
                  go_loopw [17] (fun jv wr2 => ∃ jj : Nat, (jj = J ∨ (jj = q ∧ J = q + 1)) ∧ jv = .int .i64 jj ∧ wr2 = wr) (fun jv _ => J - (intOf jv).toNat)
                  case atStart => exact ⟨j0, HJ0.out, rfl, rfl⟩
                  case round =>
                    obtain ⟨jj, hjj, rfl, rfl⟩ := hrel
                    by_cases hjJ : jj = J
                    · subst hjJ
                      have j1 : (jj : Int) < (k : Int) := by omega
                      have j2 : (0 : Int) ≤ (jj : Int) := by omega
                      clear hjj
                      go_wp2_with fail
                      go_quiet (fail)
                      go_wp2
                      go_roundw
                      case rel => exact ⟨m + 1, by omega, by rw [← HJ1.out]; simp, by simp, hide (huu.out.drewN _)⟩
                      case measure => simp [intOf]; omega
                    · have hjq : jj = q ∧ J = q + 1 := by omega
                      obtain ⟨rfl, rfl⟩ := hjq
                      have j1 : (jj : Int) < (k : Int) := by omega
                      have j2 : (0 : Int) ≤ (jj : Int) := by omega
                      clear hjj hjJ
                      go_wp2
                      go_roundw
                      case rel => exact ⟨jj + 1, .inl rfl, by simp, by simp⟩
                      case measure => simp [intOf]
              · obtain rfl : k = m := by omega
                have hmlt' : ¬ (k : Int) < (k : Int) := by omega
                go_wp2
                go_roundw
                case rel => exact ⟨i + 1, by omega, by simp, hide ⟨_, by rw [show 100000 + 1600 * (i + 1) = 100000 + 1600 * i + 1600 by omega]; exact S4.out.up huu.out, HAL.out⟩⟩
                case measure => simp [intOf]; omega
          · have r1 : ¬ (b : Int) = 0 := by omega
            have r2 : ¬ (b : Int) = (id : Int) := by omega
            have r3 : ¬ (k : Int) ≤ (q1 : Int) := by omega
            have r4 : (q1 : Int) < (k : Int) := by omega
            have r5 : (0 : Int) ≤ (q1 : Int) := by omega
            obtain ⟨g4, o4, he, hcq⟩ := N4.out.get (i := q1) (List.getElem?_eq_some_iff.1 hcb).1
            rw [(List.getElem?_eq_some_iff.1 hcb).2] at hcq
            injection he with he; injection he with he1 he2
            subst he1; subst he2
            clear hb0 hbi hql hcb
            dsimp only
            go_wp2_with fail
            clear r1 r2 r3 r4 r5 hcq f1 f2 f3
            go_loopw [17, 18] (fun jv mv wr => ∃ m : Nat, m ≤ k ∧ jv = .int .i64 (cjN q (cntN a m) : Nat) ∧ mv = .int .i64 m ∧ Hid (Up w4 wr)) (fun _ mv _ => k - (intOf mv).toNat)
            case atStart => exact ⟨0, Nat.zero_le _, by rw [hSZ.out]; rfl, rfl, Up.refl _⟩
            case round =>
              obtain ⟨m, hmk, rfl, rfl, huu⟩ := hrel
              by_cases hmlt : m < k
              · have hmlt' : (m : Int) < (k : Int) := by omega
                have m0 : (0 : Int) ≤ (m : Int) := by omega
                by_cases hma : m = a
                · obtain ⟨g, o, he, hcm⟩ := (R4.out.up huu.out).get (i := m) (by rw [HXL.out]; exact hmlt)
                  injection he with he; injection he with he1 he2
                  subst he1; subst he2
                  have hx : xs[m]'(by rw [HXL.out]; exact hmlt) = (id : Int) := (List.getElem?_eq_some_iff.1 (by rw [hma]; exact HXA.out)).2
                  rw [hx] at hcm
                  have HMA := hide hma
                  clear hx hma
                  go_wp2
                  go_roundw
                  case rel => exact ⟨m + 1, by omega, by rw [HMA.out, hST.out], by simp, huu⟩
                  case measure => simp [intOf]; omega
                · obtain ⟨v, J, hxv, hvi, hzv, hJk, hj0, hj1⟩ := NX.out m hmlt hma
                  obtain ⟨g, o, he, hcm⟩ := (R4.out.up huu.out).get (i := m) (by rw [HXL.out]; exact hmlt)
                  injection he with he; injection he with he1 he2
                  subst he1; subst he2
                  rw [(List.getElem?_eq_some_iff.1 hxv).2] at hcm
                  obtain ⟨g, o, he, hcz⟩ := (N4.out.up huu.out).get (i := J) (List.getElem?_eq_some_iff.1 hzv).1
                  injection he with he; injection he with he1 he2
                  subst he1; subst he2
                  rw [(List.getElem?_eq_some_iff.1 hzv).2] at hcz
                  obtain ⟨g, o, he, hci⟩ := (N4.out.up huu.out).get (i := q) (List.getElem?_eq_some_iff.1 HZQ.out).1
                  injection he with he; injection he with he1 he2
                  subst he1; subst he2
                  rw [(List.getElem?_eq_some_iff.1 HZQ.out).2] at hci
                  have HJ0 := hide hj0
                  have HJ1 := hide hj1
                  obtain ⟨j0, hj0'⟩ : ∃ j0 : Nat, j0 = cjN q (cntN a m) := ⟨_, rfl⟩
                  rw [← hj0'] at HJ0
                  rw [← hj0']
                  clear hj0 hj1 hj0' hxv hzv
                  go_wp2_with fail
                  go_loopw [17] (fun jv wr2 => ∃ jj : Nat, (jj = J ∨ (jj = q ∧ J = q + 1)) ∧ jv = .int .i64 jj ∧ wr2 = wr) (fun jv _ => J - (intOf jv).toNat)
                  case atStart => exact ⟨j0, HJ0.out, rfl, rfl⟩
                  case round =>
                    obtain ⟨jj, hjj, rfl, rfl⟩ := hrel
                    by_cases hjJ : jj = J
                    · subst hjJ
                      have j1 : (jj : Int) < (k : Int) := by omega
                      have j2 : (0 : Int) ≤ (jj : Int) := by omega
                      clear hjj
                      go_wp2_with fail
                      go_quiet (fail)
                      go_wp2
                      go_roundw
                      case rel => exact ⟨m + 1, by omega, by rw [← HJ1.out]; simp, by simp, hide (huu.out.drewN _)⟩
                      case measure => simp [intOf]; omega
                    · have hjq : jj = q ∧ J = q + 1 := by omega
                      obtain ⟨rfl, rfl⟩ := hjq
                      have j1 : (jj : Int) < (k : Int) := by omega
                      have j2 : (0 : Int) ≤ (jj : Int) := by omega
                      clear hjj hjJ
                      go_wp2
                      go_roundw
                      case rel => exact ⟨jj + 1, .inl rfl, by simp, by simp⟩
                      case measure => simp [intOf]
              · obtain rfl : k = m := by omega
                have hmlt' : ¬ (k : Int) < (k : Int) := by omega
                go_wp2
                go_roundw
                case rel => exact ⟨i + 1, by omega, by simp, hide ⟨_, by rw [show 100000 + 1600 * (i + 1) = 100000 + 1600 * i + 1600 by omega]; exact S4.out.up huu.out, HAL.out⟩⟩
                case measure => simp [intOf]; omega
        · obtain rfl : n1 = i := by omega
          have hlt' : ¬ (n1 : Int) < (n1 : Int) := by omega
          go_wp2
          go_ret
          obtain ⟨_, ⟨_, _, _, _, _, hu⟩, _⟩ := hmv.out
          exact ⟨rfl, hu⟩

theorem seqMoves_many (a0 : Int) (a1 : Option Addr) (n1 c1 : Nat) (w : World) (hn : 40 < n1) :
    Calls Try.prog 4 #[.int .u8 a0, .slice a1 n1 c1] w fun e w' => e = .returned (.bool true) ∧ Up w w' := by
  have g0 : decide ((n1 : Int) > 40) = true := decide_eq_true (by omega)
  have g0' : (n1 : Int) > 40 := by omega
  have g0'' : decide (40 < n1) = true := decide_eq_true hn
  go_enter Try.func4, Try.ntmps4
  go_wp2_with fail
  refine (known13_calls w).mono ?_
  rintro _ wk ⟨rfl, huk⟩
  replace huk := hide huk
  dsimp only
  go_wp2
  go_ret
  exact ⟨rfl, huk.out⟩
end Go.Proofs.Ytbnkddnjfkagkaa
