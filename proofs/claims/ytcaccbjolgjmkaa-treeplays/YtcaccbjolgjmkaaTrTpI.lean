/-
  changed, of a node of whatever height, and change of a counted tree of whole numbers, as their text runs.
-/
import Derived.Test.YtcaccbjolgjmkaaTrCiI
namespace Go.Proofs.Ytcaccbjolgjmkaa
open Go.ChangeShapes Go.WideShapes Go.ChangeAt Go.RowKit
set_option linter.unusedVariables false
set_option maxRecDepth 100000
attribute [local go_sem ↓] Go.wp_at_zero Go.wp_at_succ

theorem changedI_calls (T : Nat) (Y : Nat → Prop) (tv : Value) (g : FuncId) (cb : Array Value) (S : Bool) (f : List Int → Nat → List Int) (D : World → Prop) (w0 : World) (xs : List Int) (i : Nat)
    (hf : Local S f) (hg : ∀ args w, (callFunc g args).run Try.prog w = .ok (.enter g args) w) (hD : DoIsI T Y g cb S f D w0 xs i) (hDs : ∀ W W', D W → Chg (fun y => ¬ Y y) W W' → D W') (hYT : ¬ Y T) (hYo : ∀ y, XT T Y y → y < w0.heap.size) (hbig : xs.length ≤ 100000) :
    ∀ (h : Nat) (X : Nat → Prop) (w : World) (n : Nat) (ys a c : List Int) (j b s : Nat), (∀ y, XT T Y y → X y) → (∀ y, X y → y < w.heap.size) → Up w0 w → TrC w T tv n → n ≤ 10000000 → Nd (Value.int .i64) X w h b ys s → s ≤ 8 → (h ≠ 0 → 2 ≤ s) → xs = a ++ (ys ++ c) → i = a.length + j → Ok S ys.length j →
      Calls Try.prog 50 #[.pointer (some ⟨T, 0, none⟩), .pointer (some ⟨b, 0, none⟩), .int .i64 j, .func (.func g) #[] cb] w fun e w' => ChangedPostI X T Y tv n h (f ys j) s D w e w' := by
  intro h
  induction h with
  | zero => exact fun X w n ys a c j b s hXY hXo hc hT _ hn hs _ hxs hi hok => changedI_leaf X T n Y tv g cb S f D w0 w xs ys a c i j b s hf hg hD hDs hYT hYo hc hXY hXo hT hn hs hxs hi hok
  | succ h ih => exact fun X w n ys a c j b s hXY hXo hc hT hnn hn hs hs2 hxs hi hok => changedI_inner X T n h Y tv g cb S f D w0 w xs ys a c i j b s ih hf hDs hYT hYo hc hbig hXY hXo hT hnn hn hs (hs2 (Nat.succ_ne_zero _)) hxs hi hok

/-- What change leaves where it is done. -/
def ChangeDoneI (T : Nat) (Y : Nat → Prop) (n h : Nat) (zs : List Int) (D : World → Prop) (w : World) (e : Ending) (w' : World) : Prop :=
  ∃ b k h', e = .returned (.int .i64 0) ∧ TrC w' T (pE b) (n + k) ∧ Top (Value.int .i64) (XT T Y) w' b zs h' ∧ 1 ≤ k ∧ k ≤ 2 * h + 3 ∧ D w' ∧ Chg (XT T Y) w w'
theorem changeI_not (T : Nat) (i p : Int) (fv : Value) (w : World) (h : i < 0 ∨ p ≤ i) :
    Calls Try.prog 32 #[.pointer (some ⟨T, 0, none⟩), .int .i64 i, .int .i64 p, fv] w fun e w' => e = .returned (.int .i64 73) ∧ Up w w' := by
  by_cases h0 : i < 0
  · have hd : decide (i < 0) = true := decide_eq_true h0
    go_enter Try.func32, Try.ntmps32
    go_wp2
    go_ret
    exact ⟨rfl, Up.refl _⟩
  · have hd : decide (i < 0) = false := decide_eq_false h0
    have hd2 : decide (i ≥ p) = true := decide_eq_true (by omega)
    have h2 : p ≤ i := by omega
    go_enter Try.func32, Try.ntmps32
    go_wp2
    go_ret
    exact ⟨rfl, Up.refl _⟩

set_option maxHeartbeats 4000000 in
theorem changeI_calls (T n h : Nat) (Y : Nat → Prop) (g : FuncId) (cb : Array Value) (S : Bool) (f : List Int → Nat → List Int) (D : World → Prop) (w : World) (xs : List Int) (i : Nat) (p : Int) (b : Nat)
    (hf : Local S f) (hg : ∀ args w, (callFunc g args).run Try.prog w = .ok (.enter g args) w) (hD : DoIsI T Y g cb S f D w xs i) (hDs : ∀ W W', D W → Chg (fun y => ¬ Y y) W W' → D W') (hYT : ¬ Y T) (hYo : ∀ y, XT T Y y → y < w.heap.size) (hbig : xs.length ≤ 100000)
    (hT : TrC w T (pE b) n) (hnn : n ≤ 10000000) (hn : Top (Value.int .i64) (XT T Y) w b xs h) (hok : Ok S xs.length i) (hp : (i : Int) < p) :
    Calls Try.prog 32 #[.pointer (some ⟨T, 0, none⟩), .int .i64 i, .int .i64 p, .func (.func g) #[] cb] w fun e w' => ChangeDoneI T Y n h (f xs i) D w e w' := by
  obtain ⟨s, hnd, hs8, hs2⟩ := hn
  have hTl : T < w.heap.size := hYo T (.inl rfl)
  have hh : h ≤ 11 := by
    have h1 := hnd.many
    by_cases h0 : h = 0
    · omega
    · have := hs2 h0
      rcases Nat.lt_or_ge h 11 with h3 | h3
      · omega
      · have h4 : 4 ^ 11 ≤ 4 ^ h := Nat.pow_le_pow_right (by decide) h3
        have h5 : 1 * 4 ^ 11 ≤ s * 4 ^ h := Nat.mul_le_mul (by omega) h4
        have h6 : (4 : Nat) ^ 11 = 4194304 := by decide
        omega
  have hzl : (f xs i).length ≤ 100001 := by have := hf.more _ _ hok; omega
  have HND := hide hnd
  have HOK := hide hok
  have HT := hide hT
  obtain ⟨c0, c1, f0, f1⟩ := hT
  have hd : decide ((i : Int) < 0) = false := decide_eq_false (by omega)
  have hd2 : decide ((i : Int) ≥ p) = false := decide_eq_false (by omega)
  have hp' : ¬ (p ≤ (i : Int)) := by omega
  have hCH := changedI_calls T Y (pE b) g cb S f D w xs i hf hg hD hDs hYT hYo hbig h (XT T Y) w n xs [] [] i b s (fun _ h => h) hYo (Up.refl _) HT.out hnn hnd hs8 hs2 (by simp) (by simp) hok
  have HCH := hide hCH
  unfold pE at c0
  clear hnd hok c1 f0 f1 hD hg hCH
  go_enter Try.func32, Try.ntmps32
  go_wp2_with fail
  refine HCH.out.mono ?_
  rintro _ w1 ⟨v1, u1, t, k, rfl, hl1, ht1, ht2, hT1, hk1, hk11, hD1, hC1⟩
  obtain ⟨a1, n1, d1, a2, n2, d2, rfl, rfl, hle1, hle2, hn12, hn0, hn1⟩ := hl1.slices
  have HL1 := hide hl1
  have HT1 := hide hT1
  have HD1 := hide hD1
  have HC1 := hide hC1
  obtain ⟨W1, hW1⟩ : ∃ W1, W1 = w1.alloc (.cells #[.slice a1 n1 d1, .slice a2 n2 d2] 64) := ⟨_, rfl⟩
  have uW : Hid (Up w1 W1) := by rw [hW1]; exact (Up.refl _).alloc _
  have l0 : W1.cell? ⟨w1.heap.size, 0, none⟩ = some (.slice a1 n1 d1) := by rw [hW1]; go_simp
  have l1 : W1.cell? ⟨w1.heap.size, 1, none⟩ = some (.slice a2 n2 d2) := by rw [hW1]; go_simp
  have hW1' := hW1.symm
  have hXT : ∀ y, y = T → XT T Y y := fun y e => .inl e
  have hYn : ∀ y, y = T → ¬ Y y := fun y e => by rw [e]; exact hYT
  clear hW1 c0
  by_cases hone : n2 = 1
  · subst hone
    have hh0 : h ≠ 0 := fun e => by have := (hn0 e).2; omega
    obtain ⟨h', rfl⟩ : ∃ h', h = h' + 1 := ⟨h - 1, by omega⟩
    have ht : t = 1 := by have := (hn1 hh0).2; omega
    obtain ⟨_, L, hr, hk, hx, hL⟩ := hl1
    obtain ⟨q, rfl⟩ : ∃ q, L = [q] := List.length_eq_one_iff.1 (by omega)
    obtain ⟨g2, o2, rfl, hq⟩ := hr.get (i := 0) (by simp)
    obtain ⟨tq, q4, q8, hnq⟩ := hk q (by simp)
    have HQ := hide hnq
    have HX := hide hx
    replace hq := uW.out.cell hq
    obtain ⟨d0, e0, f0, f1⟩ := hT1.up uW.out
    have hq' : W1.cell? ⟨g2, o2, none⟩ = some (.pointer (some ⟨q.1, 0, none⟩)) := hq
    have HTW := hide (hT1.up uW.out)
    clear hT1 hD1 hC1 hr hk hx hL hq hn0 hn1 hnq e0 l0
    obtain ⟨qb, hqb⟩ : ∃ qb, qb = q.1 := ⟨_, rfl⟩
    rw [← hqb] at hq' HQ
    replace hqb := hide hqb
    go_wp2
    go_ret
    have hc := chg_top W1 T (pE qb)
    refine ⟨qb, k, h', rfl, HTW.out.setTop (pE qb), ⟨tq, ?_, q8, fun _ => by omega⟩, hk11 (Nat.succ_ne_zero _), by omega, ?_, ?_⟩
    · rw [HX.out]
      simp only [List.flatMap_cons, List.flatMap_nil, List.append_nil]
      exact (HQ.out.chg (Chg.of_up uW.out)).chg (hc.mono (fun y _ e => hXT y e))
    · exact hDs _ _ (hDs _ _ HD1.out (Chg.of_up uW.out)) (hc.mono (fun y _ e => hYn y e))
    · exact (HC1.out.andUp uW.out).trans hc (fun y _ e => hXT y e)
  · have hb1 : ((n2 : Int) != 1) = true := by simp; omega
    have hb2 : ¬ ((n2 : Int) = 1) := by omega
    have ht16 : t ≤ 16 := by omega
    have hYo1 : ∀ y, XT T Y y → y < W1.heap.size := fun y hy => by have := hYo y hy; have := HC1.out.size; have := uW.out.size; omega
    have HYO := hide hYo1
    clear hl1 hT1 hD1 hC1
    go_wp2_with fail
    refine (nodesI_calls (XT T Y) T (n + k) (pE b) h _ _ (f xs i) t _ (HT1.out.up uW.out) (.inl rfl) HYO.out (HL1.out.chg (Chg.of_up uW.out)) ht16 (by omega) (by omega)).mono ?_
    rintro _ w2 ⟨v2, M, rfl, ho2, hM, hMf, hM1, hM2, hT2, hc2⟩
    obtain ⟨a3, n3, d3, rfl, hn3, hn3c⟩ := ho2.sliceN
    have hn3M : n3 = M.length := by rw [hn3.out]; simp
    have hMX : ∀ g, (Value.slice a3 n3 d3).ownBlock = some g → ¬ XT T Y g := fun g hg hx => by have := (ho2.lt g hg).1; have := HYO.out g hx; omega
    have HR2 := hide (ho2.rd hMX)
    have HM := hide hM
    have HMF := hide hMf
    have HT2 := hide hT2
    have HC2 := hide hc2
    clear ho2 hM hMf hT2 hc2 l0 l1 hW1'
    by_cases h8 : t ≤ 8
    · have hMl := hM1 h8
      obtain ⟨q, rfl⟩ : ∃ q, M = [q] := List.length_eq_one_iff.1 hMl
      obtain rfl : n3 = 1 := hn3M
      obtain ⟨g2, o2, rfl, hq⟩ := HR2.out.get (i := 0) (by simp)
      have hq' : w2.cell? ⟨g2, o2, none⟩ = some (.pointer (some ⟨q.1, 0, none⟩)) := hq
      obtain ⟨tq, hnq, q8, _, qs⟩ := HM.out q (by simp)
      obtain ⟨d0, e0, f0, f1⟩ := HT2.out
      have HQ := hide hnq
      obtain ⟨qb, hqb⟩ : ∃ qb, qb = q.1 := ⟨_, rfl⟩
      rw [← hqb] at hq' HQ
      replace hqb := hide hqb
      have hqs := qs h8
      clear hq hnq e0
      go_wp2
      go_ret
      have hc := chg_top w2 T (pE qb)
      refine ⟨qb, k + 1, h, rfl, ?_, ⟨tq, ?_, q8, fun h0 => ?_⟩, by omega, by omega, ?_, ?_⟩
      · rw [← Nat.add_assoc]
        exact HT2.out.setTop (pE qb)
      · have := HMF.out
        simp only [List.flatMap_cons, List.flatMap_nil, List.append_nil] at this
        rw [← this]
        exact HQ.out.chg (hc.mono (fun y _ e => hXT y e))
      · have := (hn1 h0).2
        have := hs2 h0
        omega
      · exact hDs _ _ (hDs _ _ (hDs _ _ HD1.out (Chg.of_up uW.out)) (HC2.out.mono (fun y _ e => hYn y e))) (hc.mono (fun y _ e => hYn y e))
      · exact ((HC1.out.andUp uW.out).trans HC2.out (fun y _ e => hXT y e)).trans hc (fun y _ e => hXT y e)
    · have hMl := hM2 (by omega)
      obtain rfl : n3 = 2 := by omega
      have hYo2 : ∀ y, XT T Y y → y < w2.heap.size := fun y hy => by have := HYO.out y hy; have := HC2.out.size; omega
      have HYO2 := hide hYo2
      have HL2 : Hid (Ld (Value.int .i64) (XT T Y) w2 (h + 1) (.slice none 0 0) (.slice a3 2 d3) (f xs i) 2) := ⟨Emp.nil, M, HR2.out, fun q hq => by
        obtain ⟨tq, hnq, q8, q4, _⟩ := HM.out q hq
        exact ⟨tq, q4 (by omega), q8, hnq⟩, HMF.out.symm, hMl.symm⟩
      have HML := hide hMl
      clear hn3M hM1 hM2 hMl hn3
      dsimp only
      go_wp2_with fail
      have hMl := HML.out
      refine (nodesI_calls (XT T Y) T (n + k + M.length) (pE b) (h + 1) _ _ (f xs i) 2 _ HT2.out (.inl rfl) HYO2.out HL2.out (by omega) (by omega) (by omega)).mono ?_
      rintro _ w3 ⟨v3, N, rfl, ho3, hN, hNf, hN1, -, hT3, hc3⟩
      obtain ⟨q, rfl⟩ : ∃ q, N = [q] := List.length_eq_one_iff.1 (hN1 (by omega))
      obtain ⟨a4, n4, d4, rfl, hn4, hn4c⟩ := ho3.sliceN
      obtain rfl : n4 = 1 := hn4.out
      have HR3 := hide (ho3.rd (X := XT T Y) (fun g hg hx => by have := (ho3.lt g hg).1; have := HYO2.out g hx; omega))
      obtain ⟨g2, o2, rfl, hq⟩ := HR3.out.get (i := 0) (by simp)
      have hq' : w3.cell? ⟨g2, o2, none⟩ = some (.pointer (some ⟨q.1, 0, none⟩)) := hq
      obtain ⟨tq, hnq, q8, _, qs⟩ := hN q (by simp)
      have HT3 := hide hT3
      have HC3 := hide hc3
      obtain ⟨d0, e0, f0, f1⟩ := hT3
      have HQ := hide hnq
      have HNF := hide hNf
      obtain ⟨qb, hqb⟩ : ∃ qb, qb = q.1 := ⟨_, rfl⟩
      rw [← hqb] at hq' HQ
      replace hqb := hide hqb
      have hqs := qs (by omega)
      clear hq hnq e0 ho3 hN hNf hc3 hMl hN1 hn4
      dsimp only
      go_wp2
      go_ret
      have hc := chg_top w3 T (pE qb)
      refine ⟨qb, k + 2 + 1, h + 1, rfl, ?_, ⟨tq, ?_, q8, fun h0 => by omega⟩, by omega, by omega, ?_, ?_⟩
      · have := HT3.out.setTop (pE qb)
        rw [HML.out] at this
        exact this
      · have := HNF.out
        simp only [List.flatMap_cons, List.flatMap_nil, List.append_nil] at this
        rw [← this]
        exact HQ.out.chg (hc.mono (fun y _ e => hXT y e))
      · exact hDs _ _ (hDs _ _ (hDs _ _ (hDs _ _ HD1.out (Chg.of_up uW.out)) (HC2.out.mono (fun y _ e => hYn y e))) (HC3.out.mono (fun y _ e => hYn y e))) (hc.mono (fun y _ e => hYn y e))
      · exact (((HC1.out.andUp uW.out).trans HC2.out (fun y _ e => hXT y e)).trans HC3.out (fun y _ e => hXT y e)).trans hc (fun y _ e => hXT y e)
end Go.Proofs.Ytcaccbjolgjmkaa
