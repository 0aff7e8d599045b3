/-
  sort.Search and Search of a counted tree of whole numbers, as their text runs, for whatever question.
-/
import Derived.Test.YtbnkddnjfkagkaaTrLogL
namespace Go.Proofs.Ytbnkddnjfkagkaa
open Go.ChangeShapes Go.WideShapes Go.ChangeAt Go.RowKit
set_option linter.unusedVariables false
set_option maxRecDepth 100000
attribute [local go_sem ↓] Go.wp_at_zero Go.wp_at_succ

theorem bitsN_mono {a b : Nat} (h : a ≤ b) : bitsN a ≤ bitsN b := by
  by_cases ha : a = 0
  · subst ha; exact Nat.zero_le _
  · have h1 : 2 ^ a.log2 ≤ a := Nat.log2_self_le ha
    have := bitsN_ge (Nat.le_trans h1 h)
    have e : bitsN a = a.log2 + 1 := by unfold bitsN; rw [if_neg ha]
    omega
/-- A question of places: what it answers, what holds behind so many askings. -/
def AskAt (g : FuncId) (cb : Array Value) (n : Nat) (q : Nat → Bool) (I : Nat → World → Prop) : Prop :=
  ∀ (k i : Nat) (w : World), k < 100 → i < n → I k w → Calls Try.prog g (#[.int .i64 i] ++ cb) w fun e w' => e = .returned (.bool (q i)) ∧ I (k + 1) w'
/-- What Search tells. -/
def SeaPost (p n : Nat) (I : Nat → World → Prop) (e : Ending) (w' : World) : Prop := ∃ k, e = .returned (.int .i64 p) ∧ I k w' ∧ k ≤ bitsN n
set_option maxHeartbeats 4000000 in
theorem sortSearch_calls (g : FuncId) (cb : Array Value) (n p : Nat) (q : Nat → Bool) (I : Nat → World → Prop) (w : World) (hn : n ≤ 1000000) (hg : ∀ args w, (callFunc g args).run Try.prog w = .ok (.enter g args) w) (hA : AskAt g cb n q I) (hp : p ≤ n) (hlo : ∀ i, i < p → q i = false) (hhi : ∀ i, p ≤ i → i < n → q i = true) (h0 : I 0 w) :
    Calls Try.prog 82 #[.int .i64 n, .func (.func g) #[] cb] w fun e w' => SeaPost p n I e w' := by
  have HLO := hide hlo
  have HHI := hide hhi
  have H0 := hide h0
  clear hlo hhi h0
  go_enter Try.func82, Try.ntmps82
  go_wp2_with fail
  go_loopw [5, 6] (fun iv jv wr => ∃ i j k : Nat, i ≤ p ∧ p ≤ j ∧ j ≤ n ∧ iv = .int .i64 i ∧ jv = .int .i64 j ∧ Hid (I k wr) ∧ Hid (k + bitsN (j - i) ≤ bitsN n)) (fun iv jv _ => (intOf jv).toNat - (intOf iv).toNat)
  case atStart => exact ⟨0, n, 0, Nat.zero_le _, hp, Nat.le_refl _, rfl, rfl, H0, by unfold Hid; simp⟩
  case round =>
    obtain ⟨i, j, k, hip, hpj, hjn, rfl, rfl, hI, hk⟩ := hrel
    by_cases hlt : i < j
    · have hlt' : (i : Int) < (j : Int) := by omega
      obtain ⟨m, hm⟩ : ∃ m : Nat, m = (i + j) / 2 := ⟨_, rfl⟩
      have hm1 : i ≤ m ∧ m < j := by omega
      have em : ((i : Int) + (j : Int)) / 2 = (m : Int) := by omega
      have e1 : IntKind.i64.wrap ((i : Int) + (j : Int)) = (i : Int) + (j : Int) := by rw [IntKind.wrap_i64]; omega
      have e3 : IntKind.i64.wrap ((m : Int) + 1) = (m : Int) + 1 := by rw [IntKind.wrap_i64]; omega
      have e4 : IntKind.i64.wrap (m : Int) = (m : Int) := by rw [IntKind.wrap_i64]; omega
      have hbits := bitsN_pos (m := j - i) (by omega)
      have hbn := bitsN_le (m := n) (by omega)
      have hA' := hide (hA k m wr (by have := hk.out; omega) (by omega) hI.out)
      clear hbn
      have HB := hide hbits
      have HM := hide hm
      clear hbits hm
      cases hq : q m with
      | false =>
        rw [hq] at hA'
        have hmp : m < p := by
          rcases Nat.lt_or_ge m p with h | h
          · exact h
          · have := HHI.out m h (by omega)
            rw [hq] at this
            cases this
        go_wp2_with fail
        refine hA'.out.mono ?_
        rintro _ w2 ⟨rfl, hI2⟩
        have HI2 := hide hI2
        clear hI2 hA'
        dsimp only
        go_wp2
        go_roundw
        case rel =>
          refine ⟨m + 1, j, k + 1, hmp, hpj, hjn, by first | rfl | congr 1, rfl, HI2, ?_⟩
          unfold Hid
          have h1 := hk.out
          have h2 := HB.out
          have h3 := HM.out
          have h4 : bitsN (j - (m + 1)) ≤ bitsN ((j - i) / 2) := bitsN_mono (by omega)
          omega
        case measure => simp [intOf]; omega
      | true =>
        rw [hq] at hA'
        have hmp : p ≤ m := by
          rcases Nat.lt_or_ge m p with h | h
          · have := HLO.out m h
            rw [hq] at this
            cases this
          · exact h
        go_wp2_with fail
        refine hA'.out.mono ?_
        rintro _ w2 ⟨rfl, hI2⟩
        have HI2 := hide hI2
        clear hI2 hA'
        dsimp only
        go_wp2
        go_roundw
        case rel =>
          refine ⟨i, m, k + 1, hip, hmp, by omega, rfl, by first | rfl | congr 1, HI2, ?_⟩
          unfold Hid
          have h1 := hk.out
          have h2 := HB.out
          have h3 := HM.out
          have h4 : bitsN (m - i) ≤ bitsN ((j - i) / 2) := bitsN_mono (by omega)
          omega
        case measure => simp [intOf]; omega
    · obtain rfl : p = i := by omega
      obtain rfl : p = j := by omega
      have hlt' : ¬ (p : Int) < (p : Int) := by omega
      go_wp2
      go_ret
      exact ⟨k, rfl, hI.out, by have := hk.out; omega⟩
/-- A question of elements. -/
def AskV (g : FuncId) (cb : Array Value) (xs : List Int) (qv : Int → Bool) (I : Nat → World → Prop) : Prop :=
  ∀ (k : Nat) (x : Int) (w : World), k < 100 → x ∈ xs → I k w → Calls Try.prog g (#[.int .i64 x] ++ cb) w fun e w' => e = .returned (.bool (qv x)) ∧ I (k + 1) w'
set_option maxHeartbeats 4000000 in
theorem ask1_calls (T h n tb fb : Nat) (g : FuncId) (cb : Array Value) (xs : List Int) (qv : Int → Bool) (I : Nat → World → Prop) (hx : xs.length ≤ 100000) (hg : ∀ args w, (callFunc g args).run Try.prog w = .ok (.enter g args) w) (hA : AskV g cb xs qv I) (hIu : ∀ k w w', I k w → Up w w' → I k w')
    (hI : ∀ k w, I k w → TrL w T xs h n ∧ w.cell? ⟨tb, 0, none⟩ = some (.pointer (some ⟨T, 0, none⟩)) ∧ w.cell? ⟨fb, 0, none⟩ = some (.func (.func g) #[] cb)) :
    AskAt 83 #[.pointer (some ⟨tb, 0, none⟩), .pointer (some ⟨fb, 0, none⟩)] xs.length (fun i => qv (xs.getD i 0)) I := by
  intro k i w hk100 hi hIk
  obtain ⟨t, c0, c1⟩ := hI k w hIk
  have HAT := hide (tatL_ok T h n i 0 xs w t hi hx)
  have HI := hide hIk
  clear t hIk
  go_enter Try.func83, Try.ntmps83
  go_wp2_with fail
  refine HAT.out.mono ?_
  rintro _ w1 ⟨rfl, hu1⟩
  have HI1 := hide (hIu k w w1 HI.out hu1)
  replace c1 := hu1.cell c1
  obtain ⟨x, hxx⟩ : ∃ x, x = xs.getD i 0 := ⟨_, rfl⟩
  rw [← hxx]
  have HMX : Hid (x ∈ xs) := by
    rw [hxx, List.getD_eq_getElem?_getD, List.getElem?_eq_getElem hi]
    exact List.getElem_mem hi
  replace hxx := hide hxx
  clear hu1 c0 HAT
  dsimp only
  go_wp2_with fail
  refine (hA k x w1 hk100 HMX.out HI1.out).mono ?_
  rintro _ w2 ⟨rfl, hI2⟩
  have HI2 := hide hI2
  clear hI2
  dsimp only
  go_wp2
  go_ret
  refine ⟨?_, HI2.out⟩
  rw [← hxx.out]
  rfl
set_option maxHeartbeats 4000000 in
/-- Search by whatever question: I says what holds behind so many askings. -/
theorem tsearch_calls (T h n p : Nat) (g : FuncId) (cb : Array Value) (xs : List Int) (qv : Int → Bool) (I : Nat → World → Prop) (w W : World) (hW : W = (w.alloc (.cells #[.pointer (some ⟨T, 0, none⟩)] 80)).alloc (.cells #[.func (.func g) #[] cb] 72)) (hx : xs.length ≤ 100000) (hg : ∀ args w, (callFunc g args).run Try.prog w = .ok (.enter g args) w) (hA : AskV g cb xs qv I) (hIu : ∀ k w w', I k w → Up w w' → I k w')
    (hI : ∀ k w', I k w' → TrL w' T xs h n ∧ w'.cell? ⟨w.heap.size, 0, none⟩ = some (.pointer (some ⟨T, 0, none⟩)) ∧ w'.cell? ⟨w.heap.size + 1, 0, none⟩ = some (.func (.func g) #[] cb))
    (hI0 : I 0 W) (hp : p ≤ xs.length) (hlo : ∀ i, i < p → qv (xs.getD i 0) = false) (hhi : ∀ i, p ≤ i → i < xs.length → qv (xs.getD i 0) = true) :
    Calls Try.prog 69 #[.pointer (some ⟨T, 0, none⟩), .func (.func g) #[] cb] w fun e w' => SeaPost p xs.length I e w' := by
  obtain ⟨t, c0, c1⟩ := hI 0 W hI0
  have HL := hide (tlenL_calls T h n xs W t)
  have HS := hide (sortSearch_calls 83 #[.pointer (some ⟨w.heap.size, 0, none⟩), .pointer (some ⟨w.heap.size + 1, 0, none⟩)] xs.length p _ I W (by omega) (enters_of Try.func83 (by kernel_rfl) rfl) (ask1_calls T h n w.heap.size (w.heap.size + 1) g cb xs qv I hx hg hA hIu hI) hp hlo hhi hI0)
  have hW' := hW.symm
  clear t hA hI hIu hI0 hW hlo hhi
  go_enter Try.func69, Try.ntmps69
  go_wp2_with fail
  clear hW'
  refine HL.out.mono ?_
  rintro _ w1 ⟨rfl, hw1⟩
  obtain rfl : W = w1 := hw1.symm
  dsimp only
  go_wp2_with fail
  refine HS.out.mono ?_
  rintro _ w2 ⟨k2, rfl, hI2, hk2⟩
  replace hI2 := hide hI2
  dsimp only
  go_wp2
  go_ret
  exact ⟨k2, rfl, hI2.out, hk2⟩
end Go.Proofs.Ytbnkddnjfkagkaa
