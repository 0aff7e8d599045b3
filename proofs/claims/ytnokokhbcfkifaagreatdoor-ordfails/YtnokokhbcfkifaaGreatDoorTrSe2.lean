/-
  sort.Search and Search of a counted tree of entries by a question that may fail: as long as it doesn't, all is as it should be; then whatever it answers.
-/
import Derived.Test.YtnokokhbcfkifaaGreatDoorTrAskEG
namespace Go.Proofs.YtnokokhbcfkifaaGreatDoor
open Go.ChangeShapes Go.WideShapes Go.ChangeAt Go.RowKit
set_option linter.unusedVariables false
set_option maxRecDepth 100000
attribute [local go_sem ↓] Go.wp_at_zero Go.wp_at_succ

/-- A question of places that may fail: I holds behind so many askings, J once it has failed. -/
def AskAt2 (g : FuncId) (cb : Array Value) (n : Nat) (q : Nat → Bool) (I : Nat → World → Prop) (J : World → Prop) : Prop :=
  (∀ (k i : Nat) (w : World), k < 100 → i < n → I k w → Calls Tryz.prog g (#[.int .i64 i] ++ cb) w fun e w' => (e = .returned (.bool (q i)) ∧ I (k + 1) w') ∨ ∃ b, e = .returned (.bool b) ∧ J w') ∧
  (∀ (i : Nat) (w : World), i < n → J w → Calls Tryz.prog g (#[.int .i64 i] ++ cb) w fun e w' => ∃ b, e = .returned (.bool b) ∧ J w')
/-- What Search tells. -/
def SeaPost2 (p n : Nat) (I : Nat → World → Prop) (J : World → Prop) (e : Ending) (w' : World) : Prop := (∃ k, e = .returned (.int .i64 p) ∧ I k w' ∧ k ≤ bitsN n) ∨ ∃ p' : Nat, e = .returned (.int .i64 p') ∧ J w'
/-- Where the search stands. -/
def SeaAt (p n i j : Nat) (I : Nat → World → Prop) (J : World → Prop) (w : World) : Prop := (i ≤ p ∧ p ≤ j ∧ ∃ k, I k w ∧ k + bitsN (j - i) ≤ bitsN n) ∨ J w
set_option maxHeartbeats 4000000 in
theorem sortSearch2_calls (g : FuncId) (cb : Array Value) (n p : Nat) (q : Nat → Bool) (I : Nat → World → Prop) (J : World → Prop) (w : World) (hn : n ≤ 1000000) (hA : AskAt2 g cb n q I J) (hp : p ≤ n) (hlo : ∀ i, i < p → q i = false) (hhi : ∀ i, p ≤ i → i < n → q i = true) (h0 : I 0 w) (hg : ∀ args w, (callFunc g args).run Tryz.prog w = .ok (.enter g args) w) :
    Calls Tryz.prog 56 #[.int .i64 n, .func (.func g) #[] cb] w fun e w' => SeaPost2 p n I J e w' := by
  have HLO := hide hlo
  have HHI := hide hhi
  have H0 := hide h0
  have HA := hide hA
  have HP := hide hp
  clear hlo hhi h0 hA hp
  go_enter Tryz.func56, Tryz.ntmps56
  go_wp2_with fail
  go_loopw [5, 6] (fun iv jv wr => ∃ i j : Nat, i ≤ j ∧ j ≤ n ∧ iv = .int .i64 i ∧ jv = .int .i64 j ∧ Hid (SeaAt p n i j I J wr)) (fun iv jv _ => (intOf jv).toNat - (intOf iv).toNat)
  case atStart => exact ⟨0, n, Nat.zero_le _, Nat.le_refl _, rfl, rfl, .inl ⟨Nat.zero_le _, HP.out, 0, H0.out, by simp⟩⟩
  case round =>
    obtain ⟨i, j, hij, hjn, rfl, rfl, hS⟩ := hrel
    by_cases hlt : i < j
    · have hlt' : (i : Int) < (j : Int) := by omega
      obtain ⟨m, hm⟩ : ∃ m : Nat, m = (i + j) / 2 := ⟨_, rfl⟩
      have hm1 : i ≤ m ∧ m < j := by omega
      have em : ((i : Int) + (j : Int)) / 2 = (m : Int) := by omega
      have e1 : IntKind.i64.wrap ((i : Int) + (j : Int)) = (i : Int) + (j : Int) := by rw [IntKind.wrap_i64]; omega
      have e3 : IntKind.i64.wrap ((m : Int) + 1) = (m : Int) + 1 := by rw [IntKind.wrap_i64]; omega
      have e4 : IntKind.i64.wrap (m : Int) = (m : Int) := by rw [IntKind.wrap_i64]; omega
      have hbits := bitsN_pos (m := j - i) (by omega)
      have hbn := bitsN_le (m := n) (by omega)
      have hask : Calls Tryz.prog g (#[.int .i64 m] ++ cb) wr fun e w' => ∃ b, e = .returned (.bool b) ∧ SeaAt p n (if b then i else m + 1) (if b then m else j) I J w' := by
        rcases hS.out with ⟨h1, h2, k, h3, h4⟩ | h1
        · refine (HA.out.1 k m wr (by omega) (by omega) h3).mono ?_
          rintro e w' (⟨rfl, h5⟩ | ⟨b, rfl, h5⟩)
          · refine ⟨_, rfl, ?_⟩
            cases hq : q m with
            | false =>
              have hmp : m < p := by
                rcases Nat.lt_or_ge m p with h | h
                · exact h
                · have := HHI.out m h (by omega)
                  rw [hq] at this
                  cases this
              have h6 : bitsN (j - (m + 1)) ≤ bitsN ((j - i) / 2) := bitsN_mono (by omega)
              exact .inl ⟨hmp, h2, k + 1, h5, by simp; omega⟩
            | true =>
              have hmp : p ≤ m := by
                rcases Nat.lt_or_ge m p with h | h
                · have := HLO.out m h
                  rw [hq] at this
                  cases this
                · exact h
              have h6 : bitsN (m - i) ≤ bitsN ((j - i) / 2) := bitsN_mono (by omega)
              exact .inl ⟨h1, hmp, k + 1, h5, by simp; omega⟩
          · exact ⟨b, rfl, .inr h5⟩
        · refine (HA.out.2 m wr (by omega) h1).mono ?_
          rintro e w' ⟨b, rfl, h5⟩
          exact ⟨b, rfl, .inr h5⟩
      have HAS := hide hask
      have HM := hide hm1
      clear hask hbits hbn hm hS
      go_wp2_with fail
      refine HAS.out.mono ?_
      rintro _ w2 ⟨b, rfl, hS2⟩
      have HS2 := hide hS2
      clear hS2 HAS
      cases b with
      | false =>
        dsimp only
        go_wp2
        go_roundw
        case rel => exact ⟨m + 1, j, by have := HM.out; omega, hjn, by first | rfl | congr 1, rfl, HS2.out⟩
        case measure => have := HM.out; simp [intOf]; omega
      | true =>
        dsimp only
        go_wp2
        go_roundw
        case rel => exact ⟨i, m, HM.out.1, by have := HM.out; omega, rfl, by first | rfl | congr 1, HS2.out⟩
        case measure => have := HM.out; simp [intOf]; omega
    · obtain rfl : i = j := by omega
      have hlt' : ¬ (i : Int) < (i : Int) := by omega
      go_wp2
      go_ret
      rcases hS.out with ⟨h1, h2, k, h3, h4⟩ | h1
      · obtain rfl : p = i := by omega
        exact .inl ⟨k, rfl, h3, by omega⟩
      · exact .inr ⟨i, rfl, h1⟩
/-- A question of elements that may fail. -/
def AskV2 (g : FuncId) (cb : Array Value) (xs : List ET) (q : Nat → Bool) (I : Nat → World → Prop) (J : World → Prop) : Prop :=
  (∀ (k i : Nat) (w : World), k < 100 → i < xs.length → I k w → Calls Tryz.prog g (#[encE (xs.getD i zeroET)] ++ cb) w fun e w' => ∃ b, e = .returned (.bool b) ∧ ((b = q i ∧ I (k + 1) w') ∨ J w')) ∧
  (∀ (i : Nat) (w : World), i < xs.length → J w → Calls Tryz.prog g (#[encE (xs.getD i zeroET)] ++ cb) w fun e w' => ∃ b, e = .returned (.bool b) ∧ J w')
set_option maxHeartbeats 4000000 in
theorem ask1_gen (T h n tb fb i : Nat) (g : FuncId) (cb : Array Value) (xs : List ET) (P : Bool → World → Prop) (w : World) (hx : xs.length ≤ 100000) (hi : i < xs.length) (hg : ∀ args w, (callFunc g args).run Tryz.prog w = .ok (.enter g args) w) (t : TrE w T xs h n) (c0 : w.cell? ⟨tb, 0, none⟩ = some (.pointer (some ⟨T, 0, none⟩))) (c1 : w.cell? ⟨fb, 0, none⟩ = some (.func (.func g) #[] cb))
    (hA : ∀ w2, Up w w2 → Calls Tryz.prog g (#[encE (xs.getD i zeroET)] ++ cb) w2 fun e w' => ∃ b, e = .returned (.bool b) ∧ P b w') :
    Calls Tryz.prog 85 (#[.int .i64 i] ++ #[.pointer (some ⟨tb, 0, none⟩), .pointer (some ⟨fb, 0, none⟩)]) w fun e w' => ∃ b, e = .returned (.bool b) ∧ P b w' := by
  have HAT := hide (tatE_ok T h n i zeroET xs w t hi hx)
  have HA := hide hA
  clear t hA
  show Calls Tryz.prog _ #[.int .i64 i, .pointer (some ⟨tb, 0, none⟩), .pointer (some ⟨fb, 0, none⟩)] w _
  go_enter Tryz.func85, Tryz.ntmps85
  go_wp2_with fail
  refine HAT.out.mono ?_
  rintro _ w1 ⟨rfl, hu1⟩
  obtain ⟨x, hxx⟩ : ∃ x, x = xs.getD i zeroET := ⟨_, rfl⟩
  rw [← hxx]
  unfold encE
  replace hxx := hide hxx
  obtain ⟨W2, hW2⟩ : ∃ W2, W2 = w1.alloc (.cells #[.slice x.a x.n x.c, .int .i64 x.id] 51) := ⟨_, rfl⟩
  have hu2 : Up w1 W2 := by rw [hW2]; exact (Up.refl w1).alloc _
  have hA1 := HA.out W2 (hu1.trans hu2)
  rw [← hxx.out] at hA1
  unfold encE at hA1
  have HA1 := hide hA1
  replace c1 := (hu1.trans hu2).cell c1
  have k0 : W2.cell? ⟨w1.heap.size, 0, none⟩ = some (.slice x.a x.n x.c) := by rw [hW2]; go_simp
  have k1 : W2.cell? ⟨w1.heap.size, 1, none⟩ = some (.int .i64 x.id) := by rw [hW2]; go_simp
  replace hW2 := hW2.symm
  clear hu1 hu2 c0 HAT hA1 HA
  dsimp only
  go_wp2_with fail
  clear hW2
  refine HA1.out.mono ?_
  rintro _ w2 ⟨b, rfl, hP⟩
  have HP := hide hP
  clear hP
  dsimp only
  go_wp2
  go_ret
  exact ⟨b, rfl, HP.out⟩
set_option maxHeartbeats 4000000 in
theorem tsearch2_calls (T h n p : Nat) (g : FuncId) (cb : Array Value) (xs : List ET) (q : Nat → Bool) (I : Nat → World → Prop) (J : World → Prop) (w W : World) (hW : W = (w.alloc (.cells #[.pointer (some ⟨T, 0, none⟩)] 84)).alloc (.cells #[.func (.func g) #[] cb] 111)) (hx : xs.length ≤ 100000) (hg : ∀ args w, (callFunc g args).run Tryz.prog w = .ok (.enter g args) w) (hA : AskV2 g cb xs q I J) (hIu : ∀ k w w', I k w → Up w w' → I k w') (hJu : ∀ w w', J w → Up w w' → J w')
    (hI : ∀ w', ((∃ k, I k w') ∨ J w') → TrE w' T xs h n ∧ w'.cell? ⟨w.heap.size, 0, none⟩ = some (.pointer (some ⟨T, 0, none⟩)) ∧ w'.cell? ⟨w.heap.size + 1, 0, none⟩ = some (.func (.func g) #[] cb))
    (hI0 : I 0 W) (hp : p ≤ xs.length) (hlo : ∀ i, i < p → q i = false) (hhi : ∀ i, p ≤ i → i < xs.length → q i = true) :
    Calls Tryz.prog 64 #[.pointer (some ⟨T, 0, none⟩), .func (.func g) #[] cb] w fun e w' => SeaPost2 p xs.length I J e w' := by
  obtain ⟨t, c0, c1⟩ := hI W (.inl ⟨0, hI0⟩)
  have HL := hide (tlenE_calls T h n xs W t)
  have hask : AskAt2 85 #[.pointer (some ⟨w.heap.size, 0, none⟩), .pointer (some ⟨w.heap.size + 1, 0, none⟩)] xs.length q I J := by
    refine ⟨fun k i w1 hk hi h1 => ?_, fun i w1 hi h1 => ?_⟩
    · obtain ⟨t1, d0, d1⟩ := hI w1 (.inl ⟨k, h1⟩)
      refine (ask1_gen T h n _ _ i g cb xs (fun b w' => (b = q i ∧ I (k + 1) w') ∨ J w') w1 hx hi hg t1 d0 d1 (fun w2 hu => hA.1 k i w2 hk hi (hIu k w1 w2 h1 hu))).mono ?_
      rintro e w' ⟨b, rfl, (⟨rfl, h2⟩ | h2)⟩
      · exact .inl ⟨rfl, h2⟩
      · exact .inr ⟨b, rfl, h2⟩
    · obtain ⟨t1, d0, d1⟩ := hI w1 (.inr h1)
      exact ask1_gen T h n _ _ i g cb xs (fun b w' => J w') w1 hx hi hg t1 d0 d1 (fun w2 hu => hA.2 i w2 hi (hJu w1 w2 h1 hu))
  have HS := hide (sortSearch2_calls 85 #[.pointer (some ⟨w.heap.size, 0, none⟩), .pointer (some ⟨w.heap.size + 1, 0, none⟩)] xs.length p q I J W (by omega) hask hp hlo hhi hI0 (enters_of Tryz.func85 (by kernel_rfl) rfl))
  have hW' := hW.symm
  clear t hA hI hIu hJu hI0 hW hlo hhi hask
  go_enter Tryz.func64, Tryz.ntmps64
  go_wp2_with fail
  clear hW'
  refine HL.out.mono ?_
  rintro _ w1 ⟨rfl, hw1⟩
  obtain rfl : W = w1 := hw1.symm
  dsimp only
  go_wp2_with fail
  refine HS.out.mono ?_
  rintro _ w2 (⟨k2, rfl, hI2, hk2⟩ | ⟨p2, rfl, hJ2⟩)
  · replace hI2 := hide hI2
    dsimp only
    go_wp2
    go_ret
    exact .inl ⟨k2, rfl, hI2.out, hk2⟩
  · replace hJ2 := hide hJ2
    dsimp only
    go_wp2
    go_ret
    exact .inr ⟨p2, rfl, hJ2.out⟩
end Go.Proofs.YtnokokhbcfkifaaGreatDoor
