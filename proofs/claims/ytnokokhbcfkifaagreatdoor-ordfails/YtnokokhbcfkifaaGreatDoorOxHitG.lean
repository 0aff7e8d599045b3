/-
  ordidx's order where the comparator strikes, as its text runs.
  A comparator of rialtoplay that strikes, hook.Compare of it, and ordidx's order by it, as their texts run.
  sort.Search and Search of a counted tree of entries by a question that may fail: as long as it doesn't, all is as it should be; then whatever it answers.
  ordidx's search and Find where the comparator may strike, as their texts run.
  ordidx's spotOf and Insert where the comparator may strike, as their texts run.
  ordidx's Insert where the comparator may strike, as its text runs.
-/
import Derived.Test.YtnokokhbcfkifaaGreatDoorOxOrd
import Derived.Test.YtnokokhbcfkifaaGreatDoorErrHelpG
import Derived.Test.YtnokokhbcfkifaaGreatDoorHookCmpE
import Derived.Test.YtnokokhbcfkifaaGreatDoorTrAskEG
import Derived.Test.YtnokokhbcfkifaaGreatDoorOxIxG
import Derived.Test.YtnokokhbcfkifaaGreatDoorOxCopG
namespace Go.Proofs.YtnokokhbcfkifaaGreatDoor
open Go.ChangeShapes Go.WideShapes Go.ChangeAt Go.RowKit
set_option linter.unusedVariables false
set_option maxRecDepth 100000
attribute [local go_sem ↓] Go.wp_at_zero Go.wp_at_succ

/-- What is asked of key.Compare that tells a fault. -/
def KHit (w : World) (fv av bv : Value) (Q : Nat → Nat → World → Prop) : Prop :=
  ∀ (g : Nat) (w1 : World), Up w w1 → w1.cell? ⟨g, 0, none⟩ = some fv → Calls Tryz.prog 86 #[.agg #[.string ⟨#[]⟩, .int .i64 0, .slice none 0 0, .int .i64 0], .agg #[.slice none 0 0, .slice (some ⟨g, 0, none⟩) 1 1], av, bv] w1 fun e w' => ∃ b k, e = .returned (.tuple #[.int .i64 0, .iface 106 (.pointer (some ⟨b, 0, none⟩))]) ∧ FaultAt w' b 0 ⟨#[]⟩ (.iface 147 (.pointer (some ⟨k, 0, none⟩))) .nilIface ∧ TabE w' ∧ Q b k w'
set_option maxHeartbeats 4000000 in
theorem order_hits (X : Nat) (f : Fn) (y z : Array Value) (av bv : Value) (Q : Nat → Nat → World → Prop) (w : World) (x1 : w.cell? ⟨X, 1, none⟩ = some (.func f y z)) (hK : KHit w (.func f y z) av bv Q) (hQ : ∀ b k w1 w2, Q b k w1 → Up w1 w2 → Q b k w2) :
    Calls Tryz.prog 66 #[.pointer (some ⟨X, 0, none⟩), av, bv] w fun e w' => ∃ b k, e = .returned (.tuple #[.int .i64 0, .iface 147 (.pointer (some ⟨k, 0, none⟩))]) ∧ Q b k w' := by
  have HK := hide hK
  have HQ := hide hQ
  clear hK hQ
  go_enter Tryz.func66, Tryz.ntmps66
  go_wp2_with fail
  refine (HK.out w.heap.size _ (((Up.refl _).alloc _).alloc _) (by go_simp)).mono ?_
  rintro _ w1 ⟨b, k, rfl, hf, ht, hq⟩
  have H1 := hide hq
  have HF := hide hf
  have HT := hide ht
  clear hq hf ht HK
  dsimp only
  go_wp2_with fail
  go_at_call 43
  refine (As_hitF ⟨b, 0, none⟩ ⟨w1.heap.size, 0, none⟩ (.pointer none) _ (HT.out.up ((Up.refl _).alloc _)) (by go_simp) (by go_simp)).mono ?_
  rintro _ w3 ⟨rfl, w2, hu2, hw3⟩
  have k0 : w3.cell? ⟨w1.heap.size, 0, none⟩ = some (.pointer (some ⟨b, 0, none⟩)) := by
    rw [hw3]
    exact World.cell?_setCell_same _ _ _ (hu2.cell (v := .pointer none) (by go_simp))
  have u3 : Up w1 w3 := by rw [hw3]; exact (((Up.refl w1).alloc _).trans hu2).setCell (Nat.le_refl _) _
  obtain ⟨c0, c1, c2⟩ := HF.out.up u3
  have H2 := hide (HQ.out _ _ _ _ H1.out u3)
  clear hw3 hu2 H1 HF HT u3
  dsimp only
  go_wp2_with fail
  go_quiet (fail)
  have H3 := hide (HQ.out _ _ _ _ H2.out ((Up.refl w3).drewN nq))
  go_wp2
  go_ret2
  exact ⟨b, k, rfl, H3.out⟩
end Go.Proofs.YtnokokhbcfkifaaGreatDoor

namespace Go.Proofs.YtnokokhbcfkifaaGreatDoor
open Go.ChangeShapes Go.WideShapes Go.ChangeAt Go.RowKit
set_option linter.unusedVariables false
set_option maxRecDepth 100000
attribute [local go_sem ↓] Go.wp_at_zero Go.wp_at_succ

set_option maxHeartbeats 4000000 in
theorem cprO_hit (mx nx mb : Nat) (c h : Int) (a b : Value) (x : World) (k0 : x.cell? ⟨mx, 0, none⟩ = some (.pointer (some ⟨mb, 0, none⟩))) (hc0 : 0 ≤ c) (hc1 : c ≤ 1000) (hm : Met x mb c (c + 1) h 0) :
    Calls Tryz.prog 53 (#[a, b] ++ #[.pointer (some ⟨mx, 0, none⟩), .pointer (some ⟨nx, 0, none⟩)]) x fun e x' => ∃ k, e = .returned (.tuple #[.int .i64 0, .iface 147 (.pointer (some ⟨k, 0, none⟩))]) ∧ Chg (fun g => g = mb) x x' ∧ Met x' mb (c + 1) (c + 1) h 1 := by
  show Calls Tryz.prog 53 #[a, b, .pointer (some ⟨mx, 0, none⟩), .pointer (some ⟨nx, 0, none⟩)] x _
  have HM := hide (tick_hit mb c h x hc0 hc1 hm)
  clear hm
  go_enter Tryz.func53, Tryz.ntmps53
  go_wp2_with fail
  go_at_call 51
  refine HM.out.mono ?_
  rintro _ x1 ⟨k, rfl, hm1, hc1, -⟩
  have HH : Hid (Chg (fun g => g = mb) x x1 ∧ Met x1 mb (c + 1) (c + 1) h 1) := ⟨hc1, hm1⟩
  clear hm1 hc1
  go_wp2
  go_ret2
  exact ⟨k, rfl, HH.out⟩
/-- hook.Compare, where the comparator strikes. -/
theorem cmpO_hit (s0 : ByteArray) (mb q mx nx : Nat) (c h : Int) (av bv : Option Addr) (n cc p d : Nat) (m l : List VT) (w : World) (hs : s0.size ≤ 60) (cw : CpW (some ⟨mb, 0, none⟩) q mx nx c (c + 1) h 0 w) (hc0 : 0 ≤ c) (hc1 : c ≤ 1000) (ka : KeyK w av n m) (kb : KeyK w bv p l) :
    Calls Tryz.prog 103 #[.string s0, cpF mx nx, .slice av n cc, .slice bv p d] w fun e w' => ∃ b k, e = .returned (.tuple #[.int .i64 0, .iface 106 (.pointer (some ⟨b, 0, none⟩))]) ∧ FaultAt w' b 0 s0 (.iface 147 (.pointer (some ⟨k, 0, none⟩))) .nilIface ∧ Chg (InM (some ⟨mb, 0, none⟩)) w w' ∧ MetO w' (some ⟨mb, 0, none⟩) (c + 1) (c + 1) h 1 := by
  obtain ⟨hT, hTm, hmO, hx, hy, hn0, hn1⟩ := cw
  obtain ⟨-, hm⟩ := hmO _ rfl
  have hmb : mb < w.heap.size := World.block_lt_of_cell? w _ hm.1.1
  have hs' : s0.size ≤ 281474976710656 := by omega
  have hTm' : ¬ 0 = mb := fun e => hTm ⟨_, rfl, e⟩
  have htab : ∀ x x' : World, Up w x → Chg (fun g => g = mb ∨ w.heap.size ≤ g) x x' → TabE x' := fun x x' h1 h2 => h2.cell (hT.up h1) (fun e => e.elim (fun e => hTm' e) (fun e => by have e' : w.heap.size ≤ 0 := e; have := World.block_lt_of_cell? w _ hT; simp at this; omega))
  refine (cmp_errV s0 53 #[.pointer (some ⟨mx, 0, none⟩), .pointer (some ⟨nx, 0, none⟩)] av bv n cc p d m l 0 147 (fun b => b = mb) (fun x x' ev => Chg (fun g => g = mb ∨ w.heap.size ≤ g) x x' ∧ (Met x' mb (c + 1) (c + 1) h 1 ∧ ∃ k, ev = .pointer (some ⟨k, 0, none⟩))) w hs' hT (fun b e => by omega) ka.few ka.vals ka.sh kb.few kb.vals kb.sh (fun v v' w' => cpr_enter v v' _ w') (fun x a' b' hx' h1 h2 => (cprO_hit mx nx mb c h _ _ x (hx'.cell hx) hc0 hc1 (hm.up hx')).mono ?_)).mono ?_
  · rintro _ x' ⟨k, rfl, g1, g2⟩
    have h5 : Chg (fun g => g = mb ∨ w.heap.size ≤ g) x x' := g1.mono (fun g _ h => Or.inl h)
    exact ⟨_, rfl, g1.mono (fun g _ h => Or.inl h), htab x x' hx' h5, h5, g2, k, rfl⟩
  · rintro _ w' ⟨ev, b, rfl, hl⟩
    obtain ⟨hc, x, x', h1, ⟨h2, k, rfl⟩, h3⟩ := left_o hl.leftS
    exact ⟨b, k, rfl, hl.at', hc.mono (fun y _ e => ⟨_, rfl, e⟩), fun p hp => by
      cases hp
      exact ⟨rfl, h2.chg h3 (fun hm' => by have := hm'.1; omega)⟩⟩
/-- order, where the comparator strikes: its own error is told. -/
theorem order_hit (X mb q mx nx : Nat) (c h : Int) (av bv : Option Addr) (n cc p d : Nat) (m l : List VT) (w : World) (x1 : w.cell? ⟨X, 1, none⟩ = some (cpF mx nx)) (cw : CpW (some ⟨mb, 0, none⟩) q mx nx c (c + 1) h 0 w) (hc0 : 0 ≤ c) (hc1 : c ≤ 1000) (ka : KeyK w av n m) (kb : KeyK w bv p l) :
    Calls Tryz.prog 66 #[.pointer (some ⟨X, 0, none⟩), .slice av n cc, .slice bv p d] w fun e w' => ∃ k, e = .returned (.tuple #[.int .i64 0, .iface 147 (.pointer (some ⟨k, 0, none⟩))]) ∧ Chg (InM (some ⟨mb, 0, none⟩)) w w' ∧ MetO w' (some ⟨mb, 0, none⟩) (c + 1) (c + 1) h 1 := by
  refine (order_hits X _ _ _ _ _ (fun b k w' => Chg (InM (some ⟨mb, 0, none⟩)) w w' ∧ MetO w' (some ⟨mb, 0, none⟩) (c + 1) (c + 1) h 1) w x1 (fun g w1 hu hg => ?_) (fun b k w1 w2 h hu => ⟨h.1.andUp hu, h.2.up hu⟩)).mono (fun _ _ ⟨b, k, h1, h2⟩ => ⟨k, h1, h2⟩)
  refine (kcmp_hook ⟨#[]⟩ 0 0 none none (some ⟨g, 0, none⟩) 0 0 0 0 1 1 _ _ [cpF mx nx] (cpF mx nx) (fun w1 r ev w' => ∃ b k, r = 0 ∧ ev = .iface 106 (.pointer (some ⟨b, 0, none⟩)) ∧ FaultAt w' b 0 ⟨#[]⟩ (.iface 147 (.pointer (some ⟨k, 0, none⟩))) .nilIface ∧ Chg (InM (some ⟨mb, 0, none⟩)) w1 w' ∧ MetO w' (some ⟨mb, 0, none⟩) (c + 1) (c + 1) h 1) w1 (by decide) (by decide) ?_ rfl (fun w2 hu2 => (cmpO_hit ⟨#[]⟩ mb q mx nx c h av bv n cc p d m l w2 (by decide) (cw.up (hu.trans hu2)) hc0 hc1 (ka.up (hu.trans hu2)) (kb.up (hu.trans hu2))).mono ?_)).mono ?_
  · refine ⟨rfl, fun i => ?_, .inr ⟨g, 0, rfl, fun i hi j v hv => ?_⟩⟩
    · cases i with
      | zero => exact .inr ⟨_, _, _, rfl⟩
      | succ i => exact .inl rfl
    · obtain rfl : i = 0 := by omega
      cases j with
      | zero => cases hv; rw [show 0 + 0 * 1 + 0 = 0 from rfl]; exact hg
      | succ j => simp at hv
  · rintro _ w' ⟨b, k, rfl, g0, g1, g2⟩
    exact ⟨_, _, rfl, b, k, rfl, rfl, g0, g1, g2⟩
  · rintro _ w' ⟨w2, r, ev, hu2, rfl, b, k, rfl, rfl, g0, g1, g2⟩
    have hcw : Chg (InM (some ⟨mb, 0, none⟩)) w w' := (Chg.of_up (hu.trans hu2)).trans g1 (fun _ _ h => h)
    exact ⟨b, k, rfl, g0, hcw.cell cw.tab cw.tabn, hcw, g2⟩
end Go.Proofs.YtnokokhbcfkifaaGreatDoor

namespace Go.Proofs.YtnokokhbcfkifaaGreatDoor
open Go.ChangeShapes Go.WideShapes Go.ChangeAt Go.RowKit
set_option linter.unusedVariables false
set_option maxRecDepth 100000
attribute [local go_sem ↓] Go.wp_at_zero Go.wp_at_succ

/-- A question of places that may fail: I holds behind so many askings, J once it has failed. -/
def AskAt2 (g : FuncId) (cb : Array Value) (n : Nat) (q : Nat → Bool) (I : Nat → World → Prop) (J : World → Prop) : Prop :=
  (∀ (k i : Nat) (w : World), k < 100 → i < n → I k w → Calls Tryz.prog g (#[.int .i64 i] ++ cb) w fun e w' => (e = .returned (.bool (q i)) ∧ I (k + 1) w') ∨ ∃ b, e = .returned (.bool b) ∧ J w') ∧
  (∀ (i : Nat) (w : World), i < n → J w → Calls Tryz.prog g (#[.int .i64 i] ++ cb) w fun e w' => ∃ b, e = .returned (.bool b) ∧ J w')
/-- What Search tells. -/
def SeaPost2 (p n : Nat) (I : Nat → World → Prop) (J : World → Prop) (e : Ending) (w' : World) : Prop := (∃ k, e = .returned (.int .i64 p) ∧ I k w' ∧ k ≤ bitsN n) ∨ ∃ p' : Nat, e = .returned (.int .i64 p') ∧ J w'
/-- Where the search stands. -/
def SeaAt (p n i j : Nat) (I : Nat → World → Prop) (J : World → Prop) (w : World) : Prop := (i ≤ p ∧ p ≤ j ∧ ∃ k, I k w ∧ k + bitsN (j - i) ≤ bitsN n) ∨ J w
set_option maxHeartbeats 4000000 in
theorem sortSearch2_calls (g : FuncId) (cb : Array Value) (n p : Nat) (q : Nat → Bool) (I : Nat → World → Prop) (J : World → Prop) (w : World) (hn : n ≤ 1000000) (hA : AskAt2 g cb n q I J) (hp : p ≤ n) (hlo : ∀ i, i < p → q i = false) (hhi : ∀ i, p ≤ i → i < n → q i = true) (h0 : I 0 w) (hg : ∀ args w, (callFunc g args).run Tryz.prog w = .ok (.enter g args) w) :
    Calls Tryz.prog 56 #[.int .i64 n, .func (.func g) #[] cb] w fun e w' => SeaPost2 p n I J e w' := by
  have HLO := hide hlo
  have HHI := hide hhi
  have H0 := hide h0
  have HA := hide hA
  have HP := hide hp
  clear hlo hhi h0 hA hp
  go_enter Tryz.func56, Tryz.ntmps56
  go_wp2_with fail
  go_loopw [5, 6] (fun iv jv wr => ∃ i j : Nat, i ≤ j ∧ j ≤ n ∧ iv = .int .i64 i ∧ jv = .int .i64 j ∧ Hid (SeaAt p n i j I J wr)) (fun iv jv _ => (intOf jv).toNat - (intOf iv).toNat)
  case atStart => exact ⟨0, n, Nat.zero_le _, Nat.le_refl _, rfl, rfl, .inl ⟨Nat.zero_le _, HP.out, 0, H0.out, by simp⟩⟩
  case round =>
    obtain ⟨i, j, hij, hjn, rfl, rfl, hS⟩ := hrel
    by_cases hlt : i < j
    · have hlt' : (i : Int) < (j : Int) := by omega
      obtain ⟨m, hm⟩ : ∃ m : Nat, m = (i + j) / 2 := ⟨_, rfl⟩
      have hm1 : i ≤ m ∧ m < j := by omega
      have em : ((i : Int) + (j : Int)) / 2 = (m : Int) := by omega
      have e1 : IntKind.i64.wrap ((i : Int) + (j : Int)) = (i : Int) + (j : Int) := by rw [IntKind.wrap_i64]; omega
      have e3 : IntKind.i64.wrap ((m : Int) + 1) = (m : Int) + 1 := by rw [IntKind.wrap_i64]; omega
      have e4 : IntKind.i64.wrap (m : Int) = (m : Int) := by rw [IntKind.wrap_i64]; omega
      have hbits := bitsN_pos (m := j - i) (by omega)
      have hbn := bitsN_le (m := n) (by omega)
      have hask : Calls Tryz.prog g (#[.int .i64 m] ++ cb) wr fun e w' => ∃ b, e = .returned (.bool b) ∧ SeaAt p n (if b then i else m + 1) (if b then m else j) I J w' := by
        rcases hS.out with ⟨h1, h2, k, h3, h4⟩ | h1
        · refine (HA.out.1 k m wr (by omega) (by omega) h3).mono ?_
          rintro e w' (⟨rfl, h5⟩ | ⟨b, rfl, h5⟩)
          · refine ⟨_, rfl, ?_⟩
            cases hq : q m with
            | false =>
              have hmp : m < p := by
                rcases Nat.lt_or_ge m p with h | h
                · exact h
                · have := HHI.out m h (by omega)
                  rw [hq] at this
                  cases this
              have h6 : bitsN (j - (m + 1)) ≤ bitsN ((j - i) / 2) := bitsN_mono (by omega)
              exact .inl ⟨hmp, h2, k + 1, h5, by simp; omega⟩
            | true =>
              have hmp : p ≤ m := by
                rcases Nat.lt_or_ge m p with h | h
                · have := HLO.out m h
                  rw [hq] at this
                  cases this
                · exact h
              have h6 : bitsN (m - i) ≤ bitsN ((j - i) / 2) := bitsN_mono (by omega)
              exact .inl ⟨h1, hmp, k + 1, h5, by simp; omega⟩
          · exact ⟨b, rfl, .inr h5⟩
        · refine (HA.out.2 m wr (by omega) h1).mono ?_
          rintro e w' ⟨b, rfl, h5⟩
          exact ⟨b, rfl, .inr h5⟩
      have HAS := hide hask
      have HM := hide hm1
      clear hask hbits hbn hm hS
      go_wp2_with fail
      refine HAS.out.mono ?_
      rintro _ w2 ⟨b, rfl, hS2⟩
      have HS2 := hide hS2
      clear hS2 HAS
      cases b with
      | false =>
        dsimp only
        go_wp2
        go_roundw
        case rel => exact ⟨m + 1, j, by have := HM.out; omega, hjn, by first | rfl | congr 1, rfl, HS2.out⟩
        case measure => have := HM.out; simp [intOf]; omega
      | true =>
        dsimp only
        go_wp2
        go_roundw
        case rel => exact ⟨i, m, HM.out.1, by have := HM.out; omega, rfl, by first | rfl | congr 1, HS2.out⟩
        case measure => have := HM.out; simp [intOf]; omega
    · obtain rfl : i = j := by omega
      have hlt' : ¬ (i : Int) < (i : Int) := by omega
      go_wp2
      go_ret
      rcases hS.out with ⟨h1, h2, k, h3, h4⟩ | h1
      · obtain rfl : p = i := by omega
        exact .inl ⟨k, rfl, h3, by omega⟩
      · exact .inr ⟨i, rfl, h1⟩
/-- A question of elements that may fail. -/
def AskV2 (g : FuncId) (cb : Array Value) (xs : List ET) (q : Nat → Bool) (I : Nat → World → Prop) (J : World → Prop) : Prop :=
  (∀ (k i : Nat) (w : World), k < 100 → i < xs.length → I k w → Calls Tryz.prog g (#[encE (xs.getD i zeroET)] ++ cb) w fun e w' => ∃ b, e = .returned (.bool b) ∧ ((b = q i ∧ I (k + 1) w') ∨ J w')) ∧
  (∀ (i : Nat) (w : World), i < xs.length → J w → Calls Tryz.prog g (#[encE (xs.getD i zeroET)] ++ cb) w fun e w' => ∃ b, e = .returned (.bool b) ∧ J w')
set_option maxHeartbeats 4000000 in
theorem ask1_gen (T h n tb fb i : Nat) (g : FuncId) (cb : Array Value) (xs : List ET) (P : Bool → World → Prop) (w : World) (hx : xs.length ≤ 100000) (hi : i < xs.length) (hg : ∀ args w, (callFunc g args).run Tryz.prog w = .ok (.enter g args) w) (t : TrE w T xs h n) (c0 : w.cell? ⟨tb, 0, none⟩ = some (.pointer (some ⟨T, 0, none⟩))) (c1 : w.cell? ⟨fb, 0, none⟩ = some (.func (.func g) #[] cb))
    (hA : ∀ w2, Up w w2 → Calls Tryz.prog g (#[encE (xs.getD i zeroET)] ++ cb) w2 fun e w' => ∃ b, e = .returned (.bool b) ∧ P b w') :
    Calls Tryz.prog 85 (#[.int .i64 i] ++ #[.pointer (some ⟨tb, 0, none⟩), .pointer (some ⟨fb, 0, none⟩)]) w fun e w' => ∃ b, e = .returned (.bool b) ∧ P b w' := by
  have HAT := hide (tatE_ok T h n i zeroET xs w t hi hx)
  have HA := hide hA
  clear t hA
  show Calls Tryz.prog _ #[.int .i64 i, .pointer (some ⟨tb, 0, none⟩), .pointer (some ⟨fb, 0, none⟩)] w _
  go_enter Tryz.func85, Tryz.ntmps85
  go_wp2_with fail
  refine HAT.out.mono ?_
  rintro _ w1 ⟨rfl, hu1⟩
  obtain ⟨x, hxx⟩ : ∃ x, x = xs.getD i zeroET := ⟨_, rfl⟩
  rw [← hxx]
  unfold encE
  replace hxx := hide hxx
  obtain ⟨W2, hW2⟩ : ∃ W2, W2 = w1.alloc (.cells #[.slice x.a x.n x.c, .int .i64 x.id] 51) := ⟨_, rfl⟩
  have hu2 : Up w1 W2 := by rw [hW2]; exact (Up.refl w1).alloc _
  have hA1 := HA.out W2 (hu1.trans hu2)
  rw [← hxx.out] at hA1
  unfold encE at hA1
  have HA1 := hide hA1
  replace c1 := (hu1.trans hu2).cell c1
  have k0 : W2.cell? ⟨w1.heap.size, 0, none⟩ = some (.slice x.a x.n x.c) := by rw [hW2]; go_simp
  have k1 : W2.cell? ⟨w1.heap.size, 1, none⟩ = some (.int .i64 x.id) := by rw [hW2]; go_simp
  replace hW2 := hW2.symm
  clear hu1 hu2 c0 HAT hA1 HA
  dsimp only
  go_wp2_with fail
  clear hW2
  refine HA1.out.mono ?_
  rintro _ w2 ⟨b, rfl, hP⟩
  have HP := hide hP
  clear hP
  dsimp only
  go_wp2
  go_ret
  exact ⟨b, rfl, HP.out⟩
set_option maxHeartbeats 4000000 in
theorem tsearch2_calls (T h n p : Nat) (g : FuncId) (cb : Array Value) (xs : List ET) (q : Nat → Bool) (I : Nat → World → Prop) (J : World → Prop) (w W : World) (hW : W = (w.alloc (.cells #[.pointer (some ⟨T, 0, none⟩)] 84)).alloc (.cells #[.func (.func g) #[] cb] 111)) (hx : xs.length ≤ 100000) (hg : ∀ args w, (callFunc g args).run Tryz.prog w = .ok (.enter g args) w) (hA : AskV2 g cb xs q I J) (hIu : ∀ k w w', I k w → Up w w' → I k w') (hJu : ∀ w w', J w → Up w w' → J w')
    (hI : ∀ w', ((∃ k, I k w') ∨ J w') → TrE w' T xs h n ∧ w'.cell? ⟨w.heap.size, 0, none⟩ = some (.pointer (some ⟨T, 0, none⟩)) ∧ w'.cell? ⟨w.heap.size + 1, 0, none⟩ = some (.func (.func g) #[] cb))
    (hI0 : I 0 W) (hp : p ≤ xs.length) (hlo : ∀ i, i < p → q i = false) (hhi : ∀ i, p ≤ i → i < xs.length → q i = true) :
    Calls Tryz.prog 64 #[.pointer (some ⟨T, 0, none⟩), .func (.func g) #[] cb] w fun e w' => SeaPost2 p xs.length I J e w' := by
  obtain ⟨t, c0, c1⟩ := hI W (.inl ⟨0, hI0⟩)
  have HL := hide (tlenE_calls T h n xs W t)
  have hask : AskAt2 85 #[.pointer (some ⟨w.heap.size, 0, none⟩), .pointer (some ⟨w.heap.size + 1, 0, none⟩)] xs.length q I J := by
    refine ⟨fun k i w1 hk hi h1 => ?_, fun i w1 hi h1 => ?_⟩
    · obtain ⟨t1, d0, d1⟩ := hI w1 (.inl ⟨k, h1⟩)
      refine (ask1_gen T h n _ _ i g cb xs (fun b w' => (b = q i ∧ I (k + 1) w') ∨ J w') w1 hx hi hg t1 d0 d1 (fun w2 hu => hA.1 k i w2 hk hi (hIu k w1 w2 h1 hu))).mono ?_
      rintro e w' ⟨b, rfl, (⟨rfl, h2⟩ | h2)⟩
      · exact .inl ⟨rfl, h2⟩
      · exact .inr ⟨b, rfl, h2⟩
    · obtain ⟨t1, d0, d1⟩ := hI w1 (.inr h1)
      exact ask1_gen T h n _ _ i g cb xs (fun b w' => J w') w1 hx hi hg t1 d0 d1 (fun w2 hu => hA.2 i w2 hi (hJu w1 w2 h1 hu))
  have HS := hide (sortSearch2_calls 85 #[.pointer (some ⟨w.heap.size, 0, none⟩), .pointer (some ⟨w.heap.size + 1, 0, none⟩)] xs.length p q I J W (by omega) hask hp hlo hhi hI0 (enters_of Tryz.func85 (by kernel_rfl) rfl))
  have hW' := hW.symm
  clear t hA hI hIu hJu hI0 hW hlo hhi hask
  go_enter Tryz.func64, Tryz.ntmps64
  go_wp2_with fail
  clear hW'
  refine HL.out.mono ?_
  rintro _ w1 ⟨rfl, hw1⟩
  obtain rfl : W = w1 := hw1.symm
  dsimp only
  go_wp2_with fail
  refine HS.out.mono ?_
  rintro _ w2 (⟨k2, rfl, hI2, hk2⟩ | ⟨p2, rfl, hJ2⟩)
  · replace hI2 := hide hI2
    dsimp only
    go_wp2
    go_ret
    exact .inl ⟨k2, rfl, hI2.out, hk2⟩
  · replace hJ2 := hide hJ2
    dsimp only
    go_wp2
    go_ret
    exact .inr ⟨p2, rfl, hJ2.out⟩
end Go.Proofs.YtnokokhbcfkifaaGreatDoor

namespace Go.Proofs.YtnokokhbcfkifaaGreatDoor
open Go.ChangeShapes Go.WideShapes Go.ChangeAt Go.RowKit
set_option linter.unusedVariables false
set_option maxRecDepth 100000
attribute [local go_sem ↓] Go.wp_at_zero Go.wp_at_succ

/-- An error that the comparator told. -/
def markV (k : Nat) : Value := .iface 147 (.pointer (some ⟨k, 0, none⟩))
/-- What holds once the comparator has struck. -/
structure SeJ (mp : Option Addr) (t h : Int) (fb : Nat) (W : World) (w' : World) : Prop where
  chg : Chg (fun y => InM mp y ∨ y = fb) W w'
  met : MetO w' mp t t h 1
  f0 : ∃ k, w'.cell? ⟨fb, 0, none⟩ = some (markV k)
theorem SeJ.up {mp : Option Addr} {t h : Int} {fb : Nat} {W w w' : World} (i : SeJ mp t h fb W w) (hu : Up w w') : SeJ mp t h fb W w' := by
  obtain ⟨k, hk⟩ := i.f0
  exact ⟨i.chg.andUp hu, i.met.up hu, k, hu.cell hk⟩
theorem SeJ.ix {Y : Nat → Prop} {mp : Option Addr} {q mx nx X T : Nat} {u : Bool} {L : List EP} {hh n : Nat} {c t h s : Int} {fb : Nat} {w W w' : World} (i : IxW Y mp q mx nx X T u L hh n c t h s w) (hW : Up w W) (hf : w.heap.size ≤ fb) (e : SeJ mp t h fb W w') : Chg (InM mp) w w' ∧ IxW Y mp q mx nx X T u L hh n t t h 1 w' := by
  have hc : Chg (InM mp) w w' := (Chg.of_up hW).trans e.chg (fun y hy h => h.resolve_right (by omega))
  exact ⟨hc, i.met hc e.met⟩
set_option maxHeartbeats 2000000 in
theorem sea1_struck (mp : Option Addr) (t h : Int) (fb xb kb lb : Nat) (W x : World) (v : ET) (e : SeJ mp t h fb W x) :
    Calls Tryz.prog 65 (#[encE v] ++ #[.pointer (some ⟨fb, 0, none⟩), .pointer (some ⟨xb, 0, none⟩), .pointer (some ⟨kb, 0, none⟩), .pointer (some ⟨lb, 0, none⟩)]) x fun e' w' => ∃ b, e' = .returned (.bool b) ∧ SeJ mp t h fb W w' := by
  obtain ⟨k, hk⟩ := e.f0
  unfold encE
  show Calls Tryz.prog _ #[.agg #[.slice v.a v.n v.c, .int .i64 v.id], .pointer (some ⟨fb, 0, none⟩), .pointer (some ⟨xb, 0, none⟩), .pointer (some ⟨kb, 0, none⟩), .pointer (some ⟨lb, 0, none⟩)] x _
  obtain ⟨x1, hx1⟩ : ∃ x1, x1 = x.alloc (.cells #[.slice v.a v.n v.c, .int .i64 v.id] 51) := ⟨_, rfl⟩
  have hu1 : Up x x1 := by rw [hx1]; exact (Up.refl _).alloc _
  have g0 := hu1.cell hk
  unfold markV at g0
  have E1 := hide (e.up hu1)
  have hx1' := hx1.symm
  clear hx1 hu1 hk e
  go_enter Tryz.func65, Tryz.ntmps65
  go_wp2
  go_ret
  exact ⟨true, rfl, E1.out⟩
set_option maxHeartbeats 4000000 in
theorem sea1_hit (Y : Nat → Prop) (mb : Nat) (q mx nx X T : Nat) (u : Bool) (L : List EP) (hh n : Nat) (c t h : Int) (fb xb kb lb : Nat) (ka : Option Addr) (kn kc : Nat) (m : List VT) (least : Int) (w W : World) (i : IxW Y (some ⟨mb, 0, none⟩) q mx nx X T u L hh n c t h 0 w) (hW : Up w W) (hfb : w.heap.size ≤ fb) (hc0 : 0 ≤ c) (hc1 : c ≤ 900000)  (kk : KeyC (InM (some ⟨mb, 0, none⟩)) w ka kn kc m)
    (b1 : W.cell? ⟨xb, 0, none⟩ = some (.pointer (some ⟨X, 0, none⟩))) (b2 : W.cell? ⟨kb, 0, none⟩ = some (.slice ka kn kc)) (b3 : W.cell? ⟨lb, 0, none⟩ = some (.int .i64 least)) (hxb : ¬ (InM (some ⟨mb, 0, none⟩) xb ∨ xb = fb)) (hkb : ¬ (InM (some ⟨mb, 0, none⟩) kb ∨ kb = fb)) (hlb : ¬ (InM (some ⟨mb, 0, none⟩) lb ∨ lb = fb)) :
    ∀ (k j : Nat) (x : World), k < 100 → j < (L.map (·.1)).length → c + k + 1 = t → c + k ≤ 1000 → SeI (some ⟨mb, 0, none⟩) c t h 0 fb W k x → Calls Tryz.prog 65 (#[encE ((L.map (·.1)).getD j zeroET)] ++ #[.pointer (some ⟨fb, 0, none⟩), .pointer (some ⟨xb, 0, none⟩), .pointer (some ⟨kb, 0, none⟩), .pointer (some ⟨lb, 0, none⟩)]) x fun e' w' => ∃ b, e' = .returned (.bool b) ∧ SeJ (some ⟨mb, 0, none⟩) t h fb W w' := by
  intro k j x hk hj hct hc1000 e
  have hjL : j < L.length := by simpa using hj
  obtain ⟨hcx, ix⟩ := SeI.ix i hW hfb e
  have hmem : L[j] ∈ L := List.getElem_mem hjL
  have ek : (L.map (·.1)).getD j zeroET = L[j].1 := by rw [List.getD_eq_getElem?_getD, List.getElem?_map, List.getElem?_eq_getElem hjL]; rfl
  rw [ek]
  have kj := ix.ke _ hmem
  obtain ⟨v, hv⟩ : ∃ v, v = L[j].1 := ⟨_, rfl⟩
  obtain ⟨vs, hvs⟩ : ∃ vs, vs = L[j].2 := ⟨_, rfl⟩
  rw [← hv, ← hvs] at kj
  rw [← hv]
  clear hv hvs hmem ek hj
  have kx := kk.chg hcx
  obtain ⟨x1', hx1⟩ : ∃ x1', x1' = x.alloc (.cells #[.slice v.a v.n v.c, .int .i64 v.id] 51) := ⟨_, rfl⟩
  have hu1 : Up x x1' := by rw [hx1]; exact (Up.refl _).alloc _
  have c0 : x1'.cell? ⟨x.heap.size, 0, none⟩ = some (.slice v.a v.n v.c) := by rw [hx1]; go_simp
  have g1 := hu1.cell (e.chg.cell b1 hxb)
  have g2 := hu1.cell (e.chg.cell b2 hkb)
  have g3 := hu1.cell (e.chg.cell b3 hlb)
  have g0 := hu1.cell e.f0
  have e1 := e.up hu1
  have hfl : fb < x1'.heap.size := World.block_lt_of_cell? _ _ g0
  have hcw : CpW (some ⟨mb, 0, none⟩) q mx nx (c + k) (c + k + 1) h 0 x1' := by rw [hct]; exact ix.cw.up hu1
  have ho := order_hit X mb q mx nx (c + k) h v.a ka v.n v.c kn kc vs m x1' (hu1.cell ix.x1) hcw (by omega) hc1000 (kj.k.up hu1) (kx.k.up hu1)
  rw [hct] at ho
  have HO := hide ho
  have E1 := hide e1
  have hnf : ¬ InM (some ⟨mb, 0, none⟩) fb := fun h => by have := i.ylt _ h; omega
  have hx1' := hx1.symm
  unfold encE
  show Calls Tryz.prog _ #[.agg #[.slice v.a v.n v.c, .int .i64 v.id], .pointer (some ⟨fb, 0, none⟩), .pointer (some ⟨xb, 0, none⟩), .pointer (some ⟨kb, 0, none⟩), .pointer (some ⟨lb, 0, none⟩)] x _
  clear hx1 ho e1 e ix hcx kj kx i kk b1 b2 b3 hcw
  have HXB := hide hxb
  have HKB := hide hkb
  have HLB := hide hlb
  clear hxb hkb hlb
  go_enter Tryz.func65, Tryz.ntmps65
  go_wp2_with fail
  refine HO.out.mono ?_
  rintro _ x2 ⟨km, rfl, hc2, hm2⟩
  have f2 := hc2.cell g0 hnf
  have ff2 := (hc2.frozen (p := ⟨fb, 0, none⟩) hfl hnf).trans E1.out.ff
  have l2 := hc2.cell g3 (fun h => HLB.out (.inl h))
  have s1 : Chg (fun y => y = fb) x2 (x2.setCell ⟨fb, 0, none⟩ (.iface 147 (.pointer (some ⟨km, 0, none⟩)))) := (Chg.refl _ x2).set (C := fun y => y = fb) (p := ⟨fb, 0, none⟩) (fun _ => rfl) _
  have l3 := s1.cell l2 (fun h => HLB.out (.inr h))
  have HS : Hid (SeJ (some ⟨mb, 0, none⟩) t h fb W (x2.setCell ⟨fb, 0, none⟩ (.iface 147 (.pointer (some ⟨km, 0, none⟩))))) := ⟨(E1.out.chg.trans hc2 (fun y _ h => .inl h)).trans s1 (fun y _ h => .inr h), hm2.chg s1 (fun g hg e => hnf (by rw [← show g = fb from e]; exact hg)), km, World.cell?_setCell_same _ _ _ f2⟩
  clear hc2 hm2 s1 E1 HO g0 g1 g2 g3 c0
  dsimp only
  go_wp2
  go_ret
  exact ⟨_, rfl, HS.out⟩
set_option maxHeartbeats 4000000 in
theorem sea1_one (Y : Nat → Prop) (mp : Option Addr) (q mx nx X T : Nat) (u : Bool) (L : List EP) (hh n : Nat) (c t h s : Int) (fb xb kb lb : Nat) (ka : Option Addr) (kn kc : Nat) (m : List VT) (least : Int) (w W : World) (i : IxW Y mp q mx nx X T u L hh n c t h s w) (hW : Up w W) (hfb : w.heap.size ≤ fb) (hc0 : 0 ≤ c) (hc1 : c ≤ 900000) (kk : KeyC (InM mp) w ka kn kc m)
    (b1 : W.cell? ⟨xb, 0, none⟩ = some (.pointer (some ⟨X, 0, none⟩))) (b2 : W.cell? ⟨kb, 0, none⟩ = some (.slice ka kn kc)) (b3 : W.cell? ⟨lb, 0, none⟩ = some (.int .i64 least)) (hxb : ¬ (InM mp xb ∨ xb = fb)) (hkb : ¬ (InM mp kb ∨ kb = fb)) (hlb : ¬ (InM mp lb ∨ lb = fb)) :
    ∀ (k j : Nat) (x : World), k < 100 → j < (L.map (·.1)).length → (t = 0 ∨ ¬ c + k + 1 = t) → SeI mp c t h s fb W k x → Calls Tryz.prog 65 (#[encE ((L.map (·.1)).getD j zeroET)] ++ #[.pointer (some ⟨fb, 0, none⟩), .pointer (some ⟨xb, 0, none⟩), .pointer (some ⟨kb, 0, none⟩), .pointer (some ⟨lb, 0, none⟩)]) x fun e w' => e = .returned (.bool (decide (least ≤ cxV q (L.getD j (zeroET, [])).2 m))) ∧ SeI mp c t h s fb W (k + 1) w' := by
  intro k j x hk hj ht e
  have hjL : j < L.length := by simpa using hj
  obtain ⟨hcx, ix⟩ := SeI.ix i hW hfb e
  have hmem : L[j] ∈ L := List.getElem_mem hjL
  have ek : (L.map (·.1)).getD j zeroET = L[j].1 := by rw [List.getD_eq_getElem?_getD, List.getElem?_map, List.getElem?_eq_getElem hjL]; rfl
  have em : (L.getD j (zeroET, [])).2 = L[j].2 := by rw [List.getD_eq_getElem?_getD, List.getElem?_eq_getElem hjL]; rfl
  rw [ek]
  show Calls _ _ _ _ (fun e w' => e = .returned (.bool (decide (least ≤ cxV q (L.getD j (zeroET, [])).2 m))) ∧ _)
  rw [em]
  have kj := ix.ke _ hmem
  obtain ⟨v, hv⟩ : ∃ v, v = L[j].1 := ⟨_, rfl⟩
  obtain ⟨vs, hvs⟩ : ∃ vs, vs = L[j].2 := ⟨_, rfl⟩
  rw [← hv, ← hvs] at kj
  rw [← hv, ← hvs]
  clear hv hvs hmem ek em hj
  have kx := kk.chg hcx
  obtain ⟨x1', hx1⟩ : ∃ x1', x1' = x.alloc (.cells #[.slice v.a v.n v.c, .int .i64 v.id] 51) := ⟨_, rfl⟩
  have hu1 : Up x x1' := by rw [hx1]; exact (Up.refl _).alloc _
  have c0 : x1'.cell? ⟨x.heap.size, 0, none⟩ = some (.slice v.a v.n v.c) := by rw [hx1]; go_simp
  have g1 := hu1.cell (e.chg.cell b1 hxb)
  have g2 := hu1.cell (e.chg.cell b2 hkb)
  have g3 := hu1.cell (e.chg.cell b3 hlb)
  have g0 := hu1.cell e.f0
  have e1 := e.up hu1
  have hfl : fb < x1'.heap.size := World.block_lt_of_cell? _ _ g0
  have ho := order_ok X mp q mx nx (c + k) t h s v.a ka v.n v.c kn kc vs m x1' (hu1.cell ix.x1) (ix.cw.up hu1) i.q2 (by omega) (by omega) ht (kj.k.up hu1) (kx.k.up hu1)
  have HO := hide ho
  have E1 := hide e1
  have hnf : ¬ InM mp fb := fun h => by have := i.ylt _ h; omega
  obtain ⟨r, hr⟩ : ∃ r, r = cxV q vs m := ⟨_, rfl⟩
  rw [← hr] at HO ⊢
  have hd : ∀ b, b = decide (least ≤ r) → b = decide (r ≥ least) := fun b h => h
  have hx1' := hx1.symm
  unfold encE
  show Calls Tryz.prog _ #[.agg #[.slice v.a v.n v.c, .int .i64 v.id], .pointer (some ⟨fb, 0, none⟩), .pointer (some ⟨xb, 0, none⟩), .pointer (some ⟨kb, 0, none⟩), .pointer (some ⟨lb, 0, none⟩)] x _
  clear hr hx1 ho e1 e ix hcx kj kx i kk b1 b2 b3
  have HXB := hide hxb
  have HKB := hide hkb
  have HLB := hide hlb
  clear hxb hkb hlb hd
  go_enter Tryz.func65, Tryz.ntmps65
  go_wp2_with fail
  refine HO.out.mono ?_
  rintro _ x2 ⟨rfl, hc2, hm2⟩
  have f2 := hc2.cell g0 hnf
  have ff2 := (hc2.frozen (p := ⟨fb, 0, none⟩) hfl hnf).trans E1.out.ff
  have l2 := hc2.cell g3 (fun h => HLB.out (.inl h))
  have s1 : Chg (fun y => y = fb) x2 (x2.setCell ⟨fb, 0, none⟩ .nilIface) := (Chg.refl _ x2).set (C := fun y => y = fb) (p := ⟨fb, 0, none⟩) (fun _ => rfl) _
  have l3 := s1.cell l2 (fun h => HLB.out (.inr h))
  have HS : Hid (SeI mp c t h s fb W (k + 1) (x2.setCell ⟨fb, 0, none⟩ .nilIface)) := by
    refine ⟨(E1.out.chg.trans hc2 (fun y _ h => .inl h)).trans s1 (fun y _ h => .inr h), ?_, World.cell?_setCell_same _ _ _ f2, ?_⟩
    · have := hm2.chg s1 (fun g hg e => hnf (by rw [← show g = fb from e]; exact hg))
      rw [show c + ((k + 1 : Nat) : Int) = c + (k : Int) + 1 by omega]
      exact this
    · rw [World.frozen?_setCell]; exact ff2
  clear hc2 hm2 s1 E1 HO g0 g1 g2 g3 c0
  dsimp only
  go_wp2
  go_ret
  exact ⟨rfl, HS.out⟩
/-- What search tells where the comparator may strike. -/
def SeaHit (mp : Option Addr) (t h : Int) (w : World) (e : Ending) (w' : World) : Prop := ∃ (p k : Nat), e = .returned (.tuple #[.int .i64 p, markV k]) ∧ Chg (InM mp) w w' ∧ MetO w' mp t t h 1
set_option maxHeartbeats 4000000 in
theorem search2_ok (Y : Nat → Prop) (mb q mx nx X T : Nat) (u : Bool) (L : List EP) (hh n : Nat) (c t h : Int) (ka : Option Addr) (kn kc : Nat) (m : List VT) (least : Int) (p : Nat) (w : World) (i : IxW Y (some ⟨mb, 0, none⟩) q mx nx X T u L hh n c t h 0 w) (hL : L.length ≤ 100000) (hc0 : 0 ≤ c) (hc1 : c ≤ 900) (kk : KeyC (InM (some ⟨mb, 0, none⟩)) w ka kn kc m)
    (hp : p ≤ L.length) (hlo : ∀ j, j < p → cxV q (L.getD j (zeroET, [])).2 m < least) (hhi : ∀ j, p ≤ j → j < L.length → least ≤ cxV q (L.getD j (zeroET, [])).2 m) :
    Calls Tryz.prog 42 #[.pointer (some ⟨X, 0, none⟩), .slice ka kn kc, .int .i64 least] w fun e w' => SeaOk (some ⟨mb, 0, none⟩) c t h 0 L.length p w e w' ∨ SeaHit (some ⟨mb, 0, none⟩) t h w e w' := by
  obtain ⟨W1, hW1⟩ : ∃ W1, W1 = (((w.alloc (.cells #[.pointer (some ⟨X, 0, none⟩)] 27)).alloc (.cells #[.slice ka kn kc] 37)).alloc (.cells #[.int .i64 least] 3)).alloc (.cells #[.nilIface] 46) := ⟨_, rfl⟩
  have u1 : Up w W1 := by rw [hW1]; exact ((((Up.refl _).alloc _).alloc _).alloc _).alloc _
  have b1 : W1.cell? ⟨w.heap.size, 0, none⟩ = some (.pointer (some ⟨X, 0, none⟩)) := by rw [hW1]; go_simp
  have b2 : W1.cell? ⟨w.heap.size + 1, 0, none⟩ = some (.slice ka kn kc) := by rw [hW1]; go_simp
  have b3 : W1.cell? ⟨w.heap.size + 1 + 1, 0, none⟩ = some (.int .i64 least) := by rw [hW1]; go_simp
  have b0 : W1.cell? ⟨w.heap.size + 1 + 1 + 1, 0, none⟩ = some .nilIface := by rw [hW1]; go_simp
  have bf : W1.frozen? ⟨w.heap.size + 1 + 1 + 1, 0, none⟩ = false := by rw [hW1]; go_simp
  have hW1s : W1.heap.size = w.heap.size + 1 + 1 + 1 + 1 := by rw [hW1]; simp
  have x2 := u1.cell i.x2
  obtain ⟨W2, hW2⟩ : ∃ W2, W2 = (W1.alloc (.cells #[.pointer (some ⟨T, 0, none⟩)] 84)).alloc (.cells #[.func (.func 65) #[] #[.pointer (some ⟨w.heap.size + 1 + 1 + 1, 0, none⟩), .pointer (some ⟨w.heap.size, 0, none⟩), .pointer (some ⟨w.heap.size + 1, 0, none⟩), .pointer (some ⟨w.heap.size + 1 + 1, 0, none⟩)]] 111) := ⟨_, rfl⟩
  have u2 : Up W1 W2 := by rw [hW2]; exact ((Up.refl _).alloc _).alloc _
  have d0 : W2.cell? ⟨W1.heap.size, 0, none⟩ = some (.pointer (some ⟨T, 0, none⟩)) := by rw [hW2]; go_simp
  have d1 : W2.cell? ⟨W1.heap.size + 1, 0, none⟩ = some (.func (.func 65) #[] #[.pointer (some ⟨w.heap.size + 1 + 1 + 1, 0, none⟩), .pointer (some ⟨w.heap.size, 0, none⟩), .pointer (some ⟨w.heap.size + 1, 0, none⟩), .pointer (some ⟨w.heap.size + 1 + 1, 0, none⟩)]) := by rw [hW2]; go_simp
  have far : ∀ z, w.heap.size ≤ z → z ≠ w.heap.size + 1 + 1 + 1 → ¬ (InM (some ⟨mb, 0, none⟩) z ∨ z = w.heap.size + 1 + 1 + 1) := fun z hz hn h => h.elim (fun h => by have := i.ylt _ h; omega) hn
  have hAsk : AskV2 65 #[.pointer (some ⟨w.heap.size + 1 + 1 + 1, 0, none⟩), .pointer (some ⟨w.heap.size, 0, none⟩), .pointer (some ⟨w.heap.size + 1, 0, none⟩), .pointer (some ⟨w.heap.size + 1 + 1, 0, none⟩)] (L.map (·.1)) (fun j => decide (least ≤ cxV q (L.getD j (zeroET, [])).2 m)) (SeI (some ⟨mb, 0, none⟩) c t h 0 (w.heap.size + 1 + 1 + 1) W2) (SeJ (some ⟨mb, 0, none⟩) t h (w.heap.size + 1 + 1 + 1) W2) := by
    refine ⟨fun k j x hk hj e => ?_, fun j x hj e => sea1_struck _ t h _ _ _ _ W2 x _ e⟩
    by_cases hct : c + k + 1 = t
    · refine (sea1_hit Y mb q mx nx X T u L hh n c t h _ _ _ _ ka kn kc m least w W2 i (u1.trans u2) (by omega) hc0 (by omega) kk (u2.cell b1) (u2.cell b2) (u2.cell b3) (far _ (Nat.le_refl _) (by omega)) (far _ (by omega) (by omega)) (far _ (by omega) (by omega)) k j x hk hj hct (by omega) e).mono ?_
      rintro e' w' ⟨b, rfl, h2⟩
      exact ⟨b, rfl, .inr h2⟩
    · refine (sea1_one Y _ q mx nx X T u L hh n c t h 0 _ _ _ _ ka kn kc m least w W2 i (u1.trans u2) (by omega) hc0 (by omega) kk (u2.cell b1) (u2.cell b2) (u2.cell b3) (far _ (Nat.le_refl _) (by omega)) (far _ (by omega) (by omega)) (far _ (by omega) (by omega)) k j x hk hj (.inr hct) e).mono ?_
      rintro e' w' ⟨rfl, h2⟩
      exact ⟨_, rfl, .inl ⟨rfl, h2⟩⟩
  have hsea := tsearch2_calls T hh n p 65 #[.pointer (some ⟨w.heap.size + 1 + 1 + 1, 0, none⟩), .pointer (some ⟨w.heap.size, 0, none⟩), .pointer (some ⟨w.heap.size + 1, 0, none⟩), .pointer (some ⟨w.heap.size + 1 + 1, 0, none⟩)] (L.map (·.1)) (fun j => decide (least ≤ cxV q (L.getD j (zeroET, [])).2 m)) (SeI (some ⟨mb, 0, none⟩) c t h 0 (w.heap.size + 1 + 1 + 1) W2) (SeJ (some ⟨mb, 0, none⟩) t h (w.heap.size + 1 + 1 + 1) W2) W1 W2 hW2 (by simpa using hL) (enters_of Tryz.func65 (by kernel_rfl) rfl) hAsk
    (fun k w w' e hu => e.up hu) (fun w w' e hu => e.up hu)
    (fun w' e => by
      rcases e with ⟨k, e⟩ | e
      · exact ⟨(SeI.ix i (u1.trans u2) (by omega) e).2.tr.tr, e.chg.cell d0 (far W1.heap.size (by omega) (by omega)), e.chg.cell d1 (far (W1.heap.size + 1) (by omega) (by omega))⟩
      · exact ⟨(SeJ.ix i (u1.trans u2) (by omega) e).2.tr.tr, e.chg.cell d0 (far W1.heap.size (by omega) (by omega)), e.chg.cell d1 (far (W1.heap.size + 1) (by omega) (by omega))⟩)
    ⟨Chg.refl _ _, by simpa using i.cw.met.up (u1.trans u2), u2.cell b0, (u2.frozen (p := ⟨w.heap.size + 1 + 1 + 1, 0, none⟩) (show w.heap.size + 1 + 1 + 1 < W1.heap.size by omega)).trans bf⟩ (by simpa using hp) (fun j hj => decide_eq_false (by have := hlo j hj; omega)) (fun j hj hl => decide_eq_true (hhi j hj (by simpa using hl)))
  have HSEA := hide hsea
  have HI := hide i
  have U12 := hide (u1.trans u2)
  have hW1' := hW1.symm
  clear hsea hAsk i u1 u2 hW1 hW2 d0 d1 far kk hlo hhi b2 b3 bf b0
  go_enter Tryz.func42, Tryz.ntmps42
  go_wp2_with fail
  clear hW1'
  refine HSEA.out.mono ?_
  rintro _ w3 (⟨k, rfl, e3, hk⟩ | ⟨p3, rfl, e3⟩)
  · have f3 := e3.f0
    have hfin := SeI.ix HI.out U12.out (by omega) e3
    have HF := hide (show Chg (InM (some ⟨mb, 0, none⟩)) w w3 ∧ MetO w3 (some ⟨mb, 0, none⟩) (c + k) t h 0 from ⟨hfin.1, e3.met⟩)
    have HK : Hid (k ≤ bitsN L.length) := by unfold Hid; simpa using hk
    clear e3 hfin hk HSEA
    dsimp only
    go_wp2_with fail
    go_quiet (fail)
    have HG : Hid (Chg (InM (some ⟨mb, 0, none⟩)) w (w3.drewN nq) ∧ MetO (w3.drewN nq) (some ⟨mb, 0, none⟩) (c + k) t h 0) := ⟨HF.out.1.andUp ((Up.refl w3).drewN nq), HF.out.2.up ((Up.refl w3).drewN nq)⟩
    go_wp2
    go_ret2
    exact .inl ⟨k, HK.out, rfl, HG.out⟩
  · obtain ⟨km, f3⟩ := e3.f0
    have hfin := SeJ.ix HI.out U12.out (by omega) e3
    have HF := hide (show Chg (InM (some ⟨mb, 0, none⟩)) w w3 ∧ MetO w3 (some ⟨mb, 0, none⟩) t t h 1 from ⟨hfin.1, e3.met⟩)
    unfold markV at f3
    clear e3 hfin HSEA
    dsimp only
    go_wp2_with fail
    go_quiet (fail)
    have HG : Hid (Chg (InM (some ⟨mb, 0, none⟩)) w (w3.drewN nq) ∧ MetO (w3.drewN nq) (some ⟨mb, 0, none⟩) t t h 1) := ⟨HF.out.1.andUp ((Up.refl w3).drewN nq), HF.out.2.up ((Up.refl w3).drewN nq)⟩
    go_wp2
    go_ret2
    exact .inr ⟨p3, km, rfl, HG.out⟩
/-- Find, where the comparator strikes. -/
def FindHit (mp : Option Addr) (t h : Int) (w : World) (e : Ending) (w' : World) : Prop := ∃ k : Nat, e = .returned (.tuple #[.int .i64 0, .int .i64 0, markV k]) ∧ Chg (InM mp) w w' ∧ MetO w' mp t t h 1
set_option maxHeartbeats 4000000 in
theorem ofind2_ok (Y : Nat → Prop) (mb q mx nx X T : Nat) (u : Bool) (L : List EP) (hh n : Nat) (c t h : Int) (ka : Option Addr) (kn kc : Nat) (m : List VT) (p p' : Nat) (w : World) (i : IxW Y (some ⟨mb, 0, none⟩) q mx nx X T u L hh n c t h 0 w) (hL : L.length ≤ 100000) (hc0 : 0 ≤ c) (hc1 : c ≤ 800) (kk : KeyC (InM (some ⟨mb, 0, none⟩)) w ka kn kc m) (hs : Spot q L m p p') :
    Calls Tryz.prog 18 #[.pointer (some ⟨X, 0, none⟩), .slice ka kn kc] w fun e w' => FindOk (some ⟨mb, 0, none⟩) c t h 0 L.length p p' w e w' ∨ FindHit (some ⟨mb, 0, none⟩) t h w e w' := by
  have hb : bitsN L.length ≤ 100 := bitsN_le (by omega)
  have h1 := search2_ok Y mb q mx nx X T u L hh n c t h ka kn kc m 0 p w i hL hc0 (by omega) kk (Nat.le_trans hs.le hs.top) hs.lo (fun j hj hl => by
    rcases Nat.lt_or_ge j p' with hlt | hge
    · rw [hs.mid j hj hlt]; exact Int.le_refl _
    · exact Int.le_of_lt (hs.hi j hge hl))
  have h2 : ∀ (k : Nat) (w1 : World), k ≤ bitsN L.length → Chg (InM (some ⟨mb, 0, none⟩)) w w1 → MetO w1 (some ⟨mb, 0, none⟩) (c + k) t h 0 → Calls Tryz.prog 42 #[.pointer (some ⟨X, 0, none⟩), .slice ka kn kc, .int .i64 1] w1 fun e w' => SeaOk (some ⟨mb, 0, none⟩) (c + k) t h 0 L.length p' w1 e w' ∨ SeaHit (some ⟨mb, 0, none⟩) t h w1 e w' := fun k w1 hk hc hm =>
    search2_ok Y mb q mx nx X T u L hh n (c + k) t h ka kn kc m 1 p' w1 (i.met hc hm) hL (by omega) (by omega) (kk.chg hc) hs.top (fun j hj => by
      rcases Nat.lt_or_ge j p with hlt | hge
      · have := hs.lo j hlt; omega
      · rw [hs.mid j hge hj]; decide) (fun j hj hl => by have := hs.hi j hj hl; omega)
  have H1 := hide h1
  have H2 := hide h2
  clear h1 h2 i kk hs
  go_enter Tryz.func18, Tryz.ntmps18
  go_wp2_with fail
  refine H1.out.mono ?_
  rintro _ w1 (⟨k1, hk1, rfl, hc1', hm1⟩ | ⟨p1, km, rfl, hc1', hm1⟩)
  · have HC1 := hide hc1'
    have HM1 := hide hm1
    have HK1 := hide hk1
    clear hc1' hm1 hk1 H1
    dsimp only
    go_wp2_with fail
    refine (H2.out k1 w1 HK1.out HC1.out HM1.out).mono ?_
    rintro _ w2 (⟨k2, hk2, rfl, hc2, hm2⟩ | ⟨p2, km, rfl, hc2, hm2⟩)
    · have HC2 := hide hc2
      have HM2 := hide hm2
      have HK2 := hide hk2
      clear hc2 hm2 hk2 H2
      dsimp only
      go_wp2
      refine bodyPost_ret (v := .tuple #[.int .i64 p, .int .i64 p', .nilIface]) (by simp [results, Tryz.results18, go_sem]) rfl (.inl ⟨k1 + k2, by have := HK1.out; have := HK2.out; omega, rfl, HC1.out.trans HC2.out (fun _ _ h => h), ?_⟩)
      have := HM2.out
      rw [show c + ((k1 + k2 : Nat) : Int) = c + (k1 : Int) + (k2 : Int) by omega]
      exact this
    · have HF := hide (show Chg (InM (some ⟨mb, 0, none⟩)) w w2 ∧ MetO w2 (some ⟨mb, 0, none⟩) t t h 1 from ⟨HC1.out.trans hc2 (fun _ _ h => h), hm2⟩)
      unfold markV
      clear hc2 hm2 H2
      dsimp only
      go_wp2
      exact bodyPost_ret (v := .tuple #[.int .i64 0, .int .i64 0, .iface 147 (.pointer (some ⟨km, 0, none⟩))]) (by simp [results, Tryz.results18, go_sem]) rfl (.inr ⟨km, rfl, HF.out⟩)
  · have HF := hide (show Chg (InM (some ⟨mb, 0, none⟩)) w w1 ∧ MetO w1 (some ⟨mb, 0, none⟩) t t h 1 from ⟨hc1', hm1⟩)
    unfold markV
    clear hc1' hm1 H1 H2
    dsimp only
    go_wp2
    exact bodyPost_ret (v := .tuple #[.int .i64 0, .int .i64 0, .iface 147 (.pointer (some ⟨km, 0, none⟩))]) (by simp [results, Tryz.results18, go_sem]) rfl (.inr ⟨km, rfl, HF.out⟩)
end Go.Proofs.YtnokokhbcfkifaaGreatDoor

namespace Go.Proofs.YtnokokhbcfkifaaGreatDoor
open Go.ChangeShapes Go.WideShapes Go.ChangeAt Go.RowKit
set_option linter.unusedVariables false
set_option maxRecDepth 100000
attribute [local go_sem ↓] Go.wp_at_zero Go.wp_at_succ

/-- spotOf, where the comparator strikes. -/
def SpotHit (mp : Option Addr) (t h : Int) (w : World) (e : Ending) (w' : World) : Prop := ∃ k : Nat, e = .returned (.tuple #[spotV 0 0 0 false, markV k]) ∧ Chg (InM mp) w w' ∧ MetO w' mp t t h 1
set_option maxHeartbeats 4000000 in
theorem spotOf2_ok (Y : Nat → Prop) (mb q mx nx X T : Nat) (u : Bool) (L : List EP) (hh n : Nat) (c t h : Int) (ka : Option Addr) (kn kc : Nat) (m : List VT) (id : Int) (p p' r : Nat) (w : World) (i : IxW Y (some ⟨mb, 0, none⟩) q mx nx X T u L hh n c t h 0 w) (hL : L.length ≤ 100000) (hc0 : 0 ≤ c) (hc1 : c ≤ 800) (kk : KeyC (InM (some ⟨mb, 0, none⟩)) w ka kn kc m) (hs : Spot q L m p p') (hr : RankAt L p p' id r) :
    Calls Tryz.prog 37 #[.pointer (some ⟨X, 0, none⟩), .slice ka kn kc, .int .i64 id] w fun e w' => SpotOk (some ⟨mb, 0, none⟩) c t h 0 L.length p p' r (decide (r < p' ∧ (L.getD r (zeroET, [])).1.id = id)) w e w' ∨ SpotHit (some ⟨mb, 0, none⟩) t h w e w' := by
  obtain ⟨bb, hbb⟩ : ∃ bb, bb = decide (r < p' ∧ (L.getD r (zeroET, [])).1.id = id) := ⟨_, rfl⟩
  rw [← hbb]
  replace hbb := hide hbb
  unfold SpotOk spotV
  obtain ⟨W1, hW1⟩ : ∃ W1, W1 = ((w.alloc (.cells #[.pointer (some ⟨X, 0, none⟩)] 27)).alloc (.cells #[.int .i64 id] 2)).alloc (.cells #[.int .i64 0, .int .i64 0, .int .i64 0, .bool false] 95) := ⟨_, rfl⟩
  have u1 : Up w W1 := by rw [hW1]; exact (((Up.refl _).alloc _).alloc _).alloc _
  have b0 : W1.cell? ⟨w.heap.size, 0, none⟩ = some (.pointer (some ⟨X, 0, none⟩)) := by rw [hW1]; go_simp
  have b1 : W1.cell? ⟨w.heap.size + 1, 0, none⟩ = some (.int .i64 id) := by rw [hW1]; go_simp
  have r0 : W1.cell? ⟨w.heap.size + 1 + 1, 0, none⟩ = some (.int .i64 0) := by rw [hW1]; go_simp
  have r1 : W1.cell? ⟨w.heap.size + 1 + 1, 1, none⟩ = some (.int .i64 0) := by rw [hW1]; go_simp
  have r2 : W1.cell? ⟨w.heap.size + 1 + 1, 2, none⟩ = some (.int .i64 0) := by rw [hW1]; go_simp
  have r3 : W1.cell? ⟨w.heap.size + 1 + 1, 3, none⟩ = some (.bool false) := by rw [hW1]; go_simp
  have fr : ∀ z, W1.frozen? ⟨w.heap.size + 1 + 1, z, none⟩ = false := fun z => by rw [hW1]; go_simp
  have hW1s : W1.heap.size = w.heap.size + 1 + 1 + 1 := by rw [hW1]; simp
  have far : ∀ z, w.heap.size ≤ z → ¬ InM (some ⟨mb, 0, none⟩) z := fun z hz h => by have := i.ylt _ h; omega
  have HFIND := hide (ofind2_ok Y mb q mx nx X T u L hh n c t h ka kn kc m p p' W1 (i.up u1) hL hc0 hc1 (kk.up u1) hs)
  have HI := hide i
  have HS := hide hs
  have HR := hide hr
  have HU1 := hide u1
  have HFAR := hide far
  have FR := hide fr
  have hW1' := hW1.symm
  clear i hs hr u1 far fr hW1 kk
  go_enter Tryz.func37, Tryz.ntmps37
  go_wp2_with fail
  clear hW1'
  refine HFIND.out.mono ?_
  rintro _ w2 (⟨k2, hk2, rfl, hc2, hm2⟩ | ⟨km, rfl, hc2, hm2⟩)
  rotate_left
  · have q0' := hc2.cell r0 (HFAR.out (w.heap.size + 1 + 1) (by omega))
    have q1' := hc2.cell r1 (HFAR.out (w.heap.size + 1 + 1) (by omega))
    have q2' := hc2.cell r2 (HFAR.out (w.heap.size + 1 + 1) (by omega))
    have q3' := hc2.cell r3 (HFAR.out (w.heap.size + 1 + 1) (by omega))
    have RF : ∀ z, w2.frozen? ⟨w.heap.size + 1 + 1, z, none⟩ = false := fun z => (hc2.frozen (p := ⟨w.heap.size + 1 + 1, z, none⟩) (show w.heap.size + 1 + 1 < W1.heap.size by omega) (HFAR.out (w.heap.size + 1 + 1) (by omega))).trans (FR.out z)
    obtain ⟨V0, hV0⟩ : ∃ V0, V0 = w2.alloc (.cells #[.int .i64 0] 3) := ⟨_, rfl⟩
    have uV0 : Up w2 V0 := by rw [hV0]; exact (Up.refl _).alloc _
    have v0 : V0.cell? ⟨w2.heap.size, 0, none⟩ = some (.int .i64 0) := by rw [hV0]; go_simp
    have vf : V0.frozen? ⟨w2.heap.size, 0, none⟩ = false := by rw [hV0]; go_simp
    obtain ⟨V, hV⟩ : ∃ V, V = V0.setCell ⟨w2.heap.size, 0, none⟩ (.int .i64 0) := ⟨_, rfl⟩
    have uV : Up w2 V := by rw [hV]; exact up_of_chg_new uV0 ((Chg.refl _ V0).set (C := fun y => y = w2.heap.size) (p := ⟨w2.heap.size, 0, none⟩) (fun _ => rfl) _) (Nat.le_refl _)
    have hRl : w.heap.size + 1 + 1 < w2.heap.size := by have := hc2.size; omega
    replace q0' := uV.cell q0'
    replace q1' := uV.cell q1'
    replace q2' := uV.cell q2'
    replace q3' := uV.cell q3'
    have RV : ∀ z, V.frozen? ⟨w.heap.size + 1 + 1, z, none⟩ = false := fun z => (uV.frozen (p := ⟨w.heap.size + 1 + 1, z, none⟩) hRl).trans (RF z)
    have f0 := RV 0
    have f1 := RV 1
    have f2 := RV 2
    have f3 := RV 3
    have hV' := hV.symm
    have hV0' := hV0.symm
    replace hc2 := hc2.andUp uV
    replace hm2 := hm2.up uV
    clear hV uV hV0 uV0
    obtain ⟨W4, hW4⟩ : ∃ W4, W4 = (((V.setCell ⟨w.heap.size + 1 + 1, 0, none⟩ (.int .i64 0)).setCell ⟨w.heap.size + 1 + 1, 1, none⟩ (.int .i64 0)).setCell ⟨w.heap.size + 1 + 1, 2, none⟩ (.int .i64 0)).setCell ⟨w.heap.size + 1 + 1, 3, none⟩ (.bool false) := ⟨_, rfl⟩
    have s1 : Chg (fun y => y = w.heap.size + 1 + 1) V W4 := by
      rw [hW4]
      exact ((((Chg.refl (fun y => y = w.heap.size + 1 + 1) V).set (C := fun y => y = w.heap.size + 1 + 1) (p := ⟨w.heap.size + 1 + 1, 0, none⟩) (fun _ => rfl) _).set (C := fun y => y = w.heap.size + 1 + 1) (p := ⟨w.heap.size + 1 + 1, 1, none⟩) (fun _ => rfl) _).set (C := fun y => y = w.heap.size + 1 + 1) (p := ⟨w.heap.size + 1 + 1, 2, none⟩) (fun _ => rfl) _).set (C := fun y => y = w.heap.size + 1 + 1) (p := ⟨w.heap.size + 1 + 1, 3, none⟩) (fun _ => rfl) _
    have k0 : W4.cell? ⟨w.heap.size + 1 + 1, 0, none⟩ = some (.int .i64 0) := by rw [hW4]; go_simp
    have k1 : W4.cell? ⟨w.heap.size + 1 + 1, 1, none⟩ = some (.int .i64 0) := by rw [hW4]; go_simp
    have k2' : W4.cell? ⟨w.heap.size + 1 + 1, 2, none⟩ = some (.int .i64 0) := by rw [hW4]; go_simp
    have k3 : W4.cell? ⟨w.heap.size + 1 + 1, 3, none⟩ = some (.bool false) := by rw [hW4]; go_simp
    have HF := hide (show Chg (InM (some ⟨mb, 0, none⟩)) w W4 ∧ MetO W4 (some ⟨mb, 0, none⟩) t t h 1 from ⟨((Chg.of_up HU1.out).trans hc2 (fun _ _ h => h)).trans s1 (fun y hy e => by have e' : y = w.heap.size + 1 + 1 := e; omega), hm2.chg s1 (fun g hg e => HFAR.out g (by have e' : g = w.heap.size + 1 + 1 := e; omega) hg)⟩)
    have hW4' := hW4.symm
    unfold markV
    clear hW4 s1 hc2 hm2 RF RV HFIND
    dsimp only
    go_wp2_with fail
    exact bodyPost_ret (v := .tuple #[.agg #[.int .i64 0, .int .i64 0, .int .i64 0, .bool false], .iface 147 (.pointer (some ⟨km, 0, none⟩))]) (by simp [results, Tryz.results37, go_sem, k0, k1, k2', k3]) rfl (.inr ⟨km, rfl, HF.out⟩)
  have HC2 := hide hc2
  have HM2 := hide hm2
  have HK2 := hide hk2
  have d0 := hc2.cell b0 (HFAR.out w.heap.size (Nat.le_refl _))
  have d1 := hc2.cell b1 (HFAR.out (w.heap.size + 1) (by omega))
  have R0 := hide (hc2.cell r0 (HFAR.out (w.heap.size + 1 + 1) (by omega)))
  have R1 := hide (hc2.cell r1 (HFAR.out (w.heap.size + 1 + 1) (by omega)))
  have R2 := hide (hc2.cell r2 (HFAR.out (w.heap.size + 1 + 1) (by omega)))
  have R3 := hide (hc2.cell r3 (HFAR.out (w.heap.size + 1 + 1) (by omega)))
  have RF : Hid (∀ z, w2.frozen? ⟨w.heap.size + 1 + 1, z, none⟩ = false) := fun z => (hc2.frozen (p := ⟨w.heap.size + 1 + 1, z, none⟩) (show w.heap.size + 1 + 1 < W1.heap.size by omega) (HFAR.out (w.heap.size + 1 + 1) (by omega))).trans (FR.out z)
  have hw2s : Hid (w.heap.size + 1 + 1 < w2.heap.size) := by have := hc2.size; unfold Hid; omega
  clear hc2 hm2 hk2 b0 b1 HFIND r0 r1 r2 r3 FR
  dsimp only
  go_wp2_with fail
  obtain ⟨W3, hW3⟩ : ∃ W3, W3 = w2.alloc (.cells #[.int .i64 (p : Int)] 3) := ⟨_, rfl⟩
  have u3 : Up w2 W3 := by rw [hW3]; exact (Up.refl _).alloc _
  have p3 : W3.cell? ⟨w2.heap.size, 0, none⟩ = some (.int .i64 (p : Int)) := by rw [hW3]; go_simp
  rw [← hW3]
  clear hW3
  have hcw : Chg (InM (some ⟨mb, 0, none⟩)) w W3 := ((Chg.of_up HU1.out).trans HC2.out (fun _ _ h => h)).andUp u3
  have hm3 : MetO W3 (some ⟨mb, 0, none⟩) (c + k2) t h 0 := HM2.out.up u3
  have ix3 := HI.out.met hcw hm3
  have q0 := u3.cell d0
  have q1 := u3.cell d1
  have hsr : ∀ w', Up W3 w' → Calls Tryz.prog 56 #[.int .i64 ((p' - p : Nat) : Int), .func (.func 57) #[] #[.pointer (some ⟨w.heap.size, 0, none⟩), .pointer (some ⟨w2.heap.size, 0, none⟩), .pointer (some ⟨w.heap.size + 1, 0, none⟩)]] w' fun e w'' => e = .returned (.int .i64 ((r - p : Nat) : Int)) ∧ Up w' w'' := fun w' hw' => by
    have hle := HS.out.le
    have htop := HS.out.top
    have hlo := HR.out.lo
    have hhi := HR.out.hi
    refine (sortSearch_calls 57 _ (p' - p) (r - p) _ (fun _ x => Up w' x) w' (by omega) (enters_of Tryz.func57 (by kernel_rfl) rfl) (spot1_calls X T hh n L p p' id w.heap.size w2.heap.size (w.heap.size + 1) w' (hw'.cell ix3.x2) (ix3.tr.tr.up hw') hL htop hle (hw'.cell q0) (hw'.cell p3) (hw'.cell q1)) (by omega) (fun j hj => decide_eq_false (by have := HR.out.less (p + j) (by omega) (by omega); omega)) (fun j hj hj2 => decide_eq_true (HR.out.more (p + j) (by omega) (by omega))) (Up.refl _)).mono ?_
    rintro _ w'' ⟨k, rfl, hu, -⟩
    exact ⟨rfl, hu⟩
  have HSR := hide hsr
  have HC3 := hide hcw
  have HM3 := hide hm3
  have IX3 := hide ix3
  have hle := HS.out.le
  have htop := HS.out.top
  have hrlo := HR.out.lo
  have hrhi := HR.out.hi
  have e1 : IntKind.i64.wrap ((p' : Int) - (p : Int)) = ((p' - p : Nat) : Int) := by rw [IntKind.wrap_i64]; omega
  have e2 : IntKind.i64.wrap ((p : Int) + ((r - p : Nat) : Int)) = (r : Int) := by rw [IntKind.wrap_i64]; omega
  have HU3 := hide u3
  clear hsr hcw hm3 ix3 u3
  refine region_up (by kernel_rfl) (by kernel_rfl) ?_
  repeat (first
    | go_big_quiet_skip
    | (go_big_quiet_want; go_big_quiet_op; go_big_quiet_on)
    | (go_big_quiet_want
       apply Exists.intro
       refine ⟨fun w' hw' => ?_, ?_⟩
       (skip
        have q0 := hw'.cell q0
        have q1 := hw'.cell q1
        have p3 := hw'.cell p3
        go_simp
        first
        | done
        | with_reducible rfl
        | (go_at_call 56; exact quiet_call hw' (HSR.out w' hw')))
       go_big_quiet_on
       try simp only [Act.put, List.setIfInBounds_toArray, List.set_cons_zero, List.set_cons_succ]))
  refine wpQuiet_nil ?_
  intro w4 hw4
  have HU4 := hide hw4
  replace q0 := hw4.cell q0
  replace q1 := hw4.cell q1
  replace p3 := hw4.cell p3
  clear hw4 HSR
  go_wp2_with fail
  have U24 : Up w2 w4 := HU3.out.trans HU4.out
  have HKK : Hid (∀ w', Up w4 w' → (Up w4 w' ∧ w'.cell? ⟨w.heap.size, 0, none⟩ = some (.pointer (some ⟨X, 0, none⟩)) ∧ w'.cell? ⟨w.heap.size + 1, 0, none⟩ = some (.int .i64 id) ∧ w'.cell? ⟨w2.heap.size, 0, none⟩ = some (.int .i64 (p : Int)) ∧ w'.cell? ⟨w.heap.size + 1 + 1, 0, none⟩ = some (.int .i64 0) ∧ w'.cell? ⟨w.heap.size + 1 + 1, 1, none⟩ = some (.int .i64 0) ∧ w'.cell? ⟨w.heap.size + 1 + 1, 2, none⟩ = some (.int .i64 0) ∧ w'.cell? ⟨w.heap.size + 1 + 1, 3, none⟩ = some (.bool false) ∧ w'.frozen? ⟨w.heap.size + 1 + 1, 0, none⟩ = false ∧ w'.frozen? ⟨w.heap.size + 1 + 1, 1, none⟩ = false ∧ w'.frozen? ⟨w.heap.size + 1 + 1, 2, none⟩ = false ∧ w'.frozen? ⟨w.heap.size + 1 + 1, 3, none⟩ = false)) := fun w' hw => by
    have hz : ∀ z, w'.frozen? ⟨w.heap.size + 1 + 1, z, none⟩ = false := fun z => ((U24.trans hw).frozen (p := ⟨w.heap.size + 1 + 1, z, none⟩) hw2s.out).trans (RF.out z)
    exact ⟨hw, hw.cell q0, hw.cell q1, hw.cell p3, (U24.trans hw).cell R0.out, (U24.trans hw).cell R1.out, (U24.trans hw).cell R2.out, (U24.trans hw).cell R3.out, hz 0, hz 1, hz 2, hz 3⟩
  have HFIN : Hid (∀ w5 b, Up w4 w5 → (∀ y0 y1 y2 y3, w5.cell? ⟨w.heap.size + 1 + 1, 0, none⟩ = some y0 → w5.cell? ⟨w.heap.size + 1 + 1, 1, none⟩ = some y1 → w5.cell? ⟨w.heap.size + 1 + 1, 2, none⟩ = some y2 → w5.cell? ⟨w.heap.size + 1 + 1, 3, none⟩ = some y3 → True) → Chg (InM (some ⟨mb, 0, none⟩)) w ((((w5.setCell ⟨w.heap.size + 1 + 1, 0, none⟩ (.int .i64 p)).setCell ⟨w.heap.size + 1 + 1, 1, none⟩ (.int .i64 p')).setCell ⟨w.heap.size + 1 + 1, 2, none⟩ (.int .i64 r)).setCell ⟨w.heap.size + 1 + 1, 3, none⟩ (.bool b)) ∧ MetO ((((w5.setCell ⟨w.heap.size + 1 + 1, 0, none⟩ (.int .i64 p)).setCell ⟨w.heap.size + 1 + 1, 1, none⟩ (.int .i64 p')).setCell ⟨w.heap.size + 1 + 1, 2, none⟩ (.int .i64 r)).setCell ⟨w.heap.size + 1 + 1, 3, none⟩ (.bool b)) (some ⟨mb, 0, none⟩) (c + k2) t h 0) := fun w5 b h5 _ => by
    have s1 : Chg (fun y => y = w.heap.size + 1 + 1) w5 ((((w5.setCell ⟨w.heap.size + 1 + 1, 0, none⟩ (.int .i64 p)).setCell ⟨w.heap.size + 1 + 1, 1, none⟩ (.int .i64 p')).setCell ⟨w.heap.size + 1 + 1, 2, none⟩ (.int .i64 r)).setCell ⟨w.heap.size + 1 + 1, 3, none⟩ (.bool b)) :=
      ((((Chg.refl (fun y => y = w.heap.size + 1 + 1) w5).set (C := fun y => y = w.heap.size + 1 + 1) (p := ⟨w.heap.size + 1 + 1, 0, none⟩) (fun _ => rfl) _).set (C := fun y => y = w.heap.size + 1 + 1) (p := ⟨w.heap.size + 1 + 1, 1, none⟩) (fun _ => rfl) _).set (C := fun y => y = w.heap.size + 1 + 1) (p := ⟨w.heap.size + 1 + 1, 2, none⟩) (fun _ => rfl) _).set (C := fun y => y = w.heap.size + 1 + 1) (p := ⟨w.heap.size + 1 + 1, 3, none⟩) (fun _ => rfl) _
    refine ⟨((HC3.out.andUp HU4.out).andUp h5).trans s1 (fun y hy e => by have e' : y = w.heap.size + 1 + 1 := e; omega), ((HM3.out.up HU4.out).up h5).chg s1 (fun g hg e => ?_)⟩
    exact HFAR.out g (by have e' : g = w.heap.size + 1 + 1 := e; omega) hg
  clear U24
  by_cases hrp : r < p'
  · have HID : Hid (∀ w', Up w4 w' → Calls Tryz.prog 38 #[.pointer (some ⟨X, 0, none⟩), .int .i64 (r : Int)] w' fun e w'' => e = .returned (.int .i64 (L.getD r (zeroET, [])).1.id) ∧ Up w' w'') := fun w' hw' => by
      have := idAt_calls X T hh n (L.map (·.1)) r w' ((HU4.out.trans hw').cell IX3.out.x2) (IX3.out.tr.tr.up (HU4.out.trans hw')) (by simp; omega) (by simpa using hL)
      rwa [map_getD] at this
    obtain ⟨v, hv⟩ : ∃ v, v = (L.getD r (zeroET, [])).1.id := ⟨_, rfl⟩
    rw [← hv] at HID
    have hb : Hid ((v == id) = bb) := by
      unfold Hid
      rw [hbb.out, ← hv, Bool.eq_iff_iff]; simp [hrp]
    have t1 : decide ((r : Int) < (p' : Int)) = true := decide_eq_true (by omega)
    clear hv
    have HST : Hid (∀ w5 b, Chg (fun y => y = w.heap.size + 1 + 1) w4 w5 → Chg (fun y => y = w.heap.size + 1 + 1) w4 ((((w5.setCell ⟨w.heap.size + 1 + 1, 0, none⟩ (.int .i64 p)).setCell ⟨w.heap.size + 1 + 1, 1, none⟩ (.int .i64 p')).setCell ⟨w.heap.size + 1 + 1, 2, none⟩ (.int .i64 r)).setCell ⟨w.heap.size + 1 + 1, 3, none⟩ (.bool b))) := fun w5 b h5 =>
      (((h5.set (C := fun y => y = w.heap.size + 1 + 1) (p := ⟨w.heap.size + 1 + 1, 0, none⟩) (fun _ => rfl) _).set (C := fun y => y = w.heap.size + 1 + 1) (p := ⟨w.heap.size + 1 + 1, 1, none⟩) (fun _ => rfl) _).set (C := fun y => y = w.heap.size + 1 + 1) (p := ⟨w.heap.size + 1 + 1, 2, none⟩) (fun _ => rfl) _).set (C := fun y => y = w.heap.size + 1 + 1) (p := ⟨w.heap.size + 1 + 1, 3, none⟩) (fun _ => rfl) _
    have HKS : Hid (∀ w', Chg (fun y => y = w.heap.size + 1 + 1) w4 w' → (Chg (fun y => y = w.heap.size + 1 + 1) w4 w' ∧ w'.cell? ⟨w.heap.size, 0, none⟩ = some (.pointer (some ⟨X, 0, none⟩)) ∧ w'.cell? ⟨w.heap.size + 1, 0, none⟩ = some (.int .i64 id) ∧ w'.cell? ⟨w2.heap.size, 0, none⟩ = some (.int .i64 (p : Int)))) := fun w' hw => ⟨hw, hw.cell q0 (fun e => by have e' : w.heap.size = w.heap.size + 1 + 1 := e; omega), hw.cell q1 (fun e => by have e' : w.heap.size + 1 = w.heap.size + 1 + 1 := e; omega), hw.cell p3 (fun e => by have e' : w2.heap.size = w.heap.size + 1 + 1 := e; have := hw2s.out; omega)⟩
    have tok1 : True := trivial
    go_region_held3 (fun w' => Chg (fun y => y = w.heap.size + 1 + 1) w4 w' ∧ w'.cell? ⟨w.heap.size, 0, none⟩ = some (.pointer (some ⟨X, 0, none⟩)) ∧ w'.cell? ⟨w.heap.size + 1, 0, none⟩ = some (.int .i64 id) ∧ w'.cell? ⟨w2.heap.size, 0, none⟩ = some (.int .i64 (p : Int))) (exact HKS.out _ (by repeat' (with_reducible first | assumption | exact Chg.refl _ _ | apply Chg.alloc | apply Chg.drew | exact HST.out _ _ (by with_reducible assumption))))
      (first
        | (clear tok1; go_at_call 38; refine (HID.out _ (by repeat' (with_reducible first | assumption | exact Up.refl _ | apply Up.alloc | apply Up.drew))).mono ?_; rintro _ w5 ⟨rfl, hu5⟩; have hv5 : Up w4 w5 := Up.trans (by repeat' (with_reducible first | assumption | exact Up.refl _ | apply Up.alloc | apply Up.drew)) hu5; have hx5 : Chg (fun y => y = w.heap.size + 1 + 1) w4 w5 := Chg.of_up hv5; obtain ⟨-, -, -, -, r0, r1, r2, r3, f0, f1, f2, f3⟩ := HKK.out w5 hv5; clear hu5))
    all_goals
      have HV5 := hide (HFIN.out w5 (v == id) hv5 (fun _ _ _ _ _ _ _ _ => trivial))
      clear hv5 hx5
      go_wp2
      have k0 : ((((w5.setCell ⟨w.heap.size + 1 + 1, 0, none⟩ (.int .i64 p)).setCell ⟨w.heap.size + 1 + 1, 1, none⟩ (.int .i64 p')).setCell ⟨w.heap.size + 1 + 1, 2, none⟩ (.int .i64 r)).setCell ⟨w.heap.size + 1 + 1, 3, none⟩ (.bool (v == id))).cell? ⟨w.heap.size + 1 + 1, 0, none⟩ = some (.int .i64 p) := by go_simp
      have k1 : ((((w5.setCell ⟨w.heap.size + 1 + 1, 0, none⟩ (.int .i64 p)).setCell ⟨w.heap.size + 1 + 1, 1, none⟩ (.int .i64 p')).setCell ⟨w.heap.size + 1 + 1, 2, none⟩ (.int .i64 r)).setCell ⟨w.heap.size + 1 + 1, 3, none⟩ (.bool (v == id))).cell? ⟨w.heap.size + 1 + 1, 1, none⟩ = some (.int .i64 p') := by go_simp
      have k2' : ((((w5.setCell ⟨w.heap.size + 1 + 1, 0, none⟩ (.int .i64 p)).setCell ⟨w.heap.size + 1 + 1, 1, none⟩ (.int .i64 p')).setCell ⟨w.heap.size + 1 + 1, 2, none⟩ (.int .i64 r)).setCell ⟨w.heap.size + 1 + 1, 3, none⟩ (.bool (v == id))).cell? ⟨w.heap.size + 1 + 1, 2, none⟩ = some (.int .i64 r) := by go_simp
      have k3 : ((((w5.setCell ⟨w.heap.size + 1 + 1, 0, none⟩ (.int .i64 p)).setCell ⟨w.heap.size + 1 + 1, 1, none⟩ (.int .i64 p')).setCell ⟨w.heap.size + 1 + 1, 2, none⟩ (.int .i64 r)).setCell ⟨w.heap.size + 1 + 1, 3, none⟩ (.bool (v == id))).cell? ⟨w.heap.size + 1 + 1, 3, none⟩ = some (.bool (v == id)) := by go_simp
      refine bodyPost_ret (v := .tuple #[.agg #[.int .i64 p, .int .i64 p', .int .i64 r, .bool (v == id)], .nilIface]) (by simp [results, Tryz.results37, go_sem, k0, k1, k2', k3]) rfl (.inl ⟨k2, HK2.out, by rw [hb.out], HV5.out.1, HV5.out.2⟩)
  · have t1 : decide ((r : Int) < (p' : Int)) = false := decide_eq_false (by omega)
    have hb : Hid (false = bb) := by
      unfold Hid
      rw [hbb.out, Bool.eq_iff_iff]; simp [hrp]
    obtain ⟨hz, y0, y1, y2, r0, r1, r2, r3, f0, f1, f2, f3⟩ := HKK.out w4 (Up.refl _)
    clear hz
    go_region
    all_goals
      have k0 : ((((w4.setCell ⟨w.heap.size + 1 + 1, 0, none⟩ (.int .i64 p)).setCell ⟨w.heap.size + 1 + 1, 1, none⟩ (.int .i64 p')).setCell ⟨w.heap.size + 1 + 1, 2, none⟩ (.int .i64 r)).setCell ⟨w.heap.size + 1 + 1, 3, none⟩ (.bool false)).cell? ⟨w.heap.size + 1 + 1, 0, none⟩ = some (.int .i64 p) := by go_simp
      have k1 : ((((w4.setCell ⟨w.heap.size + 1 + 1, 0, none⟩ (.int .i64 p)).setCell ⟨w.heap.size + 1 + 1, 1, none⟩ (.int .i64 p')).setCell ⟨w.heap.size + 1 + 1, 2, none⟩ (.int .i64 r)).setCell ⟨w.heap.size + 1 + 1, 3, none⟩ (.bool false)).cell? ⟨w.heap.size + 1 + 1, 1, none⟩ = some (.int .i64 p') := by go_simp
      have k2' : ((((w4.setCell ⟨w.heap.size + 1 + 1, 0, none⟩ (.int .i64 p)).setCell ⟨w.heap.size + 1 + 1, 1, none⟩ (.int .i64 p')).setCell ⟨w.heap.size + 1 + 1, 2, none⟩ (.int .i64 r)).setCell ⟨w.heap.size + 1 + 1, 3, none⟩ (.bool false)).cell? ⟨w.heap.size + 1 + 1, 2, none⟩ = some (.int .i64 r) := by go_simp
      have k3 : ((((w4.setCell ⟨w.heap.size + 1 + 1, 0, none⟩ (.int .i64 p)).setCell ⟨w.heap.size + 1 + 1, 1, none⟩ (.int .i64 p')).setCell ⟨w.heap.size + 1 + 1, 2, none⟩ (.int .i64 r)).setCell ⟨w.heap.size + 1 + 1, 3, none⟩ (.bool false)).cell? ⟨w.heap.size + 1 + 1, 3, none⟩ = some (.bool false) := by go_simp
      have HV5 := hide (HFIN.out w4 false (Up.refl _) (fun _ _ _ _ _ _ _ _ => trivial))
      go_wp2
      refine bodyPost_ret (v := .tuple #[.agg #[.int .i64 p, .int .i64 p', .int .i64 r, .bool false], .nilIface]) (by simp [results, Tryz.results37, go_sem, k0, k1, k2', k3]) rfl (.inl ⟨k2, HK2.out, by rw [hb.out], ?_, ?_⟩)
      · exact HV5.out.1.andUp (Up.refl _).drew
      · exact HV5.out.2.up (Up.refl _).drew
end Go.Proofs.YtnokokhbcfkifaaGreatDoor

namespace Go.Proofs.YtnokokhbcfkifaaGreatDoor
open Go.ChangeShapes Go.WideShapes Go.ChangeAt Go.RowKit
set_option linter.unusedVariables false
set_option maxRecDepth 100000
attribute [local go_sem ↓] Go.wp_at_zero Go.wp_at_succ

/-- Insert, where the comparator strikes: its error is told, nothing is changed. -/
def InsHit (mp : Option Addr) (t h : Int) (w : World) (e : Ending) (w' : World) : Prop := ∃ k : Nat, e = .returned (.tuple #[.int .i64 0, markV k]) ∧ Chg (InM mp) w w' ∧ MetO w' mp t t h 1
set_option maxHeartbeats 4000000 in
theorem insert2_ok (Y : Nat → Prop) (mb q mx nx X T : Nat) (u : Bool) (L : List EP) (hh n : Nat) (c t h : Int) (ka : Option Addr) (kn kc : Nat) (m : List VT) (id : Int) (p p' r : Nat) (w : World) (i : IxW Y (some ⟨mb, 0, none⟩) q mx nx X T u L hh n c t h 0 w) (hL : L.length ≤ 100000) (hn : n ≤ 9000000) (hc0 : 0 ≤ c) (hc1 : c ≤ 800) (kk : KeyC (InM (some ⟨mb, 0, none⟩)) w ka kn kc m) (hs : Spot q L m p p') (hr : RankAt L p p' id r)
    (hnot : decide (r < p' ∧ (L.getD r (zeroET, [])).1.id = id) = false) (hu : (u && decide (p < p')) = false) :
    Calls Tryz.prog 15 #[.pointer (some ⟨X, 0, none⟩), .slice ka kn kc, .int .i64 id] w fun e w' => InsOk Y (some ⟨mb, 0, none⟩) q mx nx X T u L hh n c t h 0 m id r w e w' ∨ InsHit (some ⟨mb, 0, none⟩) t h w e w' := by
  have hsp := spotOf2_ok Y mb q mx nx X T u L hh n c t h ka kn kc m id p p' r w i hL hc0 hc1 kk hs hr
  rw [hnot] at hsp
  unfold SpotOk SpotHit spotV at hsp
  have HSP := hide hsp
  have HI := hide i
  have HS := hide hs
  have HR := hide hr
  have HK := hide kk
  clear hsp i hs hr kk hnot
  go_enter Tryz.func15, Tryz.ntmps15
  go_wp2_with fail
  refine HSP.out.mono ?_
  rintro _ w1 (⟨k1, hk1, rfl, hc1', hm1⟩ | ⟨km, rfl, hc1', hm1⟩)
  rotate_left
  · obtain ⟨V0, hV0⟩ : ∃ V0, V0 = w1.alloc (.cells #[.int .i64 0, .int .i64 0, .int .i64 0, .bool false] 95) := ⟨_, rfl⟩
    have uV0 : Up w1 V0 := by rw [hV0]; exact (Up.refl _).alloc _
    have v0 : V0.cell? ⟨w1.heap.size, 0, none⟩ = some (.int .i64 0) := by rw [hV0]; go_simp
    have v1 : V0.cell? ⟨w1.heap.size, 1, none⟩ = some (.int .i64 0) := by rw [hV0]; go_simp
    have v2 : V0.cell? ⟨w1.heap.size, 2, none⟩ = some (.int .i64 0) := by rw [hV0]; go_simp
    have v3 : V0.cell? ⟨w1.heap.size, 3, none⟩ = some (.bool false) := by rw [hV0]; go_simp
    have f0 : V0.frozen? ⟨w1.heap.size, 0, none⟩ = false := by rw [hV0]; go_simp
    have f1 : V0.frozen? ⟨w1.heap.size, 1, none⟩ = false := by rw [hV0]; go_simp
    have f2 : V0.frozen? ⟨w1.heap.size, 2, none⟩ = false := by rw [hV0]; go_simp
    have f3 : V0.frozen? ⟨w1.heap.size, 3, none⟩ = false := by rw [hV0]; go_simp
    obtain ⟨V, hV⟩ : ∃ V, V = (((V0.setCell ⟨w1.heap.size, 0, none⟩ (.int .i64 0)).setCell ⟨w1.heap.size, 1, none⟩ (.int .i64 0)).setCell ⟨w1.heap.size, 2, none⟩ (.int .i64 0)).setCell ⟨w1.heap.size, 3, none⟩ (.bool false) := ⟨_, rfl⟩
    have uV : Up w1 V := by
      rw [hV]
      exact up_of_chg_new uV0 (((((Chg.refl (fun y => y = w1.heap.size) V0).set (C := fun y => y = w1.heap.size) (p := ⟨w1.heap.size, 0, none⟩) (fun _ => rfl) _).set (C := fun y => y = w1.heap.size) (p := ⟨w1.heap.size, 1, none⟩) (fun _ => rfl) _).set (C := fun y => y = w1.heap.size) (p := ⟨w1.heap.size, 2, none⟩) (fun _ => rfl) _).set (C := fun y => y = w1.heap.size) (p := ⟨w1.heap.size, 3, none⟩) (fun _ => rfl) _) (Nat.le_refl _)
    have HF := hide (show Chg (InM (some ⟨mb, 0, none⟩)) w V ∧ MetO V (some ⟨mb, 0, none⟩) t t h 1 from ⟨hc1'.andUp uV, hm1.up uV⟩)
    have hV' := hV.symm
    have hV0' := hV0.symm
    unfold markV
    clear hV hV0 uV uV0 hc1' hm1 HSP
    dsimp only
    go_wp2
    go_ret2
    exact .inr ⟨km, rfl, HF.out⟩
  have ix1 := HI.out.met hc1' hm1
  obtain ⟨W2, hW2⟩ : ∃ W2, W2 = w1.alloc (.cells #[.int .i64 (p : Int), .int .i64 (p' : Int), .int .i64 (r : Int), .bool false] 95) := ⟨_, rfl⟩
  have u2 : Up w1 W2 := by rw [hW2]; exact (Up.refl _).alloc _
  have s0 : W2.cell? ⟨w1.heap.size, 0, none⟩ = some (.int .i64 (p : Int)) := by rw [hW2]; go_simp
  have s1 : W2.cell? ⟨w1.heap.size, 1, none⟩ = some (.int .i64 (p' : Int)) := by rw [hW2]; go_simp
  have s2 : W2.cell? ⟨w1.heap.size, 2, none⟩ = some (.int .i64 (r : Int)) := by rw [hW2]; go_simp
  have s3 : W2.cell? ⟨w1.heap.size, 3, none⟩ = some (.bool false) := by rw [hW2]; go_simp
  have f3 : W2.frozen? ⟨w1.heap.size, 3, none⟩ = false := by rw [hW2]; go_simp
  have hW2' := hW2.symm
  obtain ⟨W3, hW3⟩ : ∃ W3, W3 = W2.setCell ⟨w1.heap.size, 3, none⟩ (.bool false) := ⟨_, rfl⟩
  have c3 : Chg (fun y => y = w1.heap.size) W2 W3 := by rw [hW3]; exact (Chg.refl _ W2).set (C := fun y => y = w1.heap.size) (p := ⟨w1.heap.size, 3, none⟩) (fun _ => rfl) _
  have u3 : Up w1 W3 := up_of_chg_new u2 c3 (Nat.le_refl _)
  have z0 : W3.cell? ⟨w1.heap.size, 0, none⟩ = some (.int .i64 (p : Int)) := by rw [hW3]; exact (World.cell?_setCell_other _ _ _ _ (by intro e; cases e)).trans s0
  have z1 : W3.cell? ⟨w1.heap.size, 1, none⟩ = some (.int .i64 (p' : Int)) := by rw [hW3]; exact (World.cell?_setCell_other _ _ _ _ (by intro e; cases e)).trans s1
  have z2 : W3.cell? ⟨w1.heap.size, 2, none⟩ = some (.int .i64 (r : Int)) := by rw [hW3]; exact (World.cell?_setCell_other _ _ _ _ (by intro e; cases e)).trans s2
  have z3 : W3.cell? ⟨w1.heap.size, 3, none⟩ = some (.bool false) := by rw [hW3]; exact World.cell?_setCell_same _ _ _ s3
  have hW3' := hW3.symm
  have ix3 := ix1.up u3
  have x0 := ix3.x0
  have x2 := ix3.x2
  have HC3 := hide (hc1'.andUp u3)
  have IX3 := hide ix3
  have HK1 := hide hk1
  have HKEY := hide ((HK.out.chg hc1').up u3)
  have IXT : Hid (T < w1.heap.size) := ix1.tr.tr.lt
  have hWl : w1.heap.size < W3.heap.size := by rw [hW3, hW2]; simp
  have t1 : u = true → ¬ p < p' := fun hut => by
    rw [hut, Bool.true_and] at hu
    exact of_decide_eq_false hu
  clear hc1' hm1 hk1 ix1 HSP hu u2 u3 c3 ix3 hW2 hW3
  dsimp only
  cases u with
  | true =>
    have t2 : decide ((p : Int) < (p' : Int)) = false := decide_eq_false (by have := t1 rfl; omega)
    have t3 : decide (p < p') = false := decide_eq_false (t1 rfl)
    clear t1
    go_wp2_with fail
    clear hW2' hW3'
    have HCOP : Hid (∀ w', Up W3 w' → Calls Tryz.prog 40 #[.agg #[.slice ka kn kc, .int .i64 id]] w' fun e w'' => ∃ a', e = .returned (.agg #[.slice a' kn kn, .int .i64 id]) ∧ (NewRow w'.heap.size w'' a' kn m ∧ (∀ g, RowB a' g → w'.heap.size ≤ g ∧ g < w''.heap.size)) ∧ Up w' w'') := fun w' hw' => (oxcopy_calls ka kn kc id m w' HKEY.out.k.few (HKEY.out.k.up hw').vals HKEY.out.k.sh).mono (fun _ _ ⟨a', h1, h2, h3, h4⟩ => ⟨a', h1, ⟨h2, h3⟩, h4⟩)
    have HINS : Hid (∀ (w5 w' : World) (a5 : Option Addr), Up W3 w5 → Up w5 w' → Calls Tryz.prog 39 #[.pointer (some ⟨T, 0, none⟩), .int .i64 (r : Int), .agg #[.slice a5 kn kn, .int .i64 id]] w' fun e w'' => e = .returned (.int .i64 0) ∧ TrDoneM Y T n hh (insL ⟨a5, kn, kn, id⟩ (L.map (·.1)) r) w5 w'') := fun w5 w' a5 h5 h' => by
      have i5 := IX3.out.up (h5.trans h')
      refine (insertAtM_ok Y T hh n r ⟨a5, kn, kn, id⟩ (L.map (·.1)) w' i5.aT i5.yl i5.tr (by have := HR.out.hi; have := HS.out.top; simp; omega) (by simpa using hL) (by omega)).mono ?_
      rintro _ w'' ⟨rfl, h1, k, h2, h3, h4, h6⟩
      exact ⟨rfl, h1, k, h2, h3, h4, (Chg.of_up h').trans h6 (fun _ _ h => h)⟩
    have hTl : T < w1.heap.size := IXT.out
    have HKS : Hid (∀ w', Chg (fun y => y = T) W3 w' → (Chg (fun y => y = T) W3 w' ∧ w'.cell? ⟨X, 2, none⟩ = some (.pointer (some ⟨T, 0, none⟩)) ∧ w'.cell? ⟨w1.heap.size, 2, none⟩ = some (.int .i64 (r : Int)))) := fun w' hw => ⟨hw, hw.cell x2 (fun e => IX3.out.aX (.inl e)), hw.cell z2 (fun e => by have e' : w1.heap.size = T := e; omega)⟩
    have tok1 : True := trivial
    have tok2 : True := trivial
    go_region_held3 (fun w' => Chg (fun y => y = T) W3 w' ∧ w'.cell? ⟨X, 2, none⟩ = some (.pointer (some ⟨T, 0, none⟩)) ∧ w'.cell? ⟨w1.heap.size, 2, none⟩ = some (.int .i64 (r : Int))) (exact HKS.out _ (by repeat' (with_reducible first | assumption | exact Chg.refl _ _ | apply Chg.alloc | apply Chg.drew)))
      (first
        | (clear tok1; go_at_call 40; refine (HCOP.out _ (by repeat' (with_reducible first | assumption | exact Up.refl _ | apply Up.alloc | apply Up.drew))).mono ?_; rintro _ w5 ⟨a5, rfl, hn5, hu5⟩; have hv5 : Up W3 w5 := Up.trans (by repeat' (with_reducible first | assumption | exact Up.refl _ | apply Up.alloc | apply Up.drew)) hu5; have hx5 : Chg (fun y => y = T) W3 w5 := Chg.of_up hv5; replace hn5 := hide (newKey_low hn5 (Up.size (w := W3) (by repeat' (with_reducible first | assumption | exact Up.refl _ | apply Up.alloc | apply Up.drew)))); clear hu5)
        | (clear tok2; go_at_call 39; refine (HINS.out w5 _ a5 hv5 (by repeat' (with_reducible first | assumption | exact Up.refl _ | apply Up.alloc | apply Up.drew))).mono ?_; rintro _ w6 ⟨rfl, hd6⟩; have hx6 : Chg (fun y => y = T) W3 w6 := hx5.trans hd6.chg (fun _ _ h => h); have y2 := hx6.cell z2 (fun e => by have e' : w1.heap.size = T := e; omega); replace hd6 := hide hd6))
    all_goals
      have HV5 := hide hv5
      have HX6 := hide hx6
      clear hv5 hx5 hx6
      go_wp2_with fail
      go_ret2
      obtain ⟨hh', k, ht6, hk61, hk62, hc6⟩ := hd6.out
      have hh8 := IX3.out.tr.tr.hle (by simpa using hL)
      refine .inl ⟨k1, hh', n + k, ⟨a5, kn, kn, id⟩, HK1.out, rfl, (IX3.out.up HV5.out).tree hc6 (by rw [insL_map]; exact ht6) (fun y hy => ?_), rfl, by omega, by omega, ?_⟩
      · rcases mem_insL hy with rfl | hy
        · exact hn5.out.1.keyC hn5.out.2 HKEY.out.k.few HKEY.out.k.sh (fun y hy => by
            rcases hy with rfl | hy
            · exact Nat.lt_trans hTl hWl
            · exact IX3.out.yl y hy)
        · exact (IX3.out.ke y hy).up HV5.out
      · exact (HC3.out.mono (D := XT T (InM (some ⟨mb, 0, none⟩))) (fun _ _ h => .inr h)).trans HX6.out (fun _ _ h => .inl h)
  | false =>
    clear t1
    go_wp2_with fail
    clear hW2' hW3'
    have HCOP : Hid (∀ w', Up W3 w' → Calls Tryz.prog 40 #[.agg #[.slice ka kn kc, .int .i64 id]] w' fun e w'' => ∃ a', e = .returned (.agg #[.slice a' kn kn, .int .i64 id]) ∧ (NewRow w'.heap.size w'' a' kn m ∧ (∀ g, RowB a' g → w'.heap.size ≤ g ∧ g < w''.heap.size)) ∧ Up w' w'') := fun w' hw' => (oxcopy_calls ka kn kc id m w' HKEY.out.k.few (HKEY.out.k.up hw').vals HKEY.out.k.sh).mono (fun _ _ ⟨a', h1, h2, h3, h4⟩ => ⟨a', h1, ⟨h2, h3⟩, h4⟩)
    have HINS : Hid (∀ (w5 w' : World) (a5 : Option Addr), Up W3 w5 → Up w5 w' → Calls Tryz.prog 39 #[.pointer (some ⟨T, 0, none⟩), .int .i64 (r : Int), .agg #[.slice a5 kn kn, .int .i64 id]] w' fun e w'' => e = .returned (.int .i64 0) ∧ TrDoneM Y T n hh (insL ⟨a5, kn, kn, id⟩ (L.map (·.1)) r) w5 w'') := fun w5 w' a5 h5 h' => by
      have i5 := IX3.out.up (h5.trans h')
      refine (insertAtM_ok Y T hh n r ⟨a5, kn, kn, id⟩ (L.map (·.1)) w' i5.aT i5.yl i5.tr (by have := HR.out.hi; have := HS.out.top; simp; omega) (by simpa using hL) (by omega)).mono ?_
      rintro _ w'' ⟨rfl, h1, k, h2, h3, h4, h6⟩
      exact ⟨rfl, h1, k, h2, h3, h4, (Chg.of_up h').trans h6 (fun _ _ h => h)⟩
    have hTl : T < w1.heap.size := IXT.out
    have HKS : Hid (∀ w', Chg (fun y => y = T) W3 w' → (Chg (fun y => y = T) W3 w' ∧ w'.cell? ⟨X, 2, none⟩ = some (.pointer (some ⟨T, 0, none⟩)) ∧ w'.cell? ⟨w1.heap.size, 2, none⟩ = some (.int .i64 (r : Int)))) := fun w' hw => ⟨hw, hw.cell x2 (fun e => IX3.out.aX (.inl e)), hw.cell z2 (fun e => by have e' : w1.heap.size = T := e; omega)⟩
    have tok1 : True := trivial
    have tok2 : True := trivial
    go_region_held3 (fun w' => Chg (fun y => y = T) W3 w' ∧ w'.cell? ⟨X, 2, none⟩ = some (.pointer (some ⟨T, 0, none⟩)) ∧ w'.cell? ⟨w1.heap.size, 2, none⟩ = some (.int .i64 (r : Int))) (exact HKS.out _ (by repeat' (with_reducible first | assumption | exact Chg.refl _ _ | apply Chg.alloc | apply Chg.drew)))
      (first
        | (clear tok1; go_at_call 40; refine (HCOP.out _ (by repeat' (with_reducible first | assumption | exact Up.refl _ | apply Up.alloc | apply Up.drew))).mono ?_; rintro _ w5 ⟨a5, rfl, hn5, hu5⟩; have hv5 : Up W3 w5 := Up.trans (by repeat' (with_reducible first | assumption | exact Up.refl _ | apply Up.alloc | apply Up.drew)) hu5; have hx5 : Chg (fun y => y = T) W3 w5 := Chg.of_up hv5; replace hn5 := hide (newKey_low hn5 (Up.size (w := W3) (by repeat' (with_reducible first | assumption | exact Up.refl _ | apply Up.alloc | apply Up.drew)))); clear hu5)
        | (clear tok2; go_at_call 39; refine (HINS.out w5 _ a5 hv5 (by repeat' (with_reducible first | assumption | exact Up.refl _ | apply Up.alloc | apply Up.drew))).mono ?_; rintro _ w6 ⟨rfl, hd6⟩; have hx6 : Chg (fun y => y = T) W3 w6 := hx5.trans hd6.chg (fun _ _ h => h); have y2 := hx6.cell z2 (fun e => by have e' : w1.heap.size = T := e; omega); replace hd6 := hide hd6))
    all_goals
      have HV5 := hide hv5
      have HX6 := hide hx6
      clear hv5 hx5 hx6
      go_wp2_with fail
      go_ret2
      obtain ⟨hh', k, ht6, hk61, hk62, hc6⟩ := hd6.out
      have hh8 := IX3.out.tr.tr.hle (by simpa using hL)
      refine .inl ⟨k1, hh', n + k, ⟨a5, kn, kn, id⟩, HK1.out, rfl, (IX3.out.up HV5.out).tree hc6 (by rw [insL_map]; exact ht6) (fun y hy => ?_), rfl, by omega, by omega, ?_⟩
      · rcases mem_insL hy with rfl | hy
        · exact hn5.out.1.keyC hn5.out.2 HKEY.out.k.few HKEY.out.k.sh (fun y hy => by
            rcases hy with rfl | hy
            · exact Nat.lt_trans hTl hWl
            · exact IX3.out.yl y hy)
        · exact (IX3.out.ke y hy).up HV5.out
      · exact (HC3.out.mono (D := XT T (InM (some ⟨mb, 0, none⟩))) (fun _ _ h => .inr h)).trans HX6.out (fun _ _ h => .inl h)
end Go.Proofs.YtnokokhbcfkifaaGreatDoor
