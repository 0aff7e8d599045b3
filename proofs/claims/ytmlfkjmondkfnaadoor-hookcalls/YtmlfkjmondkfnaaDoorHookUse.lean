/-
  What the statements' meter does (package rialtoplay), as its text runs.
  What rialtoref7's lower answers, as its text runs.
  What rialtoref7's Extract answers, as its text runs: the same of the same values.
  What the statements' own extractors do (package rialtoplay), as their text runs.
  What the statements' own comparators do (packages rialtoref7, rialtoplay), as their texts run.
  What the statements' own mutators do (package rialtoplay), as their texts run.
  What told answers (package rialtolaw6), as its text runs.
-/
import Derived.Test.YtmlfkjmondkfnaaDoorHookExt0
import Derived.Deep.RegionLaw
import Derived.Test.YtmlfkjmondkfnaaDoorBytes
import Derived.Lib.ConvBytes
import Derived.Test.YtmlfkjmondkfnaaDoorNewVals
import Derived.Test.YtmlfkjmondkfnaaDoorRefs
import Derived.Test.YtmlfkjmondkfnaaDoorHookObAll
import Derived.Test.YtmlfkjmondkfnaaDoorCodeApp
import Derived.Test.YtmlfkjmondkfnaaDoorQuietUp
import Derived.Test.YtmlfkjmondkfnaaDoorOwnVals
import Derived.Test.YtmlfkjmondkfnaaDoorHookMutVal
import Derived.Test.YtmlfkjmondkfnaaDoorHookKnown
import Derived.Test.YtmlfkjmondkfnaaDoorErrIs2
namespace Go.Proofs.YtmlfkjmondkfnaaDoor
open Go.ChangeShapes Go.WideShapes Go.ChangeAt Go.RowKit
set_option linter.unusedVariables false
attribute [local go_sem ↓] Go.wp_at_zero Go.wp_at_succ

/-- A meter. -/
def Met (w : World) (b : Nat) (c a h s : Int) : Prop := (w.cell? ⟨b, 0, none⟩ = some (.int .i64 c) ∧ w.cell? ⟨b, 1, none⟩ = some (.int .i64 a) ∧ w.cell? ⟨b, 2, none⟩ = some (.int .i64 h) ∧ w.cell? ⟨b, 3, none⟩ = some (.int .i64 s)) ∧ ∀ i, w.frozen? ⟨b, i, none⟩ = false
theorem Met.chg {C : Nat → Prop} {w w' : World} {b : Nat} {c a h s : Int} (m : Met w b c a h s) (hc : Chg C w w') (hn : ¬ C b) : Met w' b c a h s :=
  ⟨⟨hc.cell m.1.1 hn, hc.cell m.1.2.1 hn, hc.cell m.1.2.2.1 hn, hc.cell m.1.2.2.2 hn⟩, fun i => (hc.frozen (p := ⟨b, i, none⟩) (World.block_lt_of_cell? w ⟨b, 0, none⟩ m.1.1) hn).trans (m.2 i)⟩
theorem Met.up {w w' : World} {b : Nat} {c a h s : Int} (m : Met w b c a h s) (hu : Up w w') : Met w' b c a h s := m.chg (C := fun _ => False) (Chg.of_up hu) id

set_option maxRecDepth 20000 in
set_option maxHeartbeats 4000000 in
theorem mset_calls (b : Nat) (c a h s n how : Int) (w : World) (hn : n = 0 ∨ n = 1) (hm : Met w b c a h s) :
    Calls Tryd.prog 19 #[.pointer (some ⟨b, 0, none⟩), .int .i64 n, .int .i64 how] w fun e w' => e = .returned (.tuple #[]) ∧ Met w' b 0 n (bits .and .i64 how 1023) 0 ∧ Chg (fun x => x = b) w w' := by
  obtain ⟨⟨m0, m1, m2, m3⟩, mf⟩ := hm
  have f0 := mf 0
  have f1 := mf 1
  have f2 := mf 2
  have f3 := mf 3
  have HF := hide mf
  clear mf
  have hmx1 : max (1 : Int) 0 = 1 := by decide
  rcases hn with rfl | rfl
  · go_enter Tryd.func19, Tryd.ntmps19
    go_wp2_with fail
    go_end0
    refine ⟨rfl, ⟨⟨by go_simp, by go_simp, by go_simp, by go_simp⟩, fun i => by simp only [World.frozen?_setCell]; exact HF.out i⟩, chg_set4 w b _ _ _ _⟩
  · go_enter Tryd.func19, Tryd.ntmps19
    go_wp2_with fail
    go_end0
    refine ⟨rfl, ⟨⟨by go_simp, by go_simp, by go_simp, by go_simp⟩, fun i => by simp only [World.frozen?_setCell]; exact HF.out i⟩, chg_set4 w b _ _ _ _⟩

set_option maxRecDepth 20000 in
set_option maxHeartbeats 4000000 in
theorem tick_0 (b : Nat) (h : Int) (w : World) (hm : Met w b 0 0 h 0) :
    Calls Tryd.prog 60 #[.pointer (some ⟨b, 0, none⟩)] w fun e w' => e = .returned .nilIface ∧ Met w' b 1 0 h 0 ∧ Chg (fun x => x = b) w w' := by
  obtain ⟨⟨m0, m1, m2, m3⟩, mf⟩ := hm
  have f0 := mf 0
  have HF := hide mf
  clear mf
  go_enter Tryd.func60, Tryd.ntmps60
  go_wp2_with fail
  go_quiet (fail)
  go_wp2
  go_ret
  refine ⟨rfl, ⟨⟨?_, ?_, ?_, ?_⟩, fun i => ?_⟩, (chg_set1 w b _).andUp ((Up.refl _).drewN _)⟩
  · exact World.cell?_setCell_same _ _ _ m0
  · exact (World.cell?_setCell_other _ _ _ _ (by intro e; cases e)).trans m1
  · exact (World.cell?_setCell_other _ _ _ _ (by intro e; cases e)).trans m2
  · exact (World.cell?_setCell_other _ _ _ _ (by intro e; cases e)).trans m3
  · show (w.setCell _ _).frozen? _ = false
    rw [World.frozen?_setCell]
    exact HF.out i

theorem mark_calls (b : Nat) (w : World) (m1 : w.cell? ⟨b, 1, none⟩ = some (.int .i64 1)) : Calls Tryd.prog 52 #[.pointer (some ⟨b, 0, none⟩)] w fun e w' => e = .returned (.int .i64 1001) ∧ w' = w := by
  go_enter Tryd.func52, Tryd.ntmps52
  go_wp2
  go_ret
  exact ⟨rfl, rfl⟩

set_option maxRecDepth 20000 in
set_option maxHeartbeats 4000000 in
theorem tick_1 (b : Nat) (h : Int) (w : World) (hm : Met w b 0 1 h 0) :
    Calls Tryd.prog 60 #[.pointer (some ⟨b, 0, none⟩)] w fun e w' => ∃ q, e = .returned (.iface 23 (.pointer (some ⟨q, 0, none⟩))) ∧ Met w' b 1 1 h 1 ∧ Chg (fun x => x = b) w w' ∧ w.heap.size ≤ q ∧ w'.cell? ⟨q, 0, none⟩ = some (.int .i64 1001) := by
  obtain ⟨⟨m0, m1, m2, m3⟩, mf⟩ := hm
  have f0 := mf 0
  have f3 := mf 3
  have hb : b < w.heap.size := World.block_lt_of_cell? w _ m0
  have HF := hide mf
  clear mf
  go_enter Tryd.func60, Tryd.ntmps60
  go_wp2_with fail
  go_quiet (fail)
  go_wp2_with fail
  obtain ⟨X, hX⟩ : ∃ X, X = (((w.setCell ⟨b, 0, none⟩ (.int .i64 1)).drewN nq).setCell ⟨b, 3, none⟩ (.int .i64 1)) := ⟨_, rfl⟩
  have cX : Hid (Chg (fun x => x = b) w X) := by rw [hX]; exact Chg.set' (C := fun x => x = b) ⟨b, 3, none⟩ _ rfl ((chg_set1 w b _).andUp ((Up.refl _).drewN _))
  have MX : Hid (Met X b 1 1 h 1) := by
    rw [hX]
    refine ⟨⟨?_, ?_, ?_, ?_⟩, fun i => ?_⟩
    · exact (World.cell?_setCell_other _ _ _ _ (by intro e; cases e)).trans (World.cell?_setCell_same _ _ _ m0)
    · exact (World.cell?_setCell_other _ _ _ _ (by intro e; cases e)).trans ((World.cell?_setCell_other _ _ _ _ (by intro e; cases e)).trans m1)
    · exact (World.cell?_setCell_other _ _ _ _ (by intro e; cases e)).trans ((World.cell?_setCell_other _ _ _ _ (by intro e; cases e)).trans m2)
    · exact World.cell?_setCell_same _ _ _ ((World.cell?_setCell_other _ _ _ _ (by intro e; cases e)).trans m3)
    · rw [World.frozen?_setCell]
      show (w.setCell _ _).frozen? _ = false
      rw [World.frozen?_setCell]
      exact HF.out i
  rw [← hX]
  clear hX m0 m1 m2 m3 f0 f3 HF
  go_at_call 52
  refine (mark_calls b X MX.out.1.2.1).mono ?_
  rintro _ x2 ⟨rfl, rfl⟩
  go_wp2
  go_ret
  exact ⟨_, rfl, MX.out.up ((Up.refl _).alloc _), cX.out.alloc _, cX.out.size, by go_simp⟩

end Go.Proofs.YtmlfkjmondkfnaaDoor

namespace Go.Proofs.YtmlfkjmondkfnaaDoor
open Go.ChangeShapes Go.WideShapes Go.ChangeAt Go.RowKit
set_option linter.unusedVariables false
attribute [local go_sem ↓] Go.wp_at_zero Go.wp_at_succ

def lowU (x : UInt8) : UInt8 := if 65 ≤ x.toNat ∧ x.toNat ≤ 90 then UInt8.ofNat (x.toNat + 32) else x
theorem lowU_yes {x : UInt8} (h : 65 ≤ x.toNat ∧ x.toNat ≤ 90) : (lowU x).toNat = x.toNat + 32 := by
  unfold lowU
  rw [if_pos h]
  simp
  omega
theorem lowU_no {x : UInt8} (h : ¬ (65 ≤ x.toNat ∧ x.toNat ≤ 90)) : lowU x = x := by unfold lowU; rw [if_neg h]
/-- The row when so many bytes are done. -/
def lowAt (l : List UInt8) (k : Nat) (j : Nat) : UInt8 := if j < k then lowU (l.getD j 0) else l.getD j 0
def lowB (s : ByteArray) : ByteArray := ⟨(s.data.toList.map lowU).toArray⟩
theorem lowB_size (s : ByteArray) : (lowB s).size = s.size := by
  show (s.data.toList.map lowU).toArray.size = s.data.size
  simp

set_option maxRecDepth 20000 in
set_option maxHeartbeats 4000000 in
theorem low_calls (s : ByteArray) (w : World) (hs : s.size ≤ 200) : Calls Tryd.prog 81 #[.string s] w fun e w' => e = .returned (.string (lowB s)) ∧ Up w w' := by
  have hcv := Go.Lib.run_convert_string_bytes (P := Tryd.prog) w 9 149 5 s (u := .string) Tryd.underlying9 Tryd.underlying149 Tryd.underlying5
  have hB : ∀ j, j < s.size → (Go.Lib.bytesWorld w 5 s).cell? ⟨w.heap.size, j, none⟩ = some (.int .u8 (s.data.toList.getD j 0).toNat) := fun j hj => Go.Lib.bytesWorld_cell w 5 s j hj
  have hup : Up w (Go.Lib.bytesWorld w 5 s) := ⟨rfl, rfl, rfl, by rw [Go.Lib.bytesWorld_size]; omega, fun k hk => Go.Lib.bytesWorld_at_old w _ s k hk⟩
  have hfz : ∀ j, j < s.size → (Go.Lib.bytesWorld w 5 s).frozen? ⟨w.heap.size, j, none⟩ = false := fun j hj => by
    unfold World.frozen?
    rw [Go.Lib.bytesWorld_at_new]
    have hsz : s.size ≤ (Go.Lib.bytesCells w 5 s).size := by unfold Go.Lib.bytesCells; simp
    have h1 : ¬ (Go.Lib.bytesCells w 5 s).size ≤ j := by omega
    simp [h1]
  obtain ⟨W1, hW1⟩ : ∃ W1, W1 = Go.Lib.bytesWorld w 5 s := ⟨_, rfl⟩
  rw [← hW1] at hcv hB hup hfz
  clear hW1
  generalize Go.grownCap w s.size 0 5 = cp at hcv
  obtain ⟨bs, hL⟩ : ∃ bs, bs = s.data.toList := ⟨_, rfl⟩
  have hLn : bs.length = s.size := by rw [hL]; rfl
  have HL := hide hL
  rw [← hL] at hB
  clear hL
  have HB := hide hB
  have HFZ := hide hfz
  have HUP := hide hup
  clear hB hfz hup
  go_enter Tryd.func81, Tryd.ntmps81
  go_wp2_with fail
  have HS : Hid ((∀ j, j < s.size → W1.cell? ⟨w.heap.size, j, none⟩ = some (.int .u8 (lowAt bs 0 j).toNat)) ∧ ∀ j, j < s.size → W1.frozen? ⟨w.heap.size, j, none⟩ = false) := ⟨fun j hj => by unfold lowAt; rw [if_neg (Nat.not_lt_zero _)]; exact HB.out j hj, HFZ.out⟩
  clear HB HFZ hcv
  go_loopw [4] (fun i wr => ∃ k : Nat, k ≤ s.size ∧ i = .int .i64 k ∧ Up w wr ∧ (∀ j, j < s.size → wr.cell? ⟨w.heap.size, j, none⟩ = some (.int .u8 (lowAt bs k j).toNat)) ∧ ∀ j, j < s.size → wr.frozen? ⟨w.heap.size, j, none⟩ = false) (fun i _ => s.size - (intOf i).toNat)
  case atStart => exact ⟨0, Nat.zero_le _, rfl, HUP.out, HS.out.1, HS.out.2⟩
  case round =>
    clear HS HUP
    obtain ⟨k, hk, rfl, hu, hc, hf⟩ := hrel
    have HU := hide hu
    have HC := hide hc
    have HF := hide hf
    clear hu hc hf
    by_cases hlt : k < s.size
    · have t0 : decide ((k : Int) < s.size) = true := decide_eq_true (by omega)
      have hks : (k : Int) < s.size := by omega
      have ck := HC.out k hlt
      have fk := HF.out k hlt
      have e0 : lowAt bs k k = bs.getD k 0 := by unfold lowAt; rw [if_neg (Nat.lt_irrefl k)]
      rw [e0] at ck
      have hoth : ∀ j, j ≠ k → lowAt bs (k + 1) j = lowAt bs k j := by
        intro j hj
        unfold lowAt
        by_cases h1 : j < k
        · rw [if_pos h1, if_pos (by omega)]
        · rw [if_neg h1, if_neg (by omega)]
      have hme : lowAt bs (k + 1) k = lowU (bs.getD k 0) := by unfold lowAt; rw [if_pos (Nat.lt_succ_self k)]
      obtain ⟨x, hx⟩ : ∃ x, x = bs.getD k 0 := ⟨_, rfl⟩
      rw [← hx] at ck hme
      have hx256 : x.toNat < 256 := x.toNat_lt
      have HOTH := hide hoth
      have HME := hide hme
      clear hoth hme hx e0
      by_cases h1 : 65 ≤ x.toNat ∧ x.toNat ≤ 90
      · have t1 : decide ((65 : Int) ≤ x.toNat) = true := decide_eq_true (by omega)
        have t2 : decide ((x.toNat : Int) ≤ 90) = true := decide_eq_true (by omega)
        have hw8 : IntKind.u8.wrap ((x.toNat : Int) + 32) = (x.toNat : Int) + 32 := by
          have := IntKind.wrap_u8 ((x.toNat : Int) + 32)
          rw [this]
          omega
        have H1 := hide h1
        clear h1
        go_wp2_with fail
        refine ⟨⟨k + 1, by omega, by go_num, HU.out.setCell (p := ⟨w.heap.size, k, none⟩) (Nat.le_refl _) _, fun j hj => ?_, fun j hj => by rw [World.frozen?_setCell]; exact HF.out j hj⟩, by simp [intOf]; omega⟩
        by_cases hjk : j = k
        · subst hjk
          rw [World.cell?_setCell_same _ _ _ ck, HME.out, lowU_yes H1.out]
          rfl
        · rw [World.cell?_setCell_other _ _ _ _ (by intro e; cases e; exact hjk rfl), HOTH.out j hjk]
          exact HC.out j hj
      · have H1 := hide h1
        have t3 : (decide ((65 : Int) ≤ x.toNat) && decide ((x.toNat : Int) ≤ 90)) = false := by
          rw [Bool.and_eq_false_iff, decide_eq_false_iff_not, decide_eq_false_iff_not]
          omega
        clear h1
        by_cases h2 : (65 : Int) ≤ x.toNat
        · have t1 : decide ((65 : Int) ≤ x.toNat) = true := decide_eq_true h2
          have t2 : decide ((x.toNat : Int) ≤ 90) = false := decide_eq_false (by have := H1.out; omega)
          clear h2 t3
          go_wp2_with fail
          refine ⟨⟨k + 1, by omega, by go_num, HU.out, fun j hj => ?_, HF.out⟩, by simp [intOf]; omega⟩
          by_cases hjk : j = k
          · subst hjk
            rw [HME.out, lowU_no H1.out]
            exact ck
          · rw [HOTH.out j hjk]
            exact HC.out j hj
        · have t1 : decide ((65 : Int) ≤ x.toNat) = false := decide_eq_false h2
          clear h2 t3
          go_wp2_with fail
          refine ⟨⟨k + 1, by omega, by go_num, HU.out, fun j hj => ?_, HF.out⟩, by simp [intOf]; omega⟩
          by_cases hjk : j = k
          · subst hjk
            rw [HME.out, lowU_no H1.out]
            exact ck
          · rw [HOTH.out j hjk]
            exact HC.out j hj
    · obtain rfl : k = s.size := by omega
      have t0 : decide ((s.size : Int) < s.size) = false := decide_eq_false (by omega)
      have hbt : Bts wr (some ⟨w.heap.size, 0, none⟩) s.size (bs.map lowU) := by
        refine ⟨by simp [hLn], .inr ⟨w.heap.size, 0, rfl, fun i hi => ?_⟩⟩
        rw [Nat.zero_add, HC.out i hi]
        have e1 : (bs.map lowU).getD i 0 = lowU (bs.getD i 0) := by
          rw [List.getD_eq_getElem?_getD, List.getD_eq_getElem?_getD, List.getElem?_map, List.getElem?_eq_getElem (by omega)]
          rfl
        rw [e1]
        unfold lowAt
        rw [if_pos hi]
      have hcv := conv_bts (c := cp) hbt (fun h => by cases h)
      clear hbt
      go_wp2_with fail
      go_ret
      refine ⟨?_, HU.out⟩
      rw [HL.out]
      rfl

end Go.Proofs.YtmlfkjmondkfnaaDoor

namespace Go.Proofs.YtmlfkjmondkfnaaDoor
open Go.ChangeShapes Go.WideShapes Go.ChangeAt Go.RowKit
set_option linter.unusedVariables false
attribute [local go_sem ↓] Go.wp_at_zero Go.wp_at_succ
attribute [local go_sem] run_store_float

/-- What the loop bears from value to value. -/
structure EX where
  sum : Int
  first : ByteArray
  f : Nat
  hS : Bool
  hF : Bool
  hI : Bool
  bit : Int
def ex0 : EX := ⟨0, ⟨#[]⟩, 0, false, false, false, 0⟩
def exSum (a b : Int) : Int := wrap64 (IntKind.u64.wrap (IntKind.u64.wrap a + IntKind.u64.wrap b))
def exStep (e : EX) (v : VT) : EX :=
  if v.1 = 1 then { e with sum := exSum e.sum v.2.1, hI := true, bit := if e.hI then e.bit else bits .and .i64 v.2.1 1 }
  else if v.1 = 3 then { e with first := if e.hS then e.first else v.2.2.1, hS := true }
  else if v.1 = 5 then { e with f := if e.hF then e.f else v.2.2.2, hF := true }
  else e
def exF (m : List VT) (k : Nat) : EX := (m.take k).foldl exStep ex0
theorem exF_succ (m : List VT) (k : Nat) (h : k < m.length) : exF m (k + 1) = exStep (exF m k) (m.getD k zeroT) := by
  unfold exF
  rw [List.take_add_one, List.getElem?_eq_getElem h, Option.toList_some, List.foldl_append, List.getD_eq_getElem?_getD, List.getElem?_eq_getElem h]
  rfl
def exLow (m : List VT) (k : Nat) : VT := if k = 0 then (0, 0, ⟨#[]⟩, 0) else m.getD 0 zeroT
theorem exF_f (m : List VT) (hf : ∀ i, Fits (m.getD i zeroT)) (k : Nat) : k ≤ m.length → (exF m k).f < whole := by
  induction k with
  | zero => intro _; exact (by decide : 0 < whole)
  | succ k ih =>
    intro hk
    rw [exF_succ m k (by omega)]
    have h := ih (by omega)
    have h2 := (hf k).2.2.2.2.2
    unfold exStep
    split
    · exact h
    · split
      · exact h
      · split
        · dsimp only
          split
          · exact h
          · exact h2
        · exact h

theorem rex_first {w wr : World} {u : VT} (hu : Up w wr) (hr : Box wr w.heap.size (0, 0, ⟨#[]⟩, 0)) (hl : Box wr (w.heap.size + 1) u) (k z : Int) (t : ByteArray) (f : Nat) (tt : TypeId) :
    Up w (((((wr.setCell ⟨w.heap.size + 1, 0, none⟩ (.int .i64 k)).setCell ⟨w.heap.size + 1, 1, none⟩ (.int .i64 z)).setCell ⟨w.heap.size + 1, 2, none⟩ (.string t)).setCell ⟨w.heap.size + 1, 3, none⟩ (.float .f64 f)).alloc (.cells #[.int .i64 k, .int .i64 z, .string t, .float .f64 f] tt)) ∧ Box (((((wr.setCell ⟨w.heap.size + 1, 0, none⟩ (.int .i64 k)).setCell ⟨w.heap.size + 1, 1, none⟩ (.int .i64 z)).setCell ⟨w.heap.size + 1, 2, none⟩ (.string t)).setCell ⟨w.heap.size + 1, 3, none⟩ (.float .f64 f)).alloc (.cells #[.int .i64 k, .int .i64 z, .string t, .float .f64 f] tt)) w.heap.size (0, 0, ⟨#[]⟩, 0) ∧ Box (((((wr.setCell ⟨w.heap.size + 1, 0, none⟩ (.int .i64 k)).setCell ⟨w.heap.size + 1, 1, none⟩ (.int .i64 z)).setCell ⟨w.heap.size + 1, 2, none⟩ (.string t)).setCell ⟨w.heap.size + 1, 3, none⟩ (.float .f64 f)).alloc (.cells #[.int .i64 k, .int .i64 z, .string t, .float .f64 f] tt)) (w.heap.size + 1) (k, z, t, f) := by
  have h4 := chg_set4 wr (w.heap.size + 1) (.int .i64 k) (.int .i64 z) (.string t) (.float .f64 f)
  refine ⟨?_, ((hr.chg h4 (by omega)).up ((Up.refl _).alloc _)), (hl.set k z t f).up ((Up.refl _).alloc _)⟩
  exact (Up.alloc (Below.trans hu.below (Chg.below (B := w.heap.size) h4 (fun x hx e => by omega) hu.size)) _)

theorem xor_nat (a b : Int) : ∃ n : Nat, n < whole ∧ bits .xor .u64 a b = n := by
  refine ⟨(BitVec.ofInt 64 a ^^^ BitVec.ofInt 64 b).toNat, (BitVec.ofInt 64 a ^^^ BitVec.ofInt 64 b).isLt, ?_⟩
  show IntKind.u64.wrap ((BitVec.ofInt 64 a ^^^ BitVec.ofInt 64 b).toNat : Int) = _
  have hlt := (BitVec.ofInt 64 a ^^^ BitVec.ofInt 64 b).isLt
  generalize (BitVec.ofInt 64 a ^^^ BitVec.ofInt 64 b).toNat = k at hlt
  have := IntKind.wrap_u64 (k : Int)
  rw [this]
  omega
def exNeg (b : Nat) : Nat := ofN (bits .xor .u64 IntKind.u64.max (ordN b : Int)).toNat
theorem exF_first (m : List VT) (hf : ∀ i, (m.getD i zeroT).2.2.1.size ≤ 200) (k : Nat) : k ≤ m.length → (exF m k).first.size ≤ 200 := by
  induction k with
  | zero => intro _; exact (by decide : (0 : Nat) ≤ 200)
  | succ k ih =>
    intro hk
    rw [exF_succ m k (by omega)]
    have h := ih (by omega)
    have h2 := hf k
    unfold exStep
    split
    · exact h
    · split
      · dsimp only
        split
        · exact h
        · exact h2
      · split
        · exact h
        · exact h
/-- What an extractor with a number tells of a row. -/
def exV (q : Int) (m : List VT) : VT :=
  if q = 0 then (1, (exF m m.length).sum, ⟨#[]⟩, 0)
  else if q = 1 then (3, 0, lowB (exF m m.length).first, 0)
  else if q = 2 then (5, 0, ⟨#[]⟩, if (exF m m.length).hF then exNeg (exF m m.length).f else 0)
  else (1, bits .xor .i64 (m.length : Int) (exF m m.length).bit, ⟨#[]⟩, 0)

set_option maxRecDepth 20000 in
set_option maxHeartbeats 16000000 in
theorem rex_some (q : Int) (b off n c : Nat) (m : List VT) (w : World) (hn : n ≤ 12) (hm : m.length = n) (hft : ∀ i, Fits (m.getD i zeroT)) (hx : ∀ i, i < n → At w b (off + i * 4) (m.getD i zeroT)) (hsh : ∀ i, (m.getD i zeroT).2.2.1.size ≤ 200) (hq : q = 0 ∨ q = 1 ∨ q = 2 ∨ q = 3) :
    Calls Tryd.prog 70 #[.int .i64 q, .slice (some ⟨b, off, none⟩) n c] w fun e w' => e = .returned (.agg #[.int .i64 (exV q m).1, .int .i64 (exV q m).2.1, .string (exV q m).2.2.1, .float .f64 (exV q m).2.2.2]) ∧ Up w w' := by
  have HX := hide hx
  have HM := hide hm
  have HFT := hide hft
  have HSH := hide hsh
  clear hx hm hft hsh
  have hN : n ≤ 2 ^ 63 - 1 := by omega
  go_enter Tryd.func70, Tryd.ntmps70
  go_wp2_with fail
  obtain ⟨W, hW⟩ : ∃ W, W = (w.alloc (.cells #[.int .i64 0, .int .i64 0, .string ⟨#[]⟩, .float .f64 0] 58)).alloc (.cells #[.int .i64 0, .int .i64 0, .string ⟨#[]⟩, .float .f64 0] 58) := ⟨_, rfl⟩
  have uW : Hid (Up w W) := by rw [hW]; exact ((Up.refl _).alloc _).alloc _
  have zr : Hid (Box W w.heap.size (0, 0, ⟨#[]⟩, 0)) := by rw [hW]; exact ⟨⟨by go_simp, by go_simp, by go_simp, by go_simp⟩, fun i => by go_simp⟩
  have zl : Hid (Box W (w.heap.size + 1) (0, 0, ⟨#[]⟩, 0)) := by rw [hW]; exact ⟨⟨by go_simp, by go_simp, by go_simp, by go_simp⟩, fun i => by go_simp⟩
  rw [← hW]
  clear hW
  go_loopw [5, 6, 8, 9, 10, 11, 12, 13] (fun su fi ff bS bF bI bt i wr => ∃ k : Nat, k ≤ n ∧ i = .int .i64 k ∧ su = .int .i64 (exF m k).sum ∧ fi = .string (exF m k).first ∧ ff = .float .f64 (exF m k).f ∧ bS = .bool (exF m k).hS ∧ bF = .bool (exF m k).hF ∧ bI = .bool (exF m k).hI ∧ bt = .int .i64 (exF m k).bit ∧ Up w wr ∧ Box wr w.heap.size (0, 0, ⟨#[]⟩, 0) ∧ Box wr (w.heap.size + 1) (exLow m k)) (fun _ _ _ _ _ _ _ i _ => n - (intOf i).toNat)
  case atStart => exact ⟨0, Nat.zero_le _, rfl, rfl, rfl, rfl, rfl, rfl, rfl, rfl, uW.out, zr.out, zl.out⟩
  case round =>
    clear zr zl uW W
    obtain ⟨k, hk, rfl, rfl, rfl, rfl, rfl, rfl, rfl, rfl, hu, hr, hl⟩ := hrel
    replace hu := hide hu
    replace hr := hide hr
    replace hl := hide hl
    by_cases hlt : k < n
    · have t0 : decide ((k : Int) < n) = true := decide_eq_true (by omega)
      obtain ⟨c0, c1, c2, c3⟩ := (HX.out k hlt).up hu.out
      have hsucc := hide (exF_succ m k (by rw [HM.out]; exact hlt))
      have hft := HFT.out k
      obtain ⟨⟨p, z, s, g⟩, hv⟩ : ∃ v, v = m.getD k zeroT := ⟨_, rfl⟩
      rw [← hv] at c0 c1 c2 c3 hft
      have hv := hide hv
      dsimp only at c0 c1 c2 c3
      have lb0 : wr.cell? ⟨w.heap.size + 1, 0, none⟩ = some (.int .i64 (exLow m k).1) := hl.out.1.1
      have lb1 : wr.cell? ⟨w.heap.size + 1, 1, none⟩ = some (.int .i64 (exLow m k).2.1) := hl.out.1.2.1
      have lb2 : wr.cell? ⟨w.heap.size + 1, 2, none⟩ = some (.string (exLow m k).2.2.1) := hl.out.1.2.2.1
      have lb3 : wr.cell? ⟨w.heap.size + 1, 3, none⟩ = some (.float .f64 (exLow m k).2.2.2) := hl.out.1.2.2.2
      have lf0 := hl.out.2 0
      have lf1 := hl.out.2 1
      have lf2 := hl.out.2 2
      have lf3 := hl.out.2 3
      have hlw : w.heap.size + 1 < wr.heap.size := World.block_lt_of_cell? wr _ lb0
      obtain ⟨E, hE⟩ : ∃ E, E = exF m k := ⟨_, rfl⟩
      rw [← hE]
      obtain ⟨es, ef, eg, eS, eF, eI, eb⟩ := E
      dsimp only
      have hE := hide hE
      have hk0 : ((k : Int) == 0) = true ∧ k = 0 ∨ ((k : Int) == 0) = false ∧ ¬ k = 0 := by
        by_cases h : k = 0
        · exact .inl ⟨by rw [beq_iff_eq]; omega, h⟩
        · exact .inr ⟨by rw [beq_eq_false_iff_ne]; omega, h⟩
      by_cases p1 : p = 1
      · subst p1
        cases eI
        · skip
          rcases hk0 with ⟨t1, h0⟩ | ⟨t1, h0⟩
          · have H0 := hide h0
            clear h0
            go_wp2_with fail
            refine ⟨⟨k + 1, by omega, by go_num, ?_⟩, by simp [intOf]; omega⟩
            rw [hsucc.out, ← hE.out, ← hv.out]
            have hlow : exLow m (k + 1) = m.getD 0 zeroT := by unfold exLow; rw [if_neg (Nat.succ_ne_zero k)]
            rw [hlow]
            have hvv : m.getD 0 zeroT = (1, z, s, g) := by rw [hv.out, H0.out]
            rw [hvv]
            refine ⟨by simp [exStep, exSum], by simp [exStep], by simp [exStep], by simp [exStep], by simp [exStep], by simp [exStep], by simp [exStep], rex_first hu.out hr.out hl.out 1 z s g _⟩
          · have H0 := hide h0
            clear h0
            go_wp2_with fail
            refine ⟨⟨k + 1, by omega, by go_num, ?_⟩, by simp [intOf]; omega⟩
            rw [hsucc.out, ← hE.out, ← hv.out]
            have hlow : exLow m (k + 1) = m.getD 0 zeroT := by unfold exLow; rw [if_neg (Nat.succ_ne_zero k)]
            rw [hlow]
            have hlk : Box wr (w.heap.size + 1) (m.getD 0 zeroT) := by have := hl.out; unfold exLow at this; rw [if_neg H0.out] at this; exact this
            refine ⟨by simp [exStep, exSum], by simp [exStep], by simp [exStep], by simp [exStep], by simp [exStep], by simp [exStep], by simp [exStep], hu.out.alloc _, hr.out.up ((Up.refl _).alloc _), hlk.up ((Up.refl _).alloc _)⟩
        · skip
          rcases hk0 with ⟨t1, h0⟩ | ⟨t1, h0⟩
          · have H0 := hide h0
            clear h0
            go_wp2_with fail
            refine ⟨⟨k + 1, by omega, by go_num, ?_⟩, by simp [intOf]; omega⟩
            rw [hsucc.out, ← hE.out, ← hv.out]
            have hlow : exLow m (k + 1) = m.getD 0 zeroT := by unfold exLow; rw [if_neg (Nat.succ_ne_zero k)]
            rw [hlow]
            have hvv : m.getD 0 zeroT = (1, z, s, g) := by rw [hv.out, H0.out]
            rw [hvv]
            refine ⟨by simp [exStep, exSum], by simp [exStep], by simp [exStep], by simp [exStep], by simp [exStep], by simp [exStep], by simp [exStep], rex_first hu.out hr.out hl.out 1 z s g _⟩
          · have H0 := hide h0
            clear h0
            go_wp2_with fail
            refine ⟨⟨k + 1, by omega, by go_num, ?_⟩, by simp [intOf]; omega⟩
            rw [hsucc.out, ← hE.out, ← hv.out]
            have hlow : exLow m (k + 1) = m.getD 0 zeroT := by unfold exLow; rw [if_neg (Nat.succ_ne_zero k)]
            rw [hlow]
            have hlk : Box wr (w.heap.size + 1) (m.getD 0 zeroT) := by have := hl.out; unfold exLow at this; rw [if_neg H0.out] at this; exact this
            refine ⟨by simp [exStep, exSum], by simp [exStep], by simp [exStep], by simp [exStep], by simp [exStep], by simp [exStep], by simp [exStep], hu.out.alloc _, hr.out.up ((Up.refl _).alloc _), hlk.up ((Up.refl _).alloc _)⟩
      by_cases p3 : p = 3
      · subst p3
        clear p1
        cases eS
        · skip
          rcases hk0 with ⟨t1, h0⟩ | ⟨t1, h0⟩
          · have H0 := hide h0
            clear h0
            go_wp2_with fail
            refine ⟨⟨k + 1, by omega, by go_num, ?_⟩, by simp [intOf]; omega⟩
            rw [hsucc.out, ← hE.out, ← hv.out]
            have hlow : exLow m (k + 1) = m.getD 0 zeroT := by unfold exLow; rw [if_neg (Nat.succ_ne_zero k)]
            rw [hlow]
            have hvv : m.getD 0 zeroT = (3, z, s, g) := by rw [hv.out, H0.out]
            rw [hvv]
            refine ⟨by simp [exStep], by simp [exStep], by simp [exStep], by simp [exStep], by simp [exStep], by simp [exStep], by simp [exStep], rex_first hu.out hr.out hl.out 3 z s g _⟩
          · have H0 := hide h0
            clear h0
            go_wp2_with fail
            refine ⟨⟨k + 1, by omega, by go_num, ?_⟩, by simp [intOf]; omega⟩
            rw [hsucc.out, ← hE.out, ← hv.out]
            have hlow : exLow m (k + 1) = m.getD 0 zeroT := by unfold exLow; rw [if_neg (Nat.succ_ne_zero k)]
            rw [hlow]
            have hlk : Box wr (w.heap.size + 1) (m.getD 0 zeroT) := by have := hl.out; unfold exLow at this; rw [if_neg H0.out] at this; exact this
            refine ⟨by simp [exStep], by simp [exStep], by simp [exStep], by simp [exStep], by simp [exStep], by simp [exStep], by simp [exStep], hu.out.alloc _, hr.out.up ((Up.refl _).alloc _), hlk.up ((Up.refl _).alloc _)⟩
        · skip
          rcases hk0 with ⟨t1, h0⟩ | ⟨t1, h0⟩
          · have H0 := hide h0
            clear h0
            go_wp2_with fail
            refine ⟨⟨k + 1, by omega, by go_num, ?_⟩, by simp [intOf]; omega⟩
            rw [hsucc.out, ← hE.out, ← hv.out]
            have hlow : exLow m (k + 1) = m.getD 0 zeroT := by unfold exLow; rw [if_neg (Nat.succ_ne_zero k)]
            rw [hlow]
            have hvv : m.getD 0 zeroT = (3, z, s, g) := by rw [hv.out, H0.out]
            rw [hvv]
            refine ⟨by simp [exStep], by simp [exStep], by simp [exStep], by simp [exStep], by simp [exStep], by simp [exStep], by simp [exStep], rex_first hu.out hr.out hl.out 3 z s g _⟩
          · have H0 := hide h0
            clear h0
            go_wp2_with fail
            refine ⟨⟨k + 1, by omega, by go_num, ?_⟩, by simp [intOf]; omega⟩
            rw [hsucc.out, ← hE.out, ← hv.out]
            have hlow : exLow m (k + 1) = m.getD 0 zeroT := by unfold exLow; rw [if_neg (Nat.succ_ne_zero k)]
            rw [hlow]
            have hlk : Box wr (w.heap.size + 1) (m.getD 0 zeroT) := by have := hl.out; unfold exLow at this; rw [if_neg H0.out] at this; exact this
            refine ⟨by simp [exStep], by simp [exStep], by simp [exStep], by simp [exStep], by simp [exStep], by simp [exStep], by simp [exStep], hu.out.alloc _, hr.out.up ((Up.refl _).alloc _), hlk.up ((Up.refl _).alloc _)⟩
      by_cases p5 : p = 5
      · subst p5
        clear p1 p3
        cases eF
        · skip
          rcases hk0 with ⟨t1, h0⟩ | ⟨t1, h0⟩
          · have H0 := hide h0
            clear h0
            go_wp2_with fail
            refine ⟨⟨k + 1, by omega, by go_num, ?_⟩, by simp [intOf]; omega⟩
            rw [hsucc.out, ← hE.out, ← hv.out]
            have hlow : exLow m (k + 1) = m.getD 0 zeroT := by unfold exLow; rw [if_neg (Nat.succ_ne_zero k)]
            rw [hlow]
            have hvv : m.getD 0 zeroT = (5, z, s, g) := by rw [hv.out, H0.out]
            rw [hvv]
            refine ⟨by simp [exStep], by simp [exStep], by simp [exStep], by simp [exStep], by simp [exStep], by simp [exStep], by simp [exStep], rex_first hu.out hr.out hl.out 5 z s g _⟩
          · have H0 := hide h0
            clear h0
            go_wp2_with fail
            refine ⟨⟨k + 1, by omega, by go_num, ?_⟩, by simp [intOf]; omega⟩
            rw [hsucc.out, ← hE.out, ← hv.out]
            have hlow : exLow m (k + 1) = m.getD 0 zeroT := by unfold exLow; rw [if_neg (Nat.succ_ne_zero k)]
            rw [hlow]
            have hlk : Box wr (w.heap.size + 1) (m.getD 0 zeroT) := by have := hl.out; unfold exLow at this; rw [if_neg H0.out] at this; exact this
            refine ⟨by simp [exStep], by simp [exStep], by simp [exStep], by simp [exStep], by simp [exStep], by simp [exStep], by simp [exStep], hu.out.alloc _, hr.out.up ((Up.refl _).alloc _), hlk.up ((Up.refl _).alloc _)⟩
        · skip
          rcases hk0 with ⟨t1, h0⟩ | ⟨t1, h0⟩
          · have H0 := hide h0
            clear h0
            go_wp2_with fail
            refine ⟨⟨k + 1, by omega, by go_num, ?_⟩, by simp [intOf]; omega⟩
            rw [hsucc.out, ← hE.out, ← hv.out]
            have hlow : exLow m (k + 1) = m.getD 0 zeroT := by unfold exLow; rw [if_neg (Nat.succ_ne_zero k)]
            rw [hlow]
            have hvv : m.getD 0 zeroT = (5, z, s, g) := by rw [hv.out, H0.out]
            rw [hvv]
            refine ⟨by simp [exStep], by simp [exStep], by simp [exStep], by simp [exStep], by simp [exStep], by simp [exStep], by simp [exStep], rex_first hu.out hr.out hl.out 5 z s g _⟩
          · have H0 := hide h0
            clear h0
            go_wp2_with fail
            refine ⟨⟨k + 1, by omega, by go_num, ?_⟩, by simp [intOf]; omega⟩
            rw [hsucc.out, ← hE.out, ← hv.out]
            have hlow : exLow m (k + 1) = m.getD 0 zeroT := by unfold exLow; rw [if_neg (Nat.succ_ne_zero k)]
            rw [hlow]
            have hlk : Box wr (w.heap.size + 1) (m.getD 0 zeroT) := by have := hl.out; unfold exLow at this; rw [if_neg H0.out] at this; exact this
            refine ⟨by simp [exStep], by simp [exStep], by simp [exStep], by simp [exStep], by simp [exStep], by simp [exStep], by simp [exStep], hu.out.alloc _, hr.out.up ((Up.refl _).alloc _), hlk.up ((Up.refl _).alloc _)⟩
      have q1 : (p == 1) = false := by rw [beq_eq_false_iff_ne]; exact p1
      have q3 : (p == 3) = false := by rw [beq_eq_false_iff_ne]; exact p3
      have q5 : (p == 5) = false := by rw [beq_eq_false_iff_ne]; exact p5
      have HP : Hid (¬ p = 1 ∧ ¬ p = 3 ∧ ¬ p = 5) := ⟨p1, p3, p5⟩
      clear p1 p3 p5
      rcases hk0 with ⟨t1, h0⟩ | ⟨t1, h0⟩
      · have H0 := hide h0
        clear h0
        go_wp2_with fail
        refine ⟨⟨k + 1, by omega, by go_num, ?_⟩, by simp [intOf]; omega⟩
        rw [hsucc.out, ← hE.out, ← hv.out]
        have hlow : exLow m (k + 1) = m.getD 0 zeroT := by unfold exLow; rw [if_neg (Nat.succ_ne_zero k)]
        rw [hlow]
        have hvv : m.getD 0 zeroT = (p, z, s, g) := by rw [hv.out, H0.out]
        rw [hvv]
        refine ⟨by simp [exStep, HP.out.1, HP.out.2.1, HP.out.2.2], by simp [exStep, HP.out.1, HP.out.2.1, HP.out.2.2], by simp [exStep, HP.out.1, HP.out.2.1, HP.out.2.2], by simp [exStep, HP.out.1, HP.out.2.1, HP.out.2.2], by simp [exStep, HP.out.1, HP.out.2.1, HP.out.2.2], by simp [exStep, HP.out.1, HP.out.2.1, HP.out.2.2], by simp [exStep, HP.out.1, HP.out.2.1, HP.out.2.2], rex_first hu.out hr.out hl.out p z s g _⟩
      · have H0 := hide h0
        clear h0
        go_wp2_with fail
        refine ⟨⟨k + 1, by omega, by go_num, ?_⟩, by simp [intOf]; omega⟩
        rw [hsucc.out, ← hE.out, ← hv.out]
        have hlow : exLow m (k + 1) = m.getD 0 zeroT := by unfold exLow; rw [if_neg (Nat.succ_ne_zero k)]
        rw [hlow]
        have hlk : Box wr (w.heap.size + 1) (m.getD 0 zeroT) := by have := hl.out; unfold exLow at this; rw [if_neg H0.out] at this; exact this
        refine ⟨by simp [exStep, HP.out.1, HP.out.2.1, HP.out.2.2], by simp [exStep, HP.out.1, HP.out.2.1, HP.out.2.2], by simp [exStep, HP.out.1, HP.out.2.1, HP.out.2.2], by simp [exStep, HP.out.1, HP.out.2.1, HP.out.2.2], by simp [exStep, HP.out.1, HP.out.2.1, HP.out.2.2], by simp [exStep, HP.out.1, HP.out.2.1, HP.out.2.2], by simp [exStep, HP.out.1, HP.out.2.1, HP.out.2.2], hu.out.alloc _, hr.out.up ((Up.refl _).alloc _), hlk.up ((Up.refl _).alloc _)⟩
    · obtain rfl : k = n := by omega
      have t0 : decide ((k : Int) < k) = false := decide_eq_false (by omega)
      have r0 : wr.cell? ⟨w.heap.size, 0, none⟩ = some (.int .i64 0) := hr.out.1.1
      have r1 : wr.cell? ⟨w.heap.size, 1, none⟩ = some (.int .i64 0) := hr.out.1.2.1
      have r2 : wr.cell? ⟨w.heap.size, 2, none⟩ = some (.string ⟨#[]⟩) := hr.out.1.2.2.1
      have r3 : wr.cell? ⟨w.heap.size, 3, none⟩ = some (.float .f64 0) := hr.out.1.2.2.2
      have rf0 := hr.out.2 0
      have rf1 := hr.out.2 1
      have rf2 := hr.out.2 2
      have rf3 := hr.out.2 3
      obtain rfl : m.length = k := HM.out
      have hfw := exF_f m HFT.out m.length (Nat.le_refl _)
      have hfs := exF_first m HSH.out m.length (Nat.le_refl _)
      rcases hq with rfl | rfl | rfl | rfl
      · go_wp2_with fail
        refine bodyPost_ret (v := .agg #[.int .i64 1, .int .i64 (exF m m.length).sum, .string ⟨#[]⟩, .float .f64 0]) (by simp [results, Tryd.results70, go_sem, *]) rfl ?_
        refine ⟨?_, Below.trans hu.out.below (Chg.below (B := w.heap.size) (chg_set4 wr w.heap.size _ _ _ _) (fun x hx e => by omega) hu.out.size)⟩
        simp [exV]
      · go_wp2_with fail
        go_at_call 81
        refine (low_calls _ wr hfs).mono ?_
        rintro _ wa ⟨rfl, hua⟩
        replace rf0 := (hua.frozen (p := ⟨w.heap.size, 0, none⟩) (World.block_lt_of_cell? _ ⟨w.heap.size, 0, none⟩ r0)).trans rf0
        replace rf1 := (hua.frozen (p := ⟨w.heap.size, 1, none⟩) (World.block_lt_of_cell? _ ⟨w.heap.size, 1, none⟩ r1)).trans rf1
        replace rf2 := (hua.frozen (p := ⟨w.heap.size, 2, none⟩) (World.block_lt_of_cell? _ ⟨w.heap.size, 2, none⟩ r2)).trans rf2
        replace rf3 := (hua.frozen (p := ⟨w.heap.size, 3, none⟩) (World.block_lt_of_cell? _ ⟨w.heap.size, 3, none⟩ r3)).trans rf3
        replace r0 := hua.cell r0
        replace r1 := hua.cell r1
        replace r2 := hua.cell r2
        replace r3 := hua.cell r3
        replace hu := hide (hu.out.trans hua)
        clear hua
        go_wp2_with fail
        refine bodyPost_ret (v := .agg #[.int .i64 3, .int .i64 0, .string (lowB (exF m m.length).first), .float .f64 0]) (by simp [results, Tryd.results70, go_sem, *]) rfl ?_
        refine ⟨?_, Below.trans hu.out.below (Chg.below (B := w.heap.size) (chg_set4 wa w.heap.size _ _ _ _) (fun x hx e => by omega) hu.out.size)⟩
        simp [exV]
      · obtain ⟨hF, hhF⟩ : ∃ hF, hF = (exF m m.length).hF := ⟨_, rfl⟩
        rw [← hhF]
        cases hF
        · have HH := hide hhF
          clear hhF
          go_wp2_with fail
          refine bodyPost_ret (v := .agg #[.int .i64 5, .int .i64 0, .string ⟨#[]⟩, .float .f64 0]) (by simp [results, Tryd.results70, go_sem, *]) rfl ?_
          refine ⟨?_, Below.trans hu.out.below (Chg.below (B := w.heap.size) (chg_set4 wr w.heap.size _ _ _ _) (fun x hx e => by omega) hu.out.size)⟩
          simp [exV, ← HH.out]
        · have HH := hide hhF
          clear hhF
          go_wp2_with fail
          go_at_call 83
          refine (rorder_calls _ hfw _).mono ?_
          rintro _ wa ⟨rfl, rfl⟩
          go_wp2_with fail
          obtain ⟨x, hxw, hxe⟩ := xor_nat IntKind.u64.max (ordN (exF m m.length).f : Int)
          rw [hxe]
          go_at_call 82
          refine (rof_calls x hxw _).mono ?_
          rintro _ wb ⟨rfl, rfl⟩
          have HXE := hide hxe
          clear hxe
          go_wp2_with fail
          refine bodyPost_ret (v := .agg #[.int .i64 5, .int .i64 0, .string ⟨#[]⟩, .float .f64 (ofN x)]) (by simp [results, Tryd.results70, go_sem, *]) rfl ?_
          refine ⟨?_, Below.trans hu.out.below (Chg.below (B := w.heap.size) (chg_set4 _ w.heap.size _ _ _ _) (fun x hx e => by omega) hu.out.size)⟩
          simp [exV, exNeg, ← HH.out, HXE.out]
      · go_wp2_with fail
        refine bodyPost_ret (v := .agg #[.int .i64 1, .int .i64 (bits .xor .i64 (m.length : Int) (exF m m.length).bit), .string ⟨#[]⟩, .float .f64 0]) (by simp [results, Tryd.results70, go_sem, *]) rfl ?_
        refine ⟨?_, Below.trans hu.out.below (Chg.below (B := w.heap.size) (chg_set4 wr w.heap.size _ _ _ _) (fun x hx e => by omega) hu.out.size)⟩
        simp [exV]

set_option maxRecDepth 20000 in
set_option maxHeartbeats 4000000 in
theorem rex_none (q : Int) (a : Option Addr) (c : Nat) (w : World) (hq : q = 0 ∨ q = 1 ∨ q = 2 ∨ q = 3) :
    Calls Tryd.prog 70 #[.int .i64 q, .slice a 0 c] w fun e w' => e = .returned (.agg #[.int .i64 (exV q []).1, .int .i64 (exV q []).2.1, .string (exV q []).2.2.1, .float .f64 (exV q []).2.2.2]) ∧ Up w w' := by
  have hx3 : bits .xor .i64 0 0 = 0 := by decide
  rcases hq with rfl | rfl | rfl | rfl
  · go_enter Tryd.func70, Tryd.ntmps70
    go_wp2_with fail
    refine wp_loop_rounds 1 ?_
    rw [rounds_succ]
    go_wp2_with fail
    refine bodyPost_ret (v := .agg #[.int .i64 1, .int .i64 0, .string ⟨#[]⟩, .float .f64 0]) (by simp [results, Tryd.results70, go_sem, *]) rfl ?_
    exact ⟨rfl, by first | exact ((Up.refl _).alloc _).alloc _ | exact Below.trans (((Up.refl w).alloc _).alloc _).below (Chg.below (B := w.heap.size) (chg_set4 _ w.heap.size _ _ _ _) (fun x hx e => by omega) (by simp; omega))⟩
  · go_enter Tryd.func70, Tryd.ntmps70
    go_wp2_with fail
    refine wp_loop_rounds 1 ?_
    rw [rounds_succ]
    go_wp2_with fail
    go_at_call 81
    refine (low_calls _ _ (by decide)).mono ?_
    rintro _ wa ⟨rfl, hua⟩
    have r0 : wa.cell? ⟨w.heap.size, 0, none⟩ = some (.int .i64 0) := hua.cell (by go_simp)
    have r1 : wa.cell? ⟨w.heap.size, 1, none⟩ = some (.int .i64 0) := hua.cell (by go_simp)
    have r2 : wa.cell? ⟨w.heap.size, 2, none⟩ = some (.string ⟨#[]⟩) := hua.cell (by go_simp)
    have r3 : wa.cell? ⟨w.heap.size, 3, none⟩ = some (.float .f64 0) := hua.cell (by go_simp)
    have f0 : wa.frozen? ⟨w.heap.size, 0, none⟩ = false := (hua.frozen (p := ⟨w.heap.size, 0, none⟩) (by simp; omega)).trans (by go_simp)
    have f1 : wa.frozen? ⟨w.heap.size, 1, none⟩ = false := (hua.frozen (p := ⟨w.heap.size, 1, none⟩) (by simp; omega)).trans (by go_simp)
    have f2 : wa.frozen? ⟨w.heap.size, 2, none⟩ = false := (hua.frozen (p := ⟨w.heap.size, 2, none⟩) (by simp; omega)).trans (by go_simp)
    have f3 : wa.frozen? ⟨w.heap.size, 3, none⟩ = false := (hua.frozen (p := ⟨w.heap.size, 3, none⟩) (by simp; omega)).trans (by go_simp)
    have HU : Hid (Up w wa) := (((Up.refl _).alloc _).alloc _).trans hua
    clear hua
    go_wp2_with fail
    refine bodyPost_ret (v := .agg #[.int .i64 3, .int .i64 0, .string (lowB ⟨#[]⟩), .float .f64 0]) (by simp [results, Tryd.results70, go_sem, *]) rfl ?_
    exact ⟨rfl, Below.trans HU.out.below (Chg.below (B := w.heap.size) (chg_set4 wa w.heap.size _ _ _ _) (fun x hx e => by omega) HU.out.size)⟩
  · go_enter Tryd.func70, Tryd.ntmps70
    go_wp2_with fail
    refine wp_loop_rounds 1 ?_
    rw [rounds_succ]
    go_wp2_with fail
    refine bodyPost_ret (v := .agg #[.int .i64 5, .int .i64 0, .string ⟨#[]⟩, .float .f64 0]) (by simp [results, Tryd.results70, go_sem, *]) rfl ?_
    exact ⟨rfl, by first | exact ((Up.refl _).alloc _).alloc _ | exact Below.trans (((Up.refl w).alloc _).alloc _).below (Chg.below (B := w.heap.size) (chg_set4 _ w.heap.size _ _ _ _) (fun x hx e => by omega) (by simp; omega))⟩
  · go_enter Tryd.func70, Tryd.ntmps70
    go_wp2_with fail
    refine wp_loop_rounds 1 ?_
    rw [rounds_succ]
    go_wp2_with fail
    refine bodyPost_ret (v := .agg #[.int .i64 1, .int .i64 0, .string ⟨#[]⟩, .float .f64 0]) (by simp [results, Tryd.results70, go_sem, *]) rfl ?_
    exact ⟨rfl, by first | exact ((Up.refl _).alloc _).alloc _ | exact Below.trans (((Up.refl w).alloc _).alloc _).below (Chg.below (B := w.heap.size) (chg_set4 _ w.heap.size _ _ _ _) (fun x hx e => by omega) (by simp; omega))⟩

theorem rex_calls (q : Int) (a : Option Addr) (n c : Nat) (m : List VT) (w : World) (hn : n ≤ 12) (hv : Vals w a n m) (hsh : ∀ i, (m.getD i zeroT).2.2.1.size ≤ 200) (hq : q = 0 ∨ q = 1 ∨ q = 2 ∨ q = 3) :
    Calls Tryd.prog 70 #[.int .i64 q, .slice a n c] w fun e w' => e = .returned (.agg #[.int .i64 (exV q m).1, .int .i64 (exV q m).2.1, .string (exV q m).2.2.1, .float .f64 (exV q m).2.2.2]) ∧ Up w w' := by
  rcases hv.2.2 with h0 | ⟨b, off, rfl, hx⟩
  · subst h0
    obtain rfl : m = [] := List.length_eq_zero_iff.1 hv.1
    exact rex_none q a c w hq
  · exact rex_some q b off n c m w hn hv.1 hv.2.1 hx hsh hq

theorem exV_f (q : Int) (m : List VT) : (exV q m).2.2.2 < whole := by
  unfold exV
  split
  · exact (by decide : 0 < whole)
  · split
    · exact (by decide : 0 < whole)
    · split
      · dsimp only
        split
        · obtain ⟨x, hx, he⟩ := xor_nat IntKind.u64.max (ordN (exF m m.length).f : Int)
          unfold exNeg
          rw [he]
          exact ofN_lt hx
        · exact (by decide : 0 < whole)
      · exact (by decide : 0 < whole)
theorem exV_s (q : Int) (m : List VT) (hf : ∀ i, (m.getD i zeroT).2.2.1.size ≤ 200) : (exV q m).2.2.1.size ≤ 200 := by
  unfold exV
  split
  · exact (by decide : (0 : Nat) ≤ 200)
  · split
    · dsimp only
      rw [lowB_size]
      exact exF_first m hf m.length (Nat.le_refl _)
    · split
      · exact (by decide : (0 : Nat) ≤ 200)
      · exact (by decide : (0 : Nat) ≤ 200)

end Go.Proofs.YtmlfkjmondkfnaaDoor

namespace Go.Proofs.YtmlfkjmondkfnaaDoor
open Go.ChangeShapes Go.WideShapes Go.ChangeAt Go.RowKit
set_option linter.unusedVariables false
attribute [local go_sem ↓] Go.wp_at_zero Go.wp_at_succ
attribute [local go_sem] run_store_float

/-- A row that may be written into: nothing of it lies below B. -/
def Lent (B : Nat) (w : World) (a : Option Addr) (n : Nat) (m : List VT) : Prop := Vals w a n m ∧ (∀ b, RowB a b → B ≤ b ∧ b < w.heap.size) ∧ (n = 0 ∨ ∃ G, a = some ⟨G, 0, none⟩ ∧ G < w.heap.size ∧ ∀ i, w.frozen? ⟨G, i, none⟩ = false)
theorem Handed.lent {B : Nat} {w : World} {a : Option Addr} {n : Nat} {m : List VT} (h : Handed B w a n m) : Lent B w a n m :=
  ⟨h.1, fun b hb => ⟨h.ge hb, (Nat.lt_or_ge b w.heap.size).elim id (fun h' => absurd hb (h.not (.inr h')))⟩, h.2.imp (fun h => h.1) (fun ⟨G, h1, h2, h3, h4⟩ => ⟨G, h1, h3, h4⟩)⟩
theorem Lent.ge {B : Nat} {w : World} {a : Option Addr} {n : Nat} {m : List VT} (h : Lent B w a n m) {b : Nat} (hb : RowB a b) : B ≤ b := (h.2.1 b hb).1
theorem Lent.chg {B : Nat} {C : Nat → Prop} {w w' : World} {a : Option Addr} {n : Nat} {m : List VT} (h : Lent B w a n m) (hc : Chg C w w') (hn : ∀ b, RowB a b → ¬ C b) : Lent B w' a n m := by
  refine ⟨h.1.chg hc hn, fun b hb => ⟨(h.2.1 b hb).1, Nat.lt_of_lt_of_le (h.2.1 b hb).2 hc.size⟩, h.2.2.imp id ?_⟩
  rintro ⟨G, rfl, h3, h4⟩
  exact ⟨G, rfl, Nat.lt_of_lt_of_le h3 hc.size, fun i => (hc.frozen (p := ⟨G, i, none⟩) h3 (hn G ⟨0, rfl⟩)).trans (h4 i)⟩
theorem Lent.up {B : Nat} {w w' : World} {a : Option Addr} {n : Nat} {m : List VT} (h : Lent B w a n m) (hu : Up w w') : Lent B w' a n m := h.chg (C := fun _ => False) (Chg.of_up hu) (fun _ _ => id)
theorem Lent.full {B : Nat} {w : World} {a : Option Addr} {n : Nat} {m : List VT} (h : Lent B w a n m) (hn : ¬ n = 0) : ∃ G, a = some ⟨G, 0, none⟩ ∧ B ≤ G ∧ G < w.heap.size ∧ Full w G n := by
  obtain ⟨G, h1, h2, h3⟩ := h.2.2.resolve_left hn
  have hh : Handed B w a n m := ⟨h.1, .inr ⟨G, h1, (h.2.1 G ⟨0, h1⟩).1, h2, h3⟩⟩
  exact hh.full hn

theorem xtr_enter (v : Value) (cap : Array Value) (w : World) : (callFunc 69 (#[v] ++ cap)).run Tryd.prog w = .ok (.enter 69 (#[v] ++ cap)) w := by
  simp [go_sem]

set_option maxRecDepth 20000 in
set_option maxHeartbeats 4000000 in
theorem xtr_err (mx nx mb : Nat) (q h : Int) (a : Value) (x : World) (k0 : x.cell? ⟨mx, 0, none⟩ = some (.pointer (some ⟨mb, 0, none⟩))) (hm : Met x mb 0 1 h 0) :
    Calls Tryd.prog 69 (#[a] ++ #[.pointer (some ⟨mx, 0, none⟩), .pointer (some ⟨nx, 0, none⟩)]) x fun e x' => ∃ k, e = .returned (.tuple #[.agg #[.int .i64 0, .int .i64 0, .string ⟨#[]⟩, .float .f64 0], .iface 23 (.pointer (some ⟨k, 0, none⟩))]) ∧ Chg (fun g => g = mb) x x' ∧ Met x' mb 1 1 h 1 ∧ x.heap.size ≤ k ∧ x'.cell? ⟨k, 0, none⟩ = some (.int .i64 1001) := by
  show Calls Tryd.prog 69 #[a, .pointer (some ⟨mx, 0, none⟩), .pointer (some ⟨nx, 0, none⟩)] x _
  have l0 : mx < x.heap.size := World.block_lt_of_cell? x _ k0
  have HM := hide hm
  clear hm
  go_enter Tryd.func69, Tryd.ntmps69
  go_wp2_with fail
  obtain ⟨X, hX⟩ : ∃ X, X = x.alloc (.cells #[.int .i64 0, .int .i64 0, .string ⟨#[]⟩, .float .f64 0] 58) := ⟨_, rfl⟩
  have uX : Hid (Up x X) := by rw [hX]; exact (Up.refl _).alloc _
  have bX : Hid (Box X x.heap.size (0, 0, ⟨#[]⟩, 0)) := by rw [hX]; exact ⟨⟨by go_simp, by go_simp, by go_simp, by go_simp⟩, fun i => by go_simp⟩
  rw [← hX]
  clear hX
  go_at_call 60
  refine (tick_1 mb h X (HM.out.up uX.out)).mono ?_
  rintro _ x1 ⟨k, rfl, hm1, hc1, hk, hk1⟩
  have hmb : mb < x.heap.size := World.block_lt_of_cell? x _ HM.out.1.1
  have B1 : Hid (Box x1 x.heap.size (0, 0, ⟨#[]⟩, 0)) := bX.out.chg hc1 (by omega)
  have HM1 := hide hm1
  have HC1 : Hid (Chg (fun g => g = mb) x x1) := Chg.trans (Chg.of_up uX.out) hc1 (fun g _ h => h)
  have HK : Hid (x.heap.size < k) := by
    show x.heap.size < k
    have := World.block_lt_of_cell? X _ bX.out.1.1
    simp at this
    omega
  have HK1 := hide hk1
  have r0 : x1.cell? ⟨x.heap.size, 0, none⟩ = some (.int .i64 0) := B1.out.1.1
  have r1 : x1.cell? ⟨x.heap.size, 1, none⟩ = some (.int .i64 0) := B1.out.1.2.1
  have r2 : x1.cell? ⟨x.heap.size, 2, none⟩ = some (.string ⟨#[]⟩) := B1.out.1.2.2.1
  have r3 : x1.cell? ⟨x.heap.size, 3, none⟩ = some (.float .f64 0) := B1.out.1.2.2.2
  have f0 := B1.out.2 0
  have f1 := B1.out.2 1
  have f2 := B1.out.2 2
  have f3 := B1.out.2 3
  clear hm1 hc1 hk hk1 B1 bX
  go_wp2_with fail
  refine bodyPost_ret (v := .tuple #[.agg #[.int .i64 0, .int .i64 0, .string ⟨#[]⟩, .float .f64 0], .iface 23 (.pointer (some ⟨k, 0, none⟩))]) (by simp [results, Tryd.results69, go_sem, *]) rfl ?_
  have h4 := chg_set4 x1 x.heap.size (.int .i64 0) (.int .i64 0) (.string ⟨#[]⟩) (.float .f64 0)
  refine ⟨k, rfl, HC1.out.trans h4 (fun g hg e => by omega), HM1.out.chg h4 (by omega), by have := HK.out; omega, h4.cell HK1.out (by have := HK.out; show ¬ k = x.heap.size; omega)⟩

set_option maxRecDepth 20000 in
set_option maxHeartbeats 4000000 in
theorem xtr_ok (mx nx mb : Nat) (q h : Int) (a' : Option Addr) (n c : Nat) (m : List VT) (B : Nat) (x : World) (hq : q = 0 ∨ q = 1 ∨ q = 2 ∨ q = 3) (hn : n ≤ 12) (hsh : ∀ i, (m.getD i zeroT).2.2.1.size ≤ 200) (ha : Lent B x a' n m) (hmB : mb < B) (hxB : mx < B) (hnB : nx < B) (hne : ¬ nx = mb) (k0 : x.cell? ⟨mx, 0, none⟩ = some (.pointer (some ⟨mb, 0, none⟩))) (k1 : x.cell? ⟨nx, 0, none⟩ = some (.int .i64 q)) (hm : Met x mb 0 0 h 0) :
    Calls Tryd.prog 69 (#[.slice a' n c] ++ #[.pointer (some ⟨mx, 0, none⟩), .pointer (some ⟨nx, 0, none⟩)]) x fun e x' => e = .returned (.tuple #[.agg #[.int .i64 (exV q m).1, .int .i64 (exV q m).2.1, .string (exV q m).2.2.1, .float .f64 (exV q m).2.2.2], .nilIface]) ∧ Chg (fun g => g = mb ∨ RowB a' g) x x' ∧ Met x' mb 1 0 h 0 := by
  show Calls Tryd.prog 69 #[.slice a' n c, .pointer (some ⟨mx, 0, none⟩), .pointer (some ⟨nx, 0, none⟩)] x _
  have HX : Hid (∀ y, Vals y a' n m → Calls Tryd.prog 70 #[.int .i64 q, .slice a' n c] y fun e w' => e = .returned (.agg #[.int .i64 (exV q m).1, .int .i64 (exV q m).2.1, .string (exV q m).2.2.1, .float .f64 (exV q m).2.2.2]) ∧ Up y w') := fun y hv => rex_calls q a' n c m y hn hv hsh hq
  clear hq hsh
  obtain ⟨⟨rk, rz, rt, rf⟩, hR⟩ : ∃ r, r = exV q m := ⟨_, rfl⟩
  rw [← hR] at HX ⊢
  clear hR
  dsimp only at HX ⊢
  have l0 : mx < x.heap.size := World.block_lt_of_cell? x _ k0
  have l1 : nx < x.heap.size := World.block_lt_of_cell? x _ k1
  have HM := hide hm
  have HA := hide ha
  clear hm ha
  go_enter Tryd.func69, Tryd.ntmps69
  go_wp2_with fail
  obtain ⟨X, hX⟩ : ∃ X, X = x.alloc (.cells #[.int .i64 0, .int .i64 0, .string ⟨#[]⟩, .float .f64 0] 58) := ⟨_, rfl⟩
  have uX : Hid (Up x X) := by rw [hX]; exact (Up.refl _).alloc _
  have bX : Hid (Box X x.heap.size (0, 0, ⟨#[]⟩, 0)) := by rw [hX]; exact ⟨⟨by go_simp, by go_simp, by go_simp, by go_simp⟩, fun i => by go_simp⟩
  rw [← hX]
  clear hX
  go_at_call 60
  refine (tick_0 mb h X (HM.out.up uX.out)).mono ?_
  rintro _ x1 ⟨rfl, hm1, hc1⟩
  have hmb : mb < x.heap.size := World.block_lt_of_cell? x _ HM.out.1.1
  have B1 : Hid (Box x1 x.heap.size (0, 0, ⟨#[]⟩, 0)) := bX.out.chg hc1 (by omega)
  have HM1 := hide hm1
  have HC1 : Hid (Chg (fun g => g = mb) x x1) := Chg.trans (Chg.of_up uX.out) hc1 (fun g _ h => h)
  have j1 := HC1.out.cell k1 hne
  have HA1 : Hid (Lent B x1 a' n m) := HA.out.chg HC1.out (fun g hg e => by have := HA.out.ge hg; omega)
  clear hm1 hc1 bX k0 k1
  go_wp2_with fail
  go_at_call 70
  refine (HX.out x1 HA1.out.1).mono ?_
  rintro _ x2 ⟨rfl, hu2⟩
  have HM2 := hide (HM1.out.up hu2)
  have HC2 : Hid (Chg (fun g => g = mb ∨ RowB a' g) x x2) := (HC1.out.mono (fun g _ h => Or.inl h)).andUp hu2
  have HA2 := hide (HA1.out.up hu2)
  have B2 := hide (B1.out.up hu2)
  have hlt2 : x.heap.size < x2.heap.size := World.block_lt_of_cell? x2 _ B2.out.1.1
  clear hu2 HX HM1 HC1 HA1 B1 j1
  go_wp2_with fail
  obtain ⟨Y, hY⟩ : ∃ Y, Y = x2.alloc (.cells #[.int .i64 rk, .int .i64 rz, .string rt, .float .f64 rf] 58) := ⟨_, rfl⟩
  have uY : Hid (Up x2 Y) := by rw [hY]; exact (Up.refl _).alloc _
  have bY : Hid (Box Y x2.heap.size (rk, rz, rt, rf)) := by rw [hY]; exact ⟨⟨by go_simp, by go_simp, by go_simp, by go_simp⟩, fun i => by go_simp⟩
  rw [← hY]
  clear hY
  have F3 : Hid (∀ G, a' = some ⟨G, 0, none⟩ → n ≠ 0 → Full Y G n ∧ B ≤ G ∧ G < x.heap.size) := by
    intro G hG h0
    obtain ⟨G', e1, e2, e3, e4⟩ := HA2.out.full h0
    obtain ⟨G'', e1', e2', e3', _⟩ := HA.out.full h0
    rw [hG] at e1 e1'
    cases e1
    cases e1'
    exact ⟨e4.chg (C := fun _ => False) (Chg.of_up uY.out) e3 id, e2, e3'⟩
  go_loopw [8] (fun i wr => ∃ k : Nat, k ≤ n ∧ i = .int .i64 k ∧ Chg (fun g => g = mb ∨ RowB a' g) x wr ∧ Met wr mb 1 0 h 0 ∧ Box wr x.heap.size (0, 0, ⟨#[]⟩, 0) ∧ Box wr x2.heap.size (rk, rz, rt, rf) ∧ ∀ G, a' = some ⟨G, 0, none⟩ → n ≠ 0 → Full wr G n ∧ B ≤ G ∧ G < x.heap.size) (fun i _ => n - (intOf i).toNat)
  case atStart => exact ⟨0, Nat.zero_le _, rfl, HC2.out.andUp uY.out, HM2.out.up uY.out, B2.out.up uY.out, bY.out, F3.out⟩
  case round =>
    clear F3 bY uY HC2 HM2 B2 HA2
    obtain ⟨k, hk, rfl, hc, hmm, hb1, hb2, hF⟩ := hrel
    have HC := hide hc
    have HMM := hide hmm
    have HB1 := hide hb1
    have HB2 := hide hb2
    clear hc hmm hb1 hb2
    by_cases hlt : k < n
    · have t0 : decide ((k : Int) < n) = true := decide_eq_true (by omega)
      obtain ⟨G, rfl, _, _, _⟩ := HA.out.full (by omega)
      obtain ⟨hfu, hBG, hGx⟩ := hF G rfl (by omega)
      have HF := hide hfu
      obtain ⟨v0, y0⟩ := hfu.1 (k * 4) (by omega)
      obtain ⟨v1, y1⟩ := hfu.1 (k * 4 + 1) (by omega)
      obtain ⟨v2, y2⟩ := hfu.1 (k * 4 + 2) (by omega)
      obtain ⟨v3, y3⟩ := hfu.1 (k * 4 + 3) (by omega)
      have q0 := hfu.2 (k * 4)
      have q1 := hfu.2 (k * 4 + 1)
      have q2 := hfu.2 (k * 4 + 2)
      have q3 := hfu.2 (k * 4 + 3)
      have hkn : (k : Int) < n := by omega
      have hn63 : n ≤ 2 ^ 63 - 1 := by omega
      clear hfu hF
      go_wp2_with fail
      have h4 : Chg (fun g => g = G) wr ((((wr.setCell ⟨G, k * 4, none⟩ (.int .i64 0)).setCell ⟨G, k * 4 + 1, none⟩ (.int .i64 0)).setCell ⟨G, k * 4 + 2, none⟩ (.string ⟨#[]⟩)).setCell ⟨G, k * 4 + 3, none⟩ (.float .f64 0)) :=
        Chg.set' (C := fun g => g = G) _ _ rfl (Chg.set' (C := fun g => g = G) _ _ rfl (Chg.set' (C := fun g => g = G) _ _ rfl (Chg.set' (C := fun g => g = G) _ _ rfl (Chg.refl _ wr))))
      refine ⟨⟨k + 1, by omega, by go_num, HC.out.trans h4 (fun g _ e => Or.inr ⟨0, by rw [e]⟩), HMM.out.chg h4 (by omega), HB1.out.chg h4 (by omega), HB2.out.chg h4 (by omega), ?_⟩, by simp [intOf]; omega⟩
      intro G' hG' _
      cases hG'
      exact ⟨(((HF.out.set _ _).set _ _).set _ _).set _ _, hBG, hGx⟩
    · obtain rfl : k = n := by omega
      have t0 : decide ((k : Int) < k) = false := decide_eq_false (by omega)
      have r0 : wr.cell? ⟨x.heap.size, 0, none⟩ = some (.int .i64 0) := HB1.out.1.1
      have r1 : wr.cell? ⟨x.heap.size, 1, none⟩ = some (.int .i64 0) := HB1.out.1.2.1
      have r2 : wr.cell? ⟨x.heap.size, 2, none⟩ = some (.string ⟨#[]⟩) := HB1.out.1.2.2.1
      have r3 : wr.cell? ⟨x.heap.size, 3, none⟩ = some (.float .f64 0) := HB1.out.1.2.2.2
      have f0 := HB1.out.2 0
      have f1 := HB1.out.2 1
      have f2 := HB1.out.2 2
      have f3 := HB1.out.2 3
      have s0 : wr.cell? ⟨x2.heap.size, 0, none⟩ = some (.int .i64 rk) := HB2.out.1.1
      have s1 : wr.cell? ⟨x2.heap.size, 1, none⟩ = some (.int .i64 rz) := HB2.out.1.2.1
      have s2 : wr.cell? ⟨x2.heap.size, 2, none⟩ = some (.string rt) := HB2.out.1.2.2.1
      have s3 : wr.cell? ⟨x2.heap.size, 3, none⟩ = some (.float .f64 rf) := HB2.out.1.2.2.2
      clear hF
      go_wp2_with fail
      refine bodyPost_ret (v := .tuple #[.agg #[.int .i64 rk, .int .i64 rz, .string rt, .float .f64 rf], .nilIface]) (by simp [results, Tryd.results69, go_sem, *]) rfl ?_
      have h4 := chg_set4 wr x.heap.size (.int .i64 rk) (.int .i64 rz) (.string rt) (.float .f64 rf)
      exact ⟨rfl, HC.out.trans h4 (fun g hg e => by omega), HMM.out.chg h4 (by omega)⟩

end Go.Proofs.YtmlfkjmondkfnaaDoor

namespace Go.Proofs.YtmlfkjmondkfnaaDoor
open Go.ChangeShapes Go.WideShapes Go.ChangeAt Go.RowKit
set_option linter.unusedVariables false
attribute [local go_sem ↓] Go.wp_at_zero Go.wp_at_succ

def szF (m : List VT) (k : Nat) : Int := (m.take k).foldl (fun s v => s + (v.2.2.1.size : Int)) 0
theorem szF_succ (m : List VT) (k : Nat) (h : k < m.length) : szF m (k + 1) = szF m k + ((m.getD k zeroT).2.2.1.size : Int) := by
  unfold szF
  rw [List.take_add_one, List.getElem?_eq_getElem h, Option.toList_some, List.foldl_append, List.getD_eq_getElem?_getD, List.getElem?_eq_getElem h]
  rfl
theorem szF_bound (m : List VT) (hf : ∀ i, (m.getD i zeroT).2.2.1.size ≤ 200) (k : Nat) : k ≤ m.length → 0 ≤ szF m k ∧ szF m k ≤ 200 * k := by
  induction k with
  | zero => intro _; exact ⟨Int.le_refl _, Int.le_refl _⟩
  | succ k ih =>
    intro hk
    rw [szF_succ m k (by omega)]
    have h := ih (by omega)
    have h2 := hf k
    omega

set_option maxRecDepth 20000 in
set_option maxHeartbeats 4000000 in
theorem size_some (b off n c : Nat) (m : List VT) (w : World) (hn : n ≤ 12) (hm : m.length = n) (hx : ∀ i, i < n → At w b (off + i * 4) (m.getD i zeroT)) (hsh : ∀ i, (m.getD i zeroT).2.2.1.size ≤ 200) :
    Calls Tryd.prog 84 #[.slice (some ⟨b, off, none⟩) n c] w fun e w' => e = .returned (.int .i64 (szF m n)) ∧ w' = w := by
  have HX := hide hx
  have HM := hide hm
  have HSH := hide hsh
  clear hx hm hsh
  have hN : n ≤ 2 ^ 63 - 1 := by omega
  go_enter Tryd.func84, Tryd.ntmps84
  go_wp2_with fail
  go_loopw [3, 4] (fun s i wr => ∃ k : Nat, k ≤ n ∧ i = .int .i64 k ∧ s = .int .i64 (szF m k) ∧ wr = w) (fun _ i _ => n - (intOf i).toNat)
  case atStart => exact ⟨0, Nat.zero_le _, rfl, rfl, rfl⟩
  case round =>
    obtain ⟨k, hk, rfl, rfl, rfl⟩ := hrel
    by_cases hlt : k < n
    · have t0 : decide ((k : Int) < n) = true := decide_eq_true (by omega)
      have hkn : (k : Int) < n := by omega
      obtain ⟨c0, c1, c2, c3⟩ := HX.out k hlt
      have hsz := HSH.out k
      have hs1 := szF_succ m k (by rw [HM.out]; exact hlt)
      have hs2 := szF_bound m HSH.out k (by rw [HM.out]; omega)
      have HS1 := hide hs1
      have g1 := hs2.1
      have g2 := hs2.2
      clear hs1 hs2 c0 c1 c3
      obtain ⟨ss, hss⟩ : ∃ ss, ss = (m.getD k zeroT).2.2.1 := ⟨_, rfl⟩
      rw [← hss] at c2 hsz
      have HSS := hide hss
      clear hss
      obtain ⟨sf, hsf⟩ : ∃ sf, sf = szF m k := ⟨_, rfl⟩
      rw [← hsf] at g1 g2 ⊢
      have HSF := hide hsf
      clear hsf
      go_wp2_with fail
      go_roundw
      case rel => exact ⟨k + 1, by omega, by go_num, by rw [HS1.out, ← HSF.out, ← HSS.out], trivial⟩
      case measure => simp [intOf]; omega
    · obtain rfl : k = n := by omega
      have t0 : decide ((k : Int) < k) = false := decide_eq_false (by omega)
      go_wp2
      go_ret
      exact ⟨rfl, rfl⟩

theorem size_none (a : Option Addr) (c : Nat) (w : World) :
    Calls Tryd.prog 84 #[.slice a 0 c] w fun e w' => e = .returned (.int .i64 0) ∧ w' = w := by
  go_enter Tryd.func84, Tryd.ntmps84
  go_wp2_with fail
  refine wp_loop_rounds 1 ?_
  rw [rounds_succ]
  go_wp2
  go_ret
  exact ⟨rfl, rfl⟩
theorem size_calls (a : Option Addr) (n c : Nat) (m : List VT) (w : World) (hn : n ≤ 12) (hv : Vals w a n m) (hsh : ∀ i, (m.getD i zeroT).2.2.1.size ≤ 200) :
    Calls Tryd.prog 84 #[.slice a n c] w fun e w' => e = .returned (.int .i64 (szF m m.length)) ∧ w' = w := by
  rcases hv.2.2 with h0 | ⟨b, off, rfl, hx⟩
  · subst h0
    obtain rfl : m = [] := List.length_eq_zero_iff.1 hv.1
    exact size_none a c w
  · have := hv.1
    subst this
    exact size_some b off _ c m w hn rfl hx hsh

set_option maxRecDepth 20000 in
set_option maxHeartbeats 4000000 in
theorem rcx_0 (a b : Option Addr) (n c p d : Nat) (m l : List VT) (w : World) (hn : n ≤ 12) (hp : p ≤ 12) (hv : Vals w a n m) (hw : Vals w b p l) :
    Calls Tryd.prog 72 #[.int .i64 0, .slice a n c, .slice b p d] w fun e w' => e = .returned (.int .i64 (wrap64 (- rowsV m l))) ∧ Up w w' := by
  have HR := hide (rvrows_calls a b n p c d m l w (by unfold maxLen; omega) (by unfold maxLen; omega) hv hw)
  clear hv hw
  go_enter Tryd.func72, Tryd.ntmps72
  go_wp2_with fail
  go_at_call 51
  refine HR.out.mono ?_
  rintro _ w1 ⟨rfl, hu1⟩
  have HU := hide hu1
  clear hu1 HR
  go_wp2
  go_ret
  exact ⟨rfl, HU.out⟩

theorem take_min (m : List VT) (n : Nat) (h : m.length = n) : m.take (min 1 n) = m.take 1 := by
  cases m with
  | nil => rw [List.take_nil, List.take_nil]
  | cons v t => rw [show min 1 n = 1 by simp at h; omega]
theorem min_cast (n : Nat) : min (1 : Int) (n : Int) = ((min 1 n : Nat) : Int) := by omega

set_option maxRecDepth 20000 in
set_option maxHeartbeats 4000000 in
theorem rcx_1 (a b : Option Addr) (n p : Nat) (m l : List VT) (w : World) (hn : n ≤ 12) (hp : p ≤ 12) (hv : Vals w a n m) (hw : Vals w b p l) :
    Calls Tryd.prog 72 #[.int .i64 1, .slice a n n, .slice b p p] w fun e w' => e = .returned (.int .i64 (rowsV (m.take 1) (l.take 1))) ∧ Up w w' := by
  have e1 := take_min m n hv.1
  have e2 := take_min l p hw.1
  have HV := hide (hv.take (min 1 n) (by omega))
  have HW := hide (hw.take (min 1 p) (by omega))
  rw [e1] at HV
  rw [e2] at HW
  have m1 := min_cast n
  have m2 := min_cast p
  obtain ⟨k, hk⟩ : ∃ k, k = min 1 n := ⟨_, rfl⟩
  obtain ⟨j, hj⟩ : ∃ j, j = min 1 p := ⟨_, rfl⟩
  have k1 : k ≤ n := by omega
  have k2 : j ≤ p := by omega
  have k3 : k ≤ 1 := by omega
  have k4 : j ≤ 1 := by omega
  rw [← hk] at HV m1
  rw [← hj] at HW m2
  clear hv hw e1 e2 hk hj
  go_enter Tryd.func72, Tryd.ntmps72
  go_wp2_with fail
  refine region_up (by kernel_rfl) (by kernel_rfl) ?_
  repeat (first
    | go_big_quiet_skip
    | (go_big_quiet_want; go_big_quiet_op; go_big_quiet_on)
    | (go_big_quiet_want
       apply Exists.intro
       refine ⟨fun w' hw' => ?_, ?_⟩
       (skip
        go_simp
        first
        | done
        | with_reducible rfl
        | (go_at_call 51; exact quiet_call hw' (rvrows_calls a b k j _ _ (m.take 1) (l.take 1) w' (by unfold maxLen; omega) (by unfold maxLen; omega) (HV.out.up hw') (HW.out.up hw')))
       )
       go_big_quiet_on
       try simp only [Act.put, List.setIfInBounds_toArray, List.set_cons_zero, List.set_cons_succ]))
  refine wpQuiet_nil ?_
  intro w8 hu8
  have HU := hide hu8
  clear hu8
  go_wp2
  go_ret
  exact ⟨rfl, HU.out⟩

set_option maxRecDepth 20000 in
set_option maxHeartbeats 4000000 in
theorem rcx_2 (a b : Option Addr) (n p : Nat) (m l : List VT) (w : World) (hn : n ≤ 12) (hp : p ≤ 12) (hv : Vals w a n m) (hw : Vals w b p l) (hsh : ∀ i, (m.getD i zeroT).2.2.1.size ≤ 200) (hsl : ∀ i, (l.getD i zeroT).2.2.1.size ≤ 200) :
    Calls Tryd.prog 72 #[.int .i64 2, .slice a n n, .slice b p p] w fun e w' => ∃ r, e = .returned (.int .i64 r) ∧ Up w w' ∧ r = if szF m m.length = szF l l.length then rowsV m l else if szF m m.length < szF l l.length then -1 else 1 := by
  have HV := hide hv
  have HW := hide hw
  have HS1 := hide (size_calls a n n m w hn hv hsh)
  have HS2 := hide (size_calls b p p l w hp hw hsl)
  clear hv hw hsh hsl
  obtain ⟨x, hx⟩ : ∃ x, x = szF m m.length := ⟨_, rfl⟩
  obtain ⟨y, hy⟩ : ∃ y, y = szF l l.length := ⟨_, rfl⟩
  rw [← hx] at HS1 ⊢
  rw [← hy] at HS2 ⊢
  clear hx hy
  by_cases h1 : x = y
  · subst h1
    rw [if_pos rfl]
    go_enter Tryd.func72, Tryd.ntmps72
    go_wp2_with fail
    go_at_call 84
    refine HS1.out.mono ?_
    rintro _ w1 ⟨rfl, rfl⟩
    go_wp2_with fail
    go_at_call 84
    refine HS2.out.mono ?_
    rintro _ w2 ⟨rfl, rfl⟩
    go_wp2_with fail
    go_at_call 51
    refine (rvrows_calls a b n p n p m l _ (by unfold maxLen; omega) (by unfold maxLen; omega) HV.out HW.out).mono ?_
    rintro _ w3 ⟨rfl, hu⟩
    have HU := hide hu
    clear hu
    go_wp2
    go_ret
    exact ⟨_, rfl, HU.out, rfl⟩
  · rw [if_neg h1]
    have t1 : (x == y) = false := by rw [beq_eq_false_iff_ne]; exact h1
    have t1' : (x != y) = true := by rw [bne_iff_ne]; exact h1
    by_cases h2 : x < y
    · rw [if_pos h2]
      have t2 : decide (x < y) = true := decide_eq_true h2
      clear h1 h2
      go_enter Tryd.func72, Tryd.ntmps72
      go_wp2_with fail
      go_at_call 84
      refine HS1.out.mono ?_
      rintro _ w1 ⟨rfl, rfl⟩
      go_wp2_with fail
      go_at_call 84
      refine HS2.out.mono ?_
      rintro _ w2 ⟨rfl, rfl⟩
      go_wp2
      go_ret
      exact ⟨_, rfl, Up.refl _, rfl⟩
    · rw [if_neg h2]
      have t2 : decide (x < y) = false := decide_eq_false h2
      clear h1 h2
      go_enter Tryd.func72, Tryd.ntmps72
      go_wp2_with fail
      go_at_call 84
      refine HS1.out.mono ?_
      rintro _ w1 ⟨rfl, rfl⟩
      go_wp2_with fail
      go_at_call 84
      refine HS2.out.mono ?_
      rintro _ w2 ⟨rfl, rfl⟩
      go_wp2
      go_ret
      exact ⟨_, rfl, Up.refl _, rfl⟩

/-- What a comparator with a number tells. -/
def cxV (q : Int) (m l : List VT) : Int := if q = 0 then wrap64 (- rowsV m l) else if q = 1 then rowsV (m.take 1) (l.take 1) else if szF m m.length = szF l l.length then rowsV m l else if szF m m.length < szF l l.length then -1 else 1
theorem rcx_calls (q : Int) (a b : Option Addr) (n p : Nat) (m l : List VT) (w : World) (hq : q = 0 ∨ q = 1 ∨ q = 2) (hn : n ≤ 12) (hp : p ≤ 12) (hv : Vals w a n m) (hw : Vals w b p l) (hsh : ∀ i, (m.getD i zeroT).2.2.1.size ≤ 200) (hsl : ∀ i, (l.getD i zeroT).2.2.1.size ≤ 200) :
    Calls Tryd.prog 72 #[.int .i64 q, .slice a n n, .slice b p p] w fun e w' => e = .returned (.int .i64 (cxV q m l)) ∧ Up w w' := by
  rcases hq with rfl | rfl | rfl
  · exact rcx_0 a b n n p p m l w hn hp hv hw
  · exact rcx_1 a b n p m l w hn hp hv hw
  · refine (rcx_2 a b n p m l w hn hp hv hw hsh hsl).mono ?_
    rintro _ w' ⟨r, rfl, hu, hr⟩
    subst hr
    exact ⟨rfl, hu⟩

theorem cpr_enter (v v' : Value) (cap : Array Value) (w : World) : (callFunc 71 (#[v, v'] ++ cap)).run Tryd.prog w = .ok (.enter 71 (#[v, v'] ++ cap)) w := by
  simp [go_sem]

set_option maxRecDepth 20000 in
set_option maxHeartbeats 4000000 in
theorem cpr_err (mx nx mb : Nat) (h : Int) (a b : Value) (x : World) (k0 : x.cell? ⟨mx, 0, none⟩ = some (.pointer (some ⟨mb, 0, none⟩))) (hm : Met x mb 0 1 h 0) :
    Calls Tryd.prog 71 (#[a, b] ++ #[.pointer (some ⟨mx, 0, none⟩), .pointer (some ⟨nx, 0, none⟩)]) x fun e x' => ∃ k, e = .returned (.tuple #[.int .i64 0, .iface 23 (.pointer (some ⟨k, 0, none⟩))]) ∧ Chg (fun g => g = mb) x x' ∧ Met x' mb 1 1 h 1 ∧ x.heap.size ≤ k ∧ x'.cell? ⟨k, 0, none⟩ = some (.int .i64 1001) := by
  show Calls Tryd.prog 71 #[a, b, .pointer (some ⟨mx, 0, none⟩), .pointer (some ⟨nx, 0, none⟩)] x _
  have HM := hide hm
  clear hm
  go_enter Tryd.func71, Tryd.ntmps71
  go_wp2_with fail
  go_at_call 60
  refine (tick_1 mb h x HM.out).mono ?_
  rintro _ x1 ⟨k, rfl, hm1, hc1, hk, hk1⟩
  have HH : Hid (Chg (fun g => g = mb) x x1 ∧ Met x1 mb 1 1 h 1 ∧ x.heap.size ≤ k ∧ x1.cell? ⟨k, 0, none⟩ = some (.int .i64 1001)) := ⟨hc1, hm1, hk, hk1⟩
  clear hm1 hc1 hk hk1
  go_wp2
  go_ret2
  exact ⟨k, rfl, HH.out⟩

set_option maxRecDepth 20000 in
set_option maxHeartbeats 4000000 in
theorem cpr_ok (mx nx mb : Nat) (q h : Int) (a b : Option Addr) (n p : Nat) (m l : List VT) (x : World) (hq : q = 0 ∨ q = 1 ∨ q = 2) (hn : n ≤ 12) (hp : p ≤ 12) (hv : Vals x a n m) (hw : Vals x b p l) (ha : ¬ RowB a mb) (hb : ¬ RowB b mb) (hsh : ∀ i, (m.getD i zeroT).2.2.1.size ≤ 200) (hsl : ∀ i, (l.getD i zeroT).2.2.1.size ≤ 200) (hne : ¬ nx = mb) (k0 : x.cell? ⟨mx, 0, none⟩ = some (.pointer (some ⟨mb, 0, none⟩))) (k1 : x.cell? ⟨nx, 0, none⟩ = some (.int .i64 q)) (hm : Met x mb 0 0 h 0) :
    Calls Tryd.prog 71 (#[.slice a n n, .slice b p p] ++ #[.pointer (some ⟨mx, 0, none⟩), .pointer (some ⟨nx, 0, none⟩)]) x fun e x' => e = .returned (.tuple #[.int .i64 (wrap64 (7 * cxV q m l)), .nilIface]) ∧ Chg (fun g => g = mb) x x' ∧ Met x' mb 1 0 h 0 := by
  show Calls Tryd.prog 71 #[.slice a n n, .slice b p p, .pointer (some ⟨mx, 0, none⟩), .pointer (some ⟨nx, 0, none⟩)] x _
  have HR : Hid (∀ y, Vals y a n m → Vals y b p l → Calls Tryd.prog 72 #[.int .i64 q, .slice a n n, .slice b p p] y fun e w' => e = .returned (.int .i64 (cxV q m l)) ∧ Up y w') := fun y h1 h2 => rcx_calls q a b n p m l y hq hn hp h1 h2 hsh hsl
  obtain ⟨r, hr⟩ : ∃ r, r = cxV q m l := ⟨_, rfl⟩
  rw [← hr] at HR ⊢
  have HM := hide hm
  have HV := hide hv
  have HW := hide hw
  have HNA := hide ha
  have HNB := hide hb
  clear hr hm hv hw ha hb hsh hsl hq
  go_enter Tryd.func71, Tryd.ntmps71
  go_wp2_with fail
  go_at_call 60
  refine (tick_0 mb h x HM.out).mono ?_
  rintro _ x1 ⟨rfl, hm1, hc1⟩
  have j1 := hc1.cell k1 hne
  have HV1 : Hid (Vals x1 a n m) := HV.out.chg hc1 (fun g hg e => HNA.out (by rw [← show g = mb from e]; exact hg))
  have HW1 : Hid (Vals x1 b p l) := HW.out.chg hc1 (fun g hg e => HNB.out (by rw [← show g = mb from e]; exact hg))
  have HM1 := hide hm1
  have HC1 := hide hc1
  clear hm1 hc1 k0 k1
  go_wp2_with fail
  go_at_call 72
  refine (HR.out x1 HV1.out HW1.out).mono ?_
  rintro _ x2 ⟨rfl, hu⟩
  have HH : Hid (Chg (fun g => g = mb) x x2 ∧ Met x2 mb 1 0 h 0) := ⟨HC1.out.andUp hu, HM1.out.up hu⟩
  clear hu HR
  go_wp2
  go_ret2
  exact ⟨rfl, HH.out⟩

end Go.Proofs.YtmlfkjmondkfnaaDoor

namespace Go.Proofs.YtmlfkjmondkfnaaDoor
open Go.ChangeShapes Go.WideShapes Go.ChangeAt Go.RowKit
set_option linter.unusedVariables false
attribute [local go_sem ↓] Go.wp_at_zero Go.wp_at_succ
attribute [local go_sem] run_store_float

/-- A row with one value set, or one value more. -/
def setV (m : List VT) (q : Int) (v : VT) : List VT := if 0 ≤ q ∧ q < m.length then m.set q.toNat v else m ++ [v]
theorem setV_length (m : List VT) (q : Int) (v : VT) : (setV m q v).length ≤ m.length + 1 := by
  unfold setV
  split
  · simp
  · simp
theorem setV_all (P : VT → Prop) (m : List VT) (q : Int) (v : VT) (hz : P zeroT) (h : ∀ i, P (m.getD i zeroT)) (hv : P v) (i : Nat) : P ((setV m q v).getD i zeroT) := by
  unfold setV
  split
  · rw [List.getD_eq_getElem?_getD, List.getElem?_set]
    split
    · split
      · exact hv
      · exact hz
    · rw [← List.getD_eq_getElem?_getD]
      exact h i
  · by_cases hi : i < m.length
    · rw [List.getD_eq_getElem?_getD, List.getElem?_append_left hi, ← List.getD_eq_getElem?_getD]
      exact h i
    · rw [List.getD_eq_getElem?_getD, List.getElem?_append_right (by omega)]
      by_cases h2 : i - m.length = 0
      · rw [h2]; exact hv
      · rw [List.getElem?_eq_none (by simp; omega)]; exact hz

theorem set_row {w : World} {g : Nat} {m : List VT} (hv : Vals w (some ⟨g, 0, none⟩) m.length m) (j : Nat) (hj : j < m.length) (k z : Int) (t : ByteArray) (f : Nat) (hf : Fits (k, z, t, f)) :
    Vals ((((w.setCell ⟨g, j * 4, none⟩ (.int .i64 k)).setCell ⟨g, j * 4 + 1, none⟩ (.int .i64 z)).setCell ⟨g, j * 4 + 2, none⟩ (.string t)).setCell ⟨g, j * 4 + 3, none⟩ (.float .f64 f)) (some ⟨g, 0, none⟩) m.length (m.set j (k, z, t, f)) := by
  refine ⟨by simp, fun i => ?_, .inr ⟨g, 0, rfl, fun i hi => ?_⟩⟩
  · rw [List.getD_eq_getElem?_getD, List.getElem?_set]
    split
    · first
        | exact hf
        | (split
           · exact hf
           · exact fits_zero)
    · rw [← List.getD_eq_getElem?_getD]
      exact hv.2.1 i
  · have hx : ∀ i, i < m.length → At w g (i * 4) (m.getD i zeroT) := by
      rcases hv.2.2 with h | ⟨b, o, h1, h2⟩
      · omega
      · cases h1
        intro i hi
        have := h2 i hi
        rw [Nat.zero_add] at this
        exact this
    rw [Nat.zero_add]
    by_cases hij : i = j
    · subst hij
      obtain ⟨h0, h1, h2, h3⟩ := hx i hi
      have e : (m.set i (k, z, t, f)).getD i zeroT = (k, z, t, f) := by
        rw [List.getD_eq_getElem?_getD, List.getElem?_set_self hi]
        rfl
      rw [e]
      exact ⟨by go_simp, by go_simp, by go_simp, by go_simp⟩
    · have e : (m.set j (k, z, t, f)).getD i zeroT = m.getD i zeroT := by
        rw [List.getD_eq_getElem?_getD, List.getElem?_set_ne (by omega), ← List.getD_eq_getElem?_getD]
      rw [e]
      obtain ⟨h0, h1, h2, h3⟩ := hx i hi
      have ho : ∀ (o d : Nat) (W : World) (v : Value), o < 4 → d < 4 → (W.setCell ⟨g, j * 4 + d, none⟩ v).cell? ⟨g, i * 4 + o, none⟩ = W.cell? ⟨g, i * 4 + o, none⟩ := fun o d W v ho hd => World.cell?_setCell_other _ _ _ _ (by intro e; have := congrArg Addr.off e; simp at this; omega)
      have ho' : ∀ (o : Nat) (W : World) (v : Value), o < 4 → (W.setCell ⟨g, j * 4, none⟩ v).cell? ⟨g, i * 4 + o, none⟩ = W.cell? ⟨g, i * 4 + o, none⟩ := fun o W v h => ho o 0 W v h (by omega)
      have q : ∀ o, o < 4 → ((((w.setCell ⟨g, j * 4, none⟩ (.int .i64 k)).setCell ⟨g, j * 4 + 1, none⟩ (.int .i64 z)).setCell ⟨g, j * 4 + 2, none⟩ (.string t)).setCell ⟨g, j * 4 + 3, none⟩ (.float .f64 f)).cell? ⟨g, i * 4 + o, none⟩ = w.cell? ⟨g, i * 4 + o, none⟩ := fun o h => by
        rw [ho o 3 _ _ h (by omega), ho o 2 _ _ h (by omega), ho o 1 _ _ h (by omega), ho' o _ _ h]
      exact ⟨(q 0 (by omega)).trans h0, (q 1 (by omega)).trans h1, (q 2 (by omega)).trans h2, (q 3 (by omega)).trans h3⟩

set_option maxRecDepth 20000 in
set_option maxHeartbeats 4000000 in
theorem set_calls (a : Option Addr) (n c : Nat) (m : List VT) (q k z : Int) (t : ByteArray) (f : Nat) (w : World) (hn : n ≤ 12) (hv : Vals w a n m) (hfv : Fits (k, z, t, f)) :
    Calls Tryd.prog 27 #[.slice a n c, .int .i64 q, .agg #[.int .i64 k, .int .i64 z, .string t, .float .f64 f]] w fun e w' => ∃ ra rc, e = .returned (.slice ra (setV m q (k, z, t, f)).length rc) ∧ Vals w' ra (setV m q (k, z, t, f)).length (setV m q (k, z, t, f)) ∧ (∀ g, RowB ra g → w.heap.size ≤ g) ∧ Up w w' := by
  obtain rfl : m.length = n := hv.1
  have HV := hide hv
  have HFV := hide hfv
  clear hv hfv
  go_enter Tryd.func27, Tryd.ntmps27
  obtain ⟨W, hW⟩ : ∃ W, W = w.alloc (.cells #[.int .i64 k, .int .i64 z, .string t, .float .f64 f] 58) := ⟨_, rfl⟩
  have uW : Hid (Up w W) := by rw [hW]; exact (Up.refl _).alloc _
  have bW : Hid (Box W w.heap.size (k, z, t, f)) := by rw [hW]; exact Box.new w (k, z, t, f) _
  have hWs : W.heap.size = w.heap.size + 1 := by rw [hW]; simp
  go_wp2_with (at_builtin; (try rw [← hW]); refine append_vals_any rfl (.const (.slice none 0 0)) (.tmp 8) rfl W.heap.size _ _ rfl (OwnV.nil _ _) _ _ _ m rfl (HV.out.up uW.out) (by simp; omega) (Nat.le_refl _) ?_)
  intro v1 w1 ho1 hg1
  rw [← hWs] at ho1
  rw [← hW] at hg1
  clear hW
  have UW1 : Hid (Up W w1) := below_anyV (Below.refl _ _) (Nat.le_refl _) (OwnV.nil _ _) hg1
  have U1 : Hid (Up w w1) := uW.out.trans UW1.out
  have x0 : w1.cell? ⟨w.heap.size, 0, none⟩ = some (.int .i64 k) := UW1.out.cell bW.out.1.1
  have x1 : w1.cell? ⟨w.heap.size, 1, none⟩ = some (.int .i64 z) := UW1.out.cell bW.out.1.2.1
  have x2 : w1.cell? ⟨w.heap.size, 2, none⟩ = some (.string t) := UW1.out.cell bW.out.1.2.2.1
  have x3 : w1.cell? ⟨w.heap.size, 3, none⟩ = some (.float .f64 f) := UW1.out.cell bW.out.1.2.2.2
  have HO := hide ho1
  have hft := HV.out.2.1
  clear hg1
  by_cases h0 : 0 ≤ q ∧ q < m.length
  · have hset : setV m q (k, z, t, f) = m.set q.toNat (k, z, t, f) := by unfold setV; rw [if_pos h0]
    have t1 : decide ((0 : Int) ≤ q) = true := decide_eq_true h0.1
    have t2 : decide (q < (m.length : Int)) = true := decide_eq_true h0.2
    obtain ⟨g, cap, rfl, hg1, hg2, hc, hfz⟩ := owns_free (n := m.length) ho1 (by omega)
    have HVL : Hid (Vals w1 (some ⟨g, 0, none⟩) m.length m) := by
      obtain ⟨a', c', h1, _, _, _, h2, _⟩ := owns_vals (n := m.length) ho1 hft
      cases h1
      exact h2
    have HFZ := hide hfz
    obtain ⟨j, hj⟩ : ∃ j : Nat, q = j := ⟨q.toNat, by omega⟩
    subst hj
    have hjm : j < m.length := by omega
    have hat : At w1 g (j * 4) (m.getD j zeroT) := by
      rcases HVL.out.2.2 with h | ⟨b, o, h1, h2⟩
      · omega
      · cases h1
        have := h2 j hjm
        rw [Nat.zero_add] at this
        exact this
    obtain ⟨c0, c1, c2, c3⟩ := hat
    have f0 := hfz (j * 4)
    have f1 := hfz (j * 4 + 1)
    have f2 := hfz (j * 4 + 2)
    have f3 := hfz (j * 4 + 3)
    have hji : (j : Int) < m.length := by omega
    have HSET := hide hset
    have HG1 := hide hg1
    clear hset ho1 hfz h0 HO hg1
    go_wp2_with fail
    go_ret
    rw [HSET.out]
    refine ⟨some ⟨g, 0, none⟩, cap, by simp, ?_, fun g' hg' => by obtain ⟨o, ho⟩ := hg'; cases ho; have := HG1.out; omega, ?_⟩
    · have := set_row HVL.out j hjm k z t f HFV.out
      simpa using this
    · have hgw : w.heap.size ≤ g := by have := HG1.out; omega
      exact (((U1.out.setCell (p := ⟨g, j * 4, none⟩) hgw _).setCell (p := ⟨g, j * 4 + 1, none⟩) hgw _).setCell (p := ⟨g, j * 4 + 2, none⟩) hgw _).setCell (p := ⟨g, j * 4 + 3, none⟩) hgw _
  · have hset : setV m q (k, z, t, f) = m ++ [(k, z, t, f)] := by unfold setV; rw [if_neg h0]
    have HSET := hide hset
    obtain ⟨ra, rc, rfl, _, _, _, _, _⟩ := owns_vals (n := m.length) ho1 hft
    have hbs : W.heap.size ≤ w1.heap.size := UW1.out.size
    by_cases h1 : 0 ≤ q
    · have t1 : decide ((0 : Int) ≤ q) = true := decide_eq_true h1
      have t2 : decide (q < (m.length : Int)) = false := decide_eq_false (fun h => h0 ⟨h1, h⟩)
      clear hset ho1 h0 h1
      go_wp2_with (at_builtin; refine append_value rfl (.tmp 23) (.tmp 25) rfl W.heap.size _ _ rfl (HO.out.alloc _) _ 1 1 [(k, z, t, f)] rfl rfl (value_new (k, z, t, f)) (by omega) (Nat.le_trans hbs (by simp)) ?_)
      intro v2 w2 ho2 hg2
      have HU2 : Hid (Up w w2) := uW.out.trans (below_appendV UW1.out.below hbs HO.out hg2)
      have HO2 := hide ho2
      clear ho2 hg2
      go_wp2
      go_ret
      rw [HSET.out]
      have hlt2 := HO2.out.lt
      obtain ⟨ra, rc, rfl, _, _, _, hv2, _⟩ := owns_vals HO2.out (fits_add hft HFV.out)
      exact ⟨ra, rc, rfl, hv2, fun g hg => by obtain ⟨o, rfl⟩ := hg; have := (hlt2 g rfl).1; omega, HU2.out⟩
    · have t1 : decide ((0 : Int) ≤ q) = false := decide_eq_false h1
      clear hset ho1 h0 h1
      go_wp2_with (at_builtin; refine append_value rfl (.tmp 23) (.tmp 25) rfl W.heap.size _ _ rfl (HO.out.alloc _) _ 1 1 [(k, z, t, f)] rfl rfl (value_new (k, z, t, f)) (by omega) (Nat.le_trans hbs (by simp)) ?_)
      intro v2 w2 ho2 hg2
      have HU2 : Hid (Up w w2) := uW.out.trans (below_appendV UW1.out.below hbs HO.out hg2)
      have HO2 := hide ho2
      clear ho2 hg2
      go_wp2
      go_ret
      rw [HSET.out]
      have hlt2 := HO2.out.lt
      obtain ⟨ra, rc, rfl, _, _, _, hv2, _⟩ := owns_vals HO2.out (fits_add hft HFV.out)
      exact ⟨ra, rc, rfl, hv2, fun g hg => by obtain ⟨o, rfl⟩ := hg; have := (hlt2 g rfl).1; omega, HU2.out⟩

theorem str_enter (v : Value) (cap : Array Value) (w : World) : (callFunc 59 (#[v] ++ cap)).run Tryd.prog w = .ok (.enter 59 (#[v] ++ cap)) w := by
  simp [go_sem]

set_option maxRecDepth 20000 in
set_option maxHeartbeats 4000000 in
theorem str_err (mx qx vx mb : Nat) (h : Int) (a : Value) (x : World) (k0 : x.cell? ⟨mx, 0, none⟩ = some (.pointer (some ⟨mb, 0, none⟩))) (hm : Met x mb 0 1 h 0) :
    Calls Tryd.prog 59 (#[a] ++ #[.pointer (some ⟨mx, 0, none⟩), .pointer (some ⟨qx, 0, none⟩), .pointer (some ⟨vx, 0, none⟩)]) x fun e x' => ∃ k, e = .returned (.tuple #[.slice none 0 0, .iface 23 (.pointer (some ⟨k, 0, none⟩))]) ∧ Chg (fun g => g = mb) x x' ∧ Met x' mb 1 1 h 1 ∧ x.heap.size ≤ k ∧ x'.cell? ⟨k, 0, none⟩ = some (.int .i64 1001) := by
  show Calls Tryd.prog 59 #[a, .pointer (some ⟨mx, 0, none⟩), .pointer (some ⟨qx, 0, none⟩), .pointer (some ⟨vx, 0, none⟩)] x _
  have HM := hide hm
  clear hm
  go_enter Tryd.func59, Tryd.ntmps59
  go_wp2_with fail
  go_at_call 60
  refine (tick_1 mb h x HM.out).mono ?_
  rintro _ x1 ⟨k, rfl, hm1, hc1, hk, hk1⟩
  have HH : Hid (Chg (fun g => g = mb) x x1 ∧ Met x1 mb 1 1 h 1 ∧ x.heap.size ≤ k ∧ x1.cell? ⟨k, 0, none⟩ = some (.int .i64 1001)) := ⟨hc1, hm1, hk, hk1⟩
  clear hm1 hc1 hk hk1
  go_wp2
  go_ret2
  exact ⟨k, rfl, HH.out⟩

set_option maxRecDepth 20000 in
set_option maxHeartbeats 4000000 in
theorem str_ok (mx qx vx mb : Nat) (q h k z : Int) (t : ByteArray) (f : Nat) (a : Option Addr) (n : Nat) (m : List VT) (x : World) (hn : n ≤ 12) (hv : Vals x a n m) (ha : ¬ RowB a mb) (hf : Fits (k, z, t, f)) (hne : ¬ qx = mb) (hne2 : ¬ vx = mb) (k0 : x.cell? ⟨mx, 0, none⟩ = some (.pointer (some ⟨mb, 0, none⟩))) (k1 : x.cell? ⟨qx, 0, none⟩ = some (.int .i64 q)) (k2 : At x vx 0 (k, z, t, f)) (hm : Met x mb 0 0 h 0) :
    Calls Tryd.prog 59 (#[.slice a n n] ++ #[.pointer (some ⟨mx, 0, none⟩), .pointer (some ⟨qx, 0, none⟩), .pointer (some ⟨vx, 0, none⟩)]) x fun e x' => ∃ ra rc, e = .returned (.tuple #[.slice ra (setV m q (k, z, t, f)).length rc, .nilIface]) ∧ Vals x' ra (setV m q (k, z, t, f)).length (setV m q (k, z, t, f)) ∧ (∀ g, RowB ra g → x.heap.size ≤ g) ∧ Chg (fun g => g = mb) x x' ∧ Met x' mb 1 0 h 0 := by
  show Calls Tryd.prog 59 #[.slice a n n, .pointer (some ⟨mx, 0, none⟩), .pointer (some ⟨qx, 0, none⟩), .pointer (some ⟨vx, 0, none⟩)] x _
  have HM := hide hm
  have HV := hide hv
  have HNA := hide ha
  have HFI := hide hf
  clear hm hv ha hf
  go_enter Tryd.func59, Tryd.ntmps59
  go_wp2_with fail
  go_at_call 60
  refine (tick_0 mb h x HM.out).mono ?_
  rintro _ x1 ⟨rfl, hm1, hc1⟩
  have j1 := hc1.cell k1 hne
  have j2 : x1.cell? ⟨vx, 0, none⟩ = some (.int .i64 k) := hc1.cell k2.1 hne2
  have j3 : x1.cell? ⟨vx, 1, none⟩ = some (.int .i64 z) := hc1.cell k2.2.1 hne2
  have j4 : x1.cell? ⟨vx, 2, none⟩ = some (.string t) := hc1.cell k2.2.2.1 hne2
  have j5 : x1.cell? ⟨vx, 3, none⟩ = some (.float .f64 f) := hc1.cell k2.2.2.2 hne2
  have HV1 : Hid (Vals x1 a n m) := HV.out.chg hc1 (fun g hg e => HNA.out (by rw [← show g = mb from e]; exact hg))
  have HM1 := hide hm1
  have HC1 := hide hc1
  clear hm1 hc1 k0 k1 k2
  go_wp2_with fail
  go_at_call 27
  refine (set_calls a n n m q k z t f x1 hn HV1.out HFI.out).mono ?_
  rintro _ x2 ⟨ra, rc, rfl, hvr, hg, hu⟩
  have HH : Hid (Vals x2 ra (setV m q (k, z, t, f)).length (setV m q (k, z, t, f)) ∧ (∀ g, RowB ra g → x.heap.size ≤ g) ∧ Chg (fun g => g = mb) x x2 ∧ Met x2 mb 1 0 h 0) := ⟨hvr, fun g h => Nat.le_trans HC1.out.size (hg g h), HC1.out.andUp hu, HM1.out.up hu⟩
  clear hvr hg hu
  go_wp2
  go_ret2
  exact ⟨ra, rc, rfl, HH.out⟩

end Go.Proofs.YtmlfkjmondkfnaaDoor

namespace Go.Proofs.YtmlfkjmondkfnaaDoor
open Go.RowKit
set_option linter.unusedVariables false
attribute [local go_sem ↓] Go.wp_at_zero Go.wp_at_succ

theorem noTwice_mark (b o : Nat) (s : ByteArray) (q : Addr) (pan : Value) (w : World) (hg : TabE w) (h : FaultAt w b o s (.iface 23 (.pointer (some q))) pan) (w' : World) (ta : Addr) (hu : Up w w') :
    Calls Tryd.prog 12 #[.iface 33 (.pointer (some ⟨b, o, none⟩)), .iface 120 (.pointer (some ta))] w' (Missed w') :=
  fault_twoW b o _ _ ta w' (hg.up hu) (fun w2 h2 => unwrap_err b o s _ _ pan w2 (h.up (hu.trans h2))) (fun tgt h0 h1 n w => as_missMW _ tgt h0 h1 n w)

theorem told_nil (mb : Nat) (s : ByteArray) (w : World) (c3 : w.cell? ⟨mb, 3, none⟩ = some (.int .i64 0)) :
    Calls Tryd.prog 22 #[.nilIface, .pointer (some ⟨mb, 0, none⟩), .string s] w fun e w' => e = .returned (.bool true) ∧ Up w w' := by
  go_enter Tryd.func22, Tryd.ntmps22
  go_wp2
  go_ret
  exact ⟨rfl, Up.refl _⟩

set_option maxRecDepth 20000 in
set_option maxHeartbeats 4000000 in
theorem told_bad (mb b : Nat) (s s' : ByteArray) (w : World) (hT : TabE w) (c3 : w.cell? ⟨mb, 3, none⟩ = some (.int .i64 0)) (hf : FaultAt w b 0 s' (.iface 31 (.int .i64 10)) .nilIface) :
    Calls Tryd.prog 22 #[.iface 33 (.pointer (some ⟨b, 0, none⟩)), .pointer (some ⟨mb, 0, none⟩), .string s] w fun e w' => e = .returned (.bool true) ∧ Up w w' := by
  have HT := hide hT
  have HF := hide hf
  clear hT hf
  go_enter Tryd.func22, Tryd.ntmps22
  go_wp2_with fail
  go_at_call 33
  refine (class_fault b 0 _ _ _ w HT.out HF.out (noTwice_num b 0 _ _ _ w HT.out HF.out)).mono ?_
  rintro _ w1 ⟨rfl, hu1⟩
  have U1 := hide hu1
  clear hu1
  go_wp2_with fail
  go_at_call 13
  refine (errIs_num b 0 10 w1 (fun x hx => is_fault2 b 0 10 x rfl (unwrap_err b 0 _ _ _ _ x (HF.out.up (U1.out.trans hx))))).mono ?_
  rintro _ w2 ⟨rfl, hu2⟩
  have U2 := hide (U1.out.trans hu2)
  clear hu2
  go_wp2
  go_ret
  exact ⟨rfl, U2.out⟩

set_option maxRecDepth 20000 in
set_option maxHeartbeats 4000000 in
theorem told_mark (mb b k : Nat) (h : Int) (s : ByteArray) (w : World) (hT : TabE w) (hm : Met w mb 1 1 h 1) (hf : FaultAt w b 0 s (.iface 23 (.pointer (some ⟨k, 0, none⟩))) .nilIface) (hk : w.cell? ⟨k, 0, none⟩ = some (.int .i64 1001)) :
    Calls Tryd.prog 22 #[.iface 33 (.pointer (some ⟨b, 0, none⟩)), .pointer (some ⟨mb, 0, none⟩), .string s] w fun e w' => e = .returned (.bool true) ∧ Up w w' := by
  have HT := hide hT
  have HF := hide hf
  have HK := hide hk
  have m0 := hm.1.1
  have m1 := hm.1.2.1
  have m3 := hm.1.2.2.2
  clear hT hf hk hm
  go_enter Tryd.func22, Tryd.ntmps22
  go_wp2_with fail
  go_at_call 15
  refine (struck_told b 0 _ ⟨k, 0, none⟩ 1001 w HT.out HF.out HK.out).mono ?_
  rintro _ w1 ⟨rfl, hu1⟩
  have U1 := hide hu1
  replace m1 := hu1.cell m1
  clear hu1 m0 m3
  go_wp2_with fail
  go_at_call 52
  refine (mark_calls mb w1 m1).mono ?_
  rintro _ w2 ⟨rfl, rfl⟩
  go_wp2_with fail
  go_at_call 34
  refine (where_fault b 0 _ _ _ _ (HT.out.up U1.out) (HF.out.up U1.out) (noTwice_mark b 0 _ _ _ _ (HT.out.up U1.out) (HF.out.up U1.out))).mono ?_
  rintro _ w3 ⟨rfl, hu3⟩
  have U3 := hide (U1.out.trans hu3)
  clear hu3
  go_wp2
  go_ret
  exact ⟨rfl, U3.out⟩

end Go.Proofs.YtmlfkjmondkfnaaDoor
