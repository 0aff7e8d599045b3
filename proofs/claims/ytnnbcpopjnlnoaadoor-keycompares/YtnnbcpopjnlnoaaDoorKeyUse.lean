/-
  What the statements' meter does (package rialtoplay), as its text runs.
  What the statements' meter does, wherever its count stands, and where there is none, as its text runs.
  What rialtoref7's lower answers, as its text runs.
  What rialtoref7's Extract answers, as its text runs: the same of the same values.
  What the statements' own extractors do (package rialtoplay), wherever the meter's count stands, and where there is none, as their text runs.
  Keys, as plain functions: whether a part is there, what it tells, how often extractors were asked, at which part it ends. No program is named here.
  What rialtoplay's Hooks answers, of a meter or of none, as its text runs.
-/
import Derived.Test.YtnnbcpopjnlnoaaDoorHookExt0
import Derived.Deep.RegionLaw
import Derived.Test.YtnnbcpopjnlnoaaDoorBytes
import Derived.Lib.ConvBytes
import Derived.Test.YtnnbcpopjnlnoaaDoorNewVals
import Derived.Test.YtnnbcpopjnlnoaaDoorRefs
import Derived.Test.YtnnbcpopjnlnoaaDoorSlcAll
import Derived.Deep.AppendLies
namespace Go.Proofs.YtnnbcpopjnlnoaaDoor
open Go.ChangeShapes Go.WideShapes Go.ChangeAt Go.RowKit
set_option linter.unusedVariables false
attribute [local go_sem ↓] Go.wp_at_zero Go.wp_at_succ

/-- A meter. -/
def Met (w : World) (b : Nat) (c a h s : Int) : Prop := (w.cell? ⟨b, 0, none⟩ = some (.int .i64 c) ∧ w.cell? ⟨b, 1, none⟩ = some (.int .i64 a) ∧ w.cell? ⟨b, 2, none⟩ = some (.int .i64 h) ∧ w.cell? ⟨b, 3, none⟩ = some (.int .i64 s)) ∧ ∀ i, w.frozen? ⟨b, i, none⟩ = false
theorem Met.chg {C : Nat → Prop} {w w' : World} {b : Nat} {c a h s : Int} (m : Met w b c a h s) (hc : Chg C w w') (hn : ¬ C b) : Met w' b c a h s :=
  ⟨⟨hc.cell m.1.1 hn, hc.cell m.1.2.1 hn, hc.cell m.1.2.2.1 hn, hc.cell m.1.2.2.2 hn⟩, fun i => (hc.frozen (p := ⟨b, i, none⟩) (World.block_lt_of_cell? w ⟨b, 0, none⟩ m.1.1) hn).trans (m.2 i)⟩
theorem Met.up {w w' : World} {b : Nat} {c a h s : Int} (m : Met w b c a h s) (hu : Up w w') : Met w' b c a h s := m.chg (C := fun _ => False) (Chg.of_up hu) id

set_option maxRecDepth 20000 in
set_option maxHeartbeats 4000000 in
theorem mset_calls (b : Nat) (c a h s n how : Int) (w : World) (hn : n = 0 ∨ n = 1) (hm : Met w b c a h s) :
    Calls Tryd.prog 11 #[.pointer (some ⟨b, 0, none⟩), .int .i64 n, .int .i64 how] w fun e w' => e = .returned (.tuple #[]) ∧ Met w' b 0 n (bits .and .i64 how 1023) 0 ∧ Chg (fun x => x = b) w w' := by
  obtain ⟨⟨m0, m1, m2, m3⟩, mf⟩ := hm
  have f0 := mf 0
  have f1 := mf 1
  have f2 := mf 2
  have f3 := mf 3
  have HF := hide mf
  clear mf
  have hmx1 : max (1 : Int) 0 = 1 := by decide
  rcases hn with rfl | rfl
  · go_enter Tryd.func11, Tryd.ntmps11
    go_wp2_with fail
    go_end0
    refine ⟨rfl, ⟨⟨by go_simp, by go_simp, by go_simp, by go_simp⟩, fun i => by simp only [World.frozen?_setCell]; exact HF.out i⟩, chg_set4 w b _ _ _ _⟩
  · go_enter Tryd.func11, Tryd.ntmps11
    go_wp2_with fail
    go_end0
    refine ⟨rfl, ⟨⟨by go_simp, by go_simp, by go_simp, by go_simp⟩, fun i => by simp only [World.frozen?_setCell]; exact HF.out i⟩, chg_set4 w b _ _ _ _⟩

set_option maxRecDepth 20000 in
set_option maxHeartbeats 4000000 in
theorem tick_0 (b : Nat) (h : Int) (w : World) (hm : Met w b 0 0 h 0) :
    Calls Tryd.prog 47 #[.pointer (some ⟨b, 0, none⟩)] w fun e w' => e = .returned .nilIface ∧ Met w' b 1 0 h 0 ∧ Chg (fun x => x = b) w w' := by
  obtain ⟨⟨m0, m1, m2, m3⟩, mf⟩ := hm
  have f0 := mf 0
  have HF := hide mf
  clear mf
  go_enter Tryd.func47, Tryd.ntmps47
  go_wp2_with fail
  go_quiet (fail)
  go_wp2
  go_ret
  refine ⟨rfl, ⟨⟨?_, ?_, ?_, ?_⟩, fun i => ?_⟩, (chg_set1 w b _).andUp ((Up.refl _).drewN _)⟩
  · exact World.cell?_setCell_same _ _ _ m0
  · exact (World.cell?_setCell_other _ _ _ _ (by intro e; cases e)).trans m1
  · exact (World.cell?_setCell_other _ _ _ _ (by intro e; cases e)).trans m2
  · exact (World.cell?_setCell_other _ _ _ _ (by intro e; cases e)).trans m3
  · show (w.setCell _ _).frozen? _ = false
    rw [World.frozen?_setCell]
    exact HF.out i

theorem mark_calls (b : Nat) (w : World) (m1 : w.cell? ⟨b, 1, none⟩ = some (.int .i64 1)) : Calls Tryd.prog 23 #[.pointer (some ⟨b, 0, none⟩)] w fun e w' => e = .returned (.int .i64 1001) ∧ w' = w := by
  go_enter Tryd.func23, Tryd.ntmps23
  go_wp2
  go_ret
  exact ⟨rfl, rfl⟩

set_option maxRecDepth 20000 in
set_option maxHeartbeats 4000000 in
theorem tick_1 (b : Nat) (h : Int) (w : World) (hm : Met w b 0 1 h 0) :
    Calls Tryd.prog 47 #[.pointer (some ⟨b, 0, none⟩)] w fun e w' => ∃ q, e = .returned (.iface 96 (.pointer (some ⟨q, 0, none⟩))) ∧ Met w' b 1 1 h 1 ∧ Chg (fun x => x = b) w w' ∧ w.heap.size ≤ q ∧ w'.cell? ⟨q, 0, none⟩ = some (.int .i64 1001) := by
  obtain ⟨⟨m0, m1, m2, m3⟩, mf⟩ := hm
  have f0 := mf 0
  have f3 := mf 3
  have hb : b < w.heap.size := World.block_lt_of_cell? w _ m0
  have HF := hide mf
  clear mf
  go_enter Tryd.func47, Tryd.ntmps47
  go_wp2_with fail
  go_quiet (fail)
  go_wp2_with fail
  obtain ⟨X, hX⟩ : ∃ X, X = (((w.setCell ⟨b, 0, none⟩ (.int .i64 1)).drewN nq).setCell ⟨b, 3, none⟩ (.int .i64 1)) := ⟨_, rfl⟩
  have cX : Hid (Chg (fun x => x = b) w X) := by rw [hX]; exact Chg.set' (C := fun x => x = b) ⟨b, 3, none⟩ _ rfl ((chg_set1 w b _).andUp ((Up.refl _).drewN _))
  have MX : Hid (Met X b 1 1 h 1) := by
    rw [hX]
    refine ⟨⟨?_, ?_, ?_, ?_⟩, fun i => ?_⟩
    · exact (World.cell?_setCell_other _ _ _ _ (by intro e; cases e)).trans (World.cell?_setCell_same _ _ _ m0)
    · exact (World.cell?_setCell_other _ _ _ _ (by intro e; cases e)).trans ((World.cell?_setCell_other _ _ _ _ (by intro e; cases e)).trans m1)
    · exact (World.cell?_setCell_other _ _ _ _ (by intro e; cases e)).trans ((World.cell?_setCell_other _ _ _ _ (by intro e; cases e)).trans m2)
    · exact World.cell?_setCell_same _ _ _ ((World.cell?_setCell_other _ _ _ _ (by intro e; cases e)).trans m3)
    · rw [World.frozen?_setCell]
      show (w.setCell _ _).frozen? _ = false
      rw [World.frozen?_setCell]
      exact HF.out i
  rw [← hX]
  clear hX m0 m1 m2 m3 f0 f3 HF
  go_at_call 23
  refine (mark_calls b X MX.out.1.2.1).mono ?_
  rintro _ x2 ⟨rfl, rfl⟩
  go_wp2
  go_ret
  exact ⟨_, rfl, MX.out.up ((Up.refl _).alloc _), cX.out.alloc _, cX.out.size, by go_simp⟩

end Go.Proofs.YtnnbcpopjnlnoaaDoor

namespace Go.Proofs.YtnnbcpopjnlnoaaDoor
open Go.ChangeShapes Go.WideShapes Go.ChangeAt Go.RowKit
set_option linter.unusedVariables false
attribute [local go_sem ↓] Go.wp_at_zero Go.wp_at_succ

/-- The block of a meter, if there is one. -/
def InM (mp : Option Addr) (g : Nat) : Prop := ∃ p, mp = some p ∧ g = p.block
/-- A meter, or none. -/
def MetO (w : World) (mp : Option Addr) (c a h s : Int) : Prop := ∀ p, mp = some p → p = ⟨p.block, 0, none⟩ ∧ Met w p.block c a h s
theorem MetO.chg {C : Nat → Prop} {w w' : World} {mp : Option Addr} {c a h s : Int} (m : MetO w mp c a h s) (hc : Chg C w w') (hn : ∀ g, InM mp g → ¬ C g) : MetO w' mp c a h s :=
  fun p hp => ⟨(m p hp).1, (m p hp).2.chg hc (hn _ ⟨p, hp, rfl⟩)⟩
theorem MetO.up {w w' : World} {mp : Option Addr} {c a h s : Int} (m : MetO w mp c a h s) (hu : Up w w') : MetO w' mp c a h s := m.chg (C := fun _ => False) (Chg.of_up hu) (fun _ _ => id)
theorem MetO.lt {w : World} {mp : Option Addr} {c a h s : Int} (m : MetO w mp c a h s) {g : Nat} (hg : InM mp g) : g < w.heap.size := by
  obtain ⟨p, hp, rfl⟩ := hg
  exact World.block_lt_of_cell? w ⟨p.block, 0, none⟩ (m p hp).2.1.1

theorem mset_g (b : Nat) (c a h s n how : Int) (w : World) (hn : 0 ≤ n) (hm : Met w b c a h s) :
    Calls Tryd.prog 11 #[.pointer (some ⟨b, 0, none⟩), .int .i64 n, .int .i64 how] w fun e w' => e = .returned (.tuple #[]) ∧ Met w' b 0 n (bits .and .i64 how 1023) 0 ∧ Chg (fun x => x = b) w w' := by
  obtain ⟨⟨m0, m1, m2, m3⟩, mf⟩ := hm
  have f0 := mf 0
  have f1 := mf 1
  have f2 := mf 2
  have f3 := mf 3
  have HF := hide mf
  clear mf
  have hmx : max n 0 = n := by omega
  clear hn
  go_enter Tryd.func11, Tryd.ntmps11
  go_wp2_with fail
  go_end0
  refine ⟨rfl, ⟨⟨by go_simp, by go_simp, by go_simp, by go_simp⟩, fun i => by simp only [World.frozen?_setCell]; exact HF.out i⟩, chg_set4 w b _ _ _ _⟩

set_option maxRecDepth 20000 in
set_option maxHeartbeats 4000000 in
/-- A call that doesn't strike. -/
theorem tick_go (b : Nat) (c a h s : Int) (w : World) (hc0 : 0 ≤ c) (hc1 : c ≤ 1000) (ha : a = 0 ∨ ¬ c + 1 = a) (hm : Met w b c a h s) :
    Calls Tryd.prog 47 #[.pointer (some ⟨b, 0, none⟩)] w fun e w' => e = .returned .nilIface ∧ Met w' b (c + 1) a h s ∧ Chg (fun x => x = b) w w' := by
  obtain ⟨⟨m0, m1, m2, m3⟩, mf⟩ := hm
  have f0 := mf 0
  have HF := hide mf
  clear mf
  have fin : Hid (∀ nq : Nat, Met ((w.setCell ⟨b, 0, none⟩ (.int .i64 (c + 1))).drewN nq) b (c + 1) a h s ∧ Chg (fun x => x = b) w ((w.setCell ⟨b, 0, none⟩ (.int .i64 (c + 1))).drewN nq)) := by
    intro nq
    refine ⟨⟨⟨?_, ?_, ?_, ?_⟩, fun i => ?_⟩, (chg_set1 w b _).andUp ((Up.refl _).drewN _)⟩
    · exact World.cell?_setCell_same _ _ _ m0
    · exact (World.cell?_setCell_other _ _ _ _ (by intro e; cases e)).trans m1
    · exact (World.cell?_setCell_other _ _ _ _ (by intro e; cases e)).trans m2
    · exact (World.cell?_setCell_other _ _ _ _ (by intro e; cases e)).trans m3
    · show (w.setCell _ _).frozen? _ = false
      rw [World.frozen?_setCell]
      exact HF.out i
  by_cases h0 : a = 0
  · subst h0
    clear ha
    go_enter Tryd.func47, Tryd.ntmps47
    go_wp2_with fail
    go_quiet (fail)
    go_wp2
    go_ret
    exact ⟨rfl, fin.out _⟩
  · have t0 : (a == 0) = false := by rw [beq_eq_false_iff_ne]; exact h0
    have t1 : (c + 1 != a) = true := by rw [bne_iff_ne]; exact ha.resolve_left h0
    clear ha h0
    go_enter Tryd.func47, Tryd.ntmps47
    go_wp2_with fail
    go_quiet (fail)
    go_wp2
    go_ret
    exact ⟨rfl, fin.out _⟩

theorem mark_g (b : Nat) (a : Int) (w : World) (ha0 : 0 ≤ a) (ha1 : a ≤ 1001) (m1 : w.cell? ⟨b, 1, none⟩ = some (.int .i64 a)) : Calls Tryd.prog 23 #[.pointer (some ⟨b, 0, none⟩)] w fun e w' => e = .returned (.int .i64 (1000 + a)) ∧ w' = w := by
  go_enter Tryd.func23, Tryd.ntmps23
  go_wp2
  go_ret
  exact ⟨rfl, rfl⟩

set_option maxRecDepth 20000 in
set_option maxHeartbeats 4000000 in
/-- One that does. -/
theorem tick_hit (b : Nat) (c h : Int) (w : World) (hc0 : 0 ≤ c) (hc1 : c ≤ 1000) (hm : Met w b c (c + 1) h 0) :
    Calls Tryd.prog 47 #[.pointer (some ⟨b, 0, none⟩)] w fun e w' => ∃ q, e = .returned (.iface 96 (.pointer (some ⟨q, 0, none⟩))) ∧ Met w' b (c + 1) (c + 1) h 1 ∧ Chg (fun x => x = b) w w' ∧ w.heap.size ≤ q ∧ w'.cell? ⟨q, 0, none⟩ = some (.int .i64 (1000 + (c + 1))) := by
  obtain ⟨⟨m0, m1, m2, m3⟩, mf⟩ := hm
  have f0 := mf 0
  have f3 := mf 3
  have hb : b < w.heap.size := World.block_lt_of_cell? w _ m0
  have HF := hide mf
  have t0 : (c + 1 == 0) = false := by rw [beq_eq_false_iff_ne]; omega
  have t1 : (c + 1 != c + 1) = false := by simp
  clear mf
  go_enter Tryd.func47, Tryd.ntmps47
  go_wp2_with fail
  go_quiet (fail)
  go_wp2_with fail
  obtain ⟨X, hX⟩ : ∃ X, X = (((w.setCell ⟨b, 0, none⟩ (.int .i64 (c + 1))).drewN nq).setCell ⟨b, 3, none⟩ (.int .i64 1)) := ⟨_, rfl⟩
  have cX : Hid (Chg (fun x => x = b) w X) := by rw [hX]; exact Chg.set' (C := fun x => x = b) ⟨b, 3, none⟩ _ rfl ((chg_set1 w b _).andUp ((Up.refl _).drewN _))
  have MX : Hid (Met X b (c + 1) (c + 1) h 1) := by
    rw [hX]
    refine ⟨⟨?_, ?_, ?_, ?_⟩, fun i => ?_⟩
    · exact (World.cell?_setCell_other _ _ _ _ (by intro e; cases e)).trans (World.cell?_setCell_same _ _ _ m0)
    · exact (World.cell?_setCell_other _ _ _ _ (by intro e; cases e)).trans ((World.cell?_setCell_other _ _ _ _ (by intro e; cases e)).trans m1)
    · exact (World.cell?_setCell_other _ _ _ _ (by intro e; cases e)).trans ((World.cell?_setCell_other _ _ _ _ (by intro e; cases e)).trans m2)
    · exact World.cell?_setCell_same _ _ _ ((World.cell?_setCell_other _ _ _ _ (by intro e; cases e)).trans m3)
    · rw [World.frozen?_setCell]
      show (w.setCell _ _).frozen? _ = false
      rw [World.frozen?_setCell]
      exact HF.out i
  rw [← hX]
  clear hX m0 m1 m2 m3 f0 f3 HF
  go_at_call 23
  refine (mark_g b (c + 1) X (by omega) (by omega) MX.out.1.2.1).mono ?_
  rintro _ x2 ⟨rfl, rfl⟩
  go_wp2
  go_ret
  exact ⟨_, rfl, MX.out.up ((Up.refl _).alloc _), cX.out.alloc _, cX.out.size, by go_simp⟩

/-- Where there is no meter nothing is counted. -/
theorem tick_none (w : World) : Calls Tryd.prog 47 #[.pointer none] w fun e w' => e = .returned .nilIface ∧ w' = w := by
  go_enter Tryd.func47, Tryd.ntmps47
  go_wp2
  go_ret
  exact ⟨rfl, rfl⟩
theorem tickO (mp : Option Addr) (c a h s : Int) (w : World) (hc0 : 0 ≤ c) (hc1 : c ≤ 1000) (ha : a = 0 ∨ ¬ c + 1 = a) (hm : MetO w mp c a h s) :
    Calls Tryd.prog 47 #[.pointer mp] w fun e w' => e = .returned .nilIface ∧ MetO w' mp (c + 1) a h s ∧ Chg (InM mp) w w' := by
  cases mp with
  | none =>
    refine (tick_none w).mono ?_
    rintro _ w1 ⟨rfl, rfl⟩
    exact ⟨rfl, fun p hp => (by cases hp), Chg.refl _ _⟩
  | some p =>
    obtain ⟨hp, hm⟩ := hm p rfl
    obtain ⟨b, o, sp⟩ := p
    cases hp
    refine (tick_go b c a h s w hc0 hc1 ha hm).mono ?_
    rintro _ w1 ⟨rfl, h1, h2⟩
    exact ⟨rfl, fun p hp => (by cases hp; exact ⟨rfl, h1⟩), h2.mono (fun x _ e => ⟨_, rfl, e⟩)⟩

end Go.Proofs.YtnnbcpopjnlnoaaDoor

namespace Go.Proofs.YtnnbcpopjnlnoaaDoor
open Go.ChangeShapes Go.WideShapes Go.ChangeAt Go.RowKit
set_option linter.unusedVariables false
attribute [local go_sem ↓] Go.wp_at_zero Go.wp_at_succ

def lowU (x : UInt8) : UInt8 := if 65 ≤ x.toNat ∧ x.toNat ≤ 90 then UInt8.ofNat (x.toNat + 32) else x
theorem lowU_yes {x : UInt8} (h : 65 ≤ x.toNat ∧ x.toNat ≤ 90) : (lowU x).toNat = x.toNat + 32 := by
  unfold lowU
  rw [if_pos h]
  simp
  omega
theorem lowU_no {x : UInt8} (h : ¬ (65 ≤ x.toNat ∧ x.toNat ≤ 90)) : lowU x = x := by unfold lowU; rw [if_neg h]
/-- The row when so many bytes are done. -/
def lowAt (l : List UInt8) (k : Nat) (j : Nat) : UInt8 := if j < k then lowU (l.getD j 0) else l.getD j 0
def lowB (s : ByteArray) : ByteArray := ⟨(s.data.toList.map lowU).toArray⟩
theorem lowB_size (s : ByteArray) : (lowB s).size = s.size := by
  show (s.data.toList.map lowU).toArray.size = s.data.size
  simp

set_option maxRecDepth 20000 in
set_option maxHeartbeats 4000000 in
theorem low_calls (s : ByteArray) (w : World) (hs : s.size ≤ 200) : Calls Tryd.prog 35 #[.string s] w fun e w' => e = .returned (.string (lowB s)) ∧ Up w w' := by
  have hcv := Go.Lib.run_convert_string_bytes (P := Tryd.prog) w 9 65 5 s (u := .string) Tryd.underlying9 Tryd.underlying65 Tryd.underlying5
  have hB : ∀ j, j < s.size → (Go.Lib.bytesWorld w 5 s).cell? ⟨w.heap.size, j, none⟩ = some (.int .u8 (s.data.toList.getD j 0).toNat) := fun j hj => Go.Lib.bytesWorld_cell w 5 s j hj
  have hup : Up w (Go.Lib.bytesWorld w 5 s) := ⟨rfl, rfl, rfl, by rw [Go.Lib.bytesWorld_size]; omega, fun k hk => Go.Lib.bytesWorld_at_old w _ s k hk⟩
  have hfz : ∀ j, j < s.size → (Go.Lib.bytesWorld w 5 s).frozen? ⟨w.heap.size, j, none⟩ = false := fun j hj => by
    unfold World.frozen?
    rw [Go.Lib.bytesWorld_at_new]
    have hsz : s.size ≤ (Go.Lib.bytesCells w 5 s).size := by unfold Go.Lib.bytesCells; simp
    have h1 : ¬ (Go.Lib.bytesCells w 5 s).size ≤ j := by omega
    simp [h1]
  obtain ⟨W1, hW1⟩ : ∃ W1, W1 = Go.Lib.bytesWorld w 5 s := ⟨_, rfl⟩
  rw [← hW1] at hcv hB hup hfz
  clear hW1
  generalize Go.grownCap w s.size 0 5 = cp at hcv
  obtain ⟨bs, hL⟩ : ∃ bs, bs = s.data.toList := ⟨_, rfl⟩
  have hLn : bs.length = s.size := by rw [hL]; rfl
  have HL := hide hL
  rw [← hL] at hB
  clear hL
  have HB := hide hB
  have HFZ := hide hfz
  have HUP := hide hup
  clear hB hfz hup
  go_enter Tryd.func35, Tryd.ntmps35
  go_wp2_with fail
  have HS : Hid ((∀ j, j < s.size → W1.cell? ⟨w.heap.size, j, none⟩ = some (.int .u8 (lowAt bs 0 j).toNat)) ∧ ∀ j, j < s.size → W1.frozen? ⟨w.heap.size, j, none⟩ = false) := ⟨fun j hj => by unfold lowAt; rw [if_neg (Nat.not_lt_zero _)]; exact HB.out j hj, HFZ.out⟩
  clear HB HFZ hcv
  go_loopw [4] (fun i wr => ∃ k : Nat, k ≤ s.size ∧ i = .int .i64 k ∧ Up w wr ∧ (∀ j, j < s.size → wr.cell? ⟨w.heap.size, j, none⟩ = some (.int .u8 (lowAt bs k j).toNat)) ∧ ∀ j, j < s.size → wr.frozen? ⟨w.heap.size, j, none⟩ = false) (fun i _ => s.size - (intOf i).toNat)
  case atStart => exact ⟨0, Nat.zero_le _, rfl, HUP.out, HS.out.1, HS.out.2⟩
  case round =>
    clear HS HUP
    obtain ⟨k, hk, rfl, hu, hc, hf⟩ := hrel
    have HU := hide hu
    have HC := hide hc
    have HF := hide hf
    clear hu hc hf
    by_cases hlt : k < s.size
    · have t0 : decide ((k : Int) < s.size) = true := decide_eq_true (by omega)
      have hks : (k : Int) < s.size := by omega
      have ck := HC.out k hlt
      have fk := HF.out k hlt
      have e0 : lowAt bs k k = bs.getD k 0 := by unfold lowAt; rw [if_neg (Nat.lt_irrefl k)]
      rw [e0] at ck
      have hoth : ∀ j, j ≠ k → lowAt bs (k + 1) j = lowAt bs k j := by
        intro j hj
        unfold lowAt
        by_cases h1 : j < k
        · rw [if_pos h1, if_pos (by omega)]
        · rw [if_neg h1, if_neg (by omega)]
      have hme : lowAt bs (k + 1) k = lowU (bs.getD k 0) := by unfold lowAt; rw [if_pos (Nat.lt_succ_self k)]
      obtain ⟨x, hx⟩ : ∃ x, x = bs.getD k 0 := ⟨_, rfl⟩
      rw [← hx] at ck hme
      have hx256 : x.toNat < 256 := x.toNat_lt
      have HOTH := hide hoth
      have HME := hide hme
      clear hoth hme hx e0
      by_cases h1 : 65 ≤ x.toNat ∧ x.toNat ≤ 90
      · have t1 : decide ((65 : Int) ≤ x.toNat) = true := decide_eq_true (by omega)
        have t2 : decide ((x.toNat : Int) ≤ 90) = true := decide_eq_true (by omega)
        have hw8 : IntKind.u8.wrap ((x.toNat : Int) + 32) = (x.toNat : Int) + 32 := by
          have := IntKind.wrap_u8 ((x.toNat : Int) + 32)
          rw [this]
          omega
        have H1 := hide h1
        clear h1
        go_wp2_with fail
        refine ⟨⟨k + 1, by omega, by go_num, HU.out.setCell (p := ⟨w.heap.size, k, none⟩) (Nat.le_refl _) _, fun j hj => ?_, fun j hj => by rw [World.frozen?_setCell]; exact HF.out j hj⟩, by simp [intOf]; omega⟩
        by_cases hjk : j = k
        · subst hjk
          rw [World.cell?_setCell_same _ _ _ ck, HME.out, lowU_yes H1.out]
          rfl
        · rw [World.cell?_setCell_other _ _ _ _ (by intro e; cases e; exact hjk rfl), HOTH.out j hjk]
          exact HC.out j hj
      · have H1 := hide h1
        have t3 : (decide ((65 : Int) ≤ x.toNat) && decide ((x.toNat : Int) ≤ 90)) = false := by
          rw [Bool.and_eq_false_iff, decide_eq_false_iff_not, decide_eq_false_iff_not]
          omega
        clear h1
        by_cases h2 : (65 : Int) ≤ x.toNat
        · have t1 : decide ((65 : Int) ≤ x.toNat) = true := decide_eq_true h2
          have t2 : decide ((x.toNat : Int) ≤ 90) = false := decide_eq_false (by have := H1.out; omega)
          clear h2 t3
          go_wp2_with fail
          refine ⟨⟨k + 1, by omega, by go_num, HU.out, fun j hj => ?_, HF.out⟩, by simp [intOf]; omega⟩
          by_cases hjk : j = k
          · subst hjk
            rw [HME.out, lowU_no H1.out]
            exact ck
          · rw [HOTH.out j hjk]
            exact HC.out j hj
        · have t1 : decide ((65 : Int) ≤ x.toNat) = false := decide_eq_false h2
          clear h2 t3
          go_wp2_with fail
          refine ⟨⟨k + 1, by omega, by go_num, HU.out, fun j hj => ?_, HF.out⟩, by simp [intOf]; omega⟩
          by_cases hjk : j = k
          · subst hjk
            rw [HME.out, lowU_no H1.out]
            exact ck
          · rw [HOTH.out j hjk]
            exact HC.out j hj
    · obtain rfl : k = s.size := by omega
      have t0 : decide ((s.size : Int) < s.size) = false := decide_eq_false (by omega)
      have hbt : Bts wr (some ⟨w.heap.size, 0, none⟩) s.size (bs.map lowU) := by
        refine ⟨by simp [hLn], .inr ⟨w.heap.size, 0, rfl, fun i hi => ?_⟩⟩
        rw [Nat.zero_add, HC.out i hi]
        have e1 : (bs.map lowU).getD i 0 = lowU (bs.getD i 0) := by
          rw [List.getD_eq_getElem?_getD, List.getD_eq_getElem?_getD, List.getElem?_map, List.getElem?_eq_getElem (by omega)]
          rfl
        rw [e1]
        unfold lowAt
        rw [if_pos hi]
      have hcv := conv_bts (c := cp) hbt (fun h => by cases h)
      clear hbt
      go_wp2_with fail
      go_ret
      refine ⟨?_, HU.out⟩
      rw [HL.out]
      rfl

end Go.Proofs.YtnnbcpopjnlnoaaDoor

namespace Go.Proofs.YtnnbcpopjnlnoaaDoor
open Go.ChangeShapes Go.WideShapes Go.ChangeAt Go.RowKit
set_option linter.unusedVariables false
attribute [local go_sem ↓] Go.wp_at_zero Go.wp_at_succ
attribute [local go_sem] run_store_float

/-- What the loop bears from value to value. -/
structure EX where
  sum : Int
  first : ByteArray
  f : Nat
  hS : Bool
  hF : Bool
  hI : Bool
  bit : Int
def ex0 : EX := ⟨0, ⟨#[]⟩, 0, false, false, false, 0⟩
def exSum (a b : Int) : Int := wrap64 (IntKind.u64.wrap (IntKind.u64.wrap a + IntKind.u64.wrap b))
def exStep (e : EX) (v : VT) : EX :=
  if v.1 = 1 then { e with sum := exSum e.sum v.2.1, hI := true, bit := if e.hI then e.bit else bits .and .i64 v.2.1 1 }
  else if v.1 = 3 then { e with first := if e.hS then e.first else v.2.2.1, hS := true }
  else if v.1 = 5 then { e with f := if e.hF then e.f else v.2.2.2, hF := true }
  else e
def exF (m : List VT) (k : Nat) : EX := (m.take k).foldl exStep ex0
theorem exF_succ (m : List VT) (k : Nat) (h : k < m.length) : exF m (k + 1) = exStep (exF m k) (m.getD k zeroT) := by
  unfold exF
  rw [List.take_add_one, List.getElem?_eq_getElem h, Option.toList_some, List.foldl_append, List.getD_eq_getElem?_getD, List.getElem?_eq_getElem h]
  rfl
def exLow (m : List VT) (k : Nat) : VT := if k = 0 then (0, 0, ⟨#[]⟩, 0) else m.getD 0 zeroT
theorem exF_f (m : List VT) (hf : ∀ i, Fits (m.getD i zeroT)) (k : Nat) : k ≤ m.length → (exF m k).f < whole := by
  induction k with
  | zero => intro _; exact (by decide : 0 < whole)
  | succ k ih =>
    intro hk
    rw [exF_succ m k (by omega)]
    have h := ih (by omega)
    have h2 := (hf k).2.2.2.2.2
    unfold exStep
    split
    · exact h
    · split
      · exact h
      · split
        · dsimp only
          split
          · exact h
          · exact h2
        · exact h

theorem rex_first {w wr : World} {u : VT} (hu : Up w wr) (hr : Box wr w.heap.size (0, 0, ⟨#[]⟩, 0)) (hl : Box wr (w.heap.size + 1) u) (k z : Int) (t : ByteArray) (f : Nat) (tt : TypeId) :
    Up w (((((wr.setCell ⟨w.heap.size + 1, 0, none⟩ (.int .i64 k)).setCell ⟨w.heap.size + 1, 1, none⟩ (.int .i64 z)).setCell ⟨w.heap.size + 1, 2, none⟩ (.string t)).setCell ⟨w.heap.size + 1, 3, none⟩ (.float .f64 f)).alloc (.cells #[.int .i64 k, .int .i64 z, .string t, .float .f64 f] tt)) ∧ Box (((((wr.setCell ⟨w.heap.size + 1, 0, none⟩ (.int .i64 k)).setCell ⟨w.heap.size + 1, 1, none⟩ (.int .i64 z)).setCell ⟨w.heap.size + 1, 2, none⟩ (.string t)).setCell ⟨w.heap.size + 1, 3, none⟩ (.float .f64 f)).alloc (.cells #[.int .i64 k, .int .i64 z, .string t, .float .f64 f] tt)) w.heap.size (0, 0, ⟨#[]⟩, 0) ∧ Box (((((wr.setCell ⟨w.heap.size + 1, 0, none⟩ (.int .i64 k)).setCell ⟨w.heap.size + 1, 1, none⟩ (.int .i64 z)).setCell ⟨w.heap.size + 1, 2, none⟩ (.string t)).setCell ⟨w.heap.size + 1, 3, none⟩ (.float .f64 f)).alloc (.cells #[.int .i64 k, .int .i64 z, .string t, .float .f64 f] tt)) (w.heap.size + 1) (k, z, t, f) := by
  have h4 := chg_set4 wr (w.heap.size + 1) (.int .i64 k) (.int .i64 z) (.string t) (.float .f64 f)
  refine ⟨?_, ((hr.chg h4 (by omega)).up ((Up.refl _).alloc _)), (hl.set k z t f).up ((Up.refl _).alloc _)⟩
  exact (Up.alloc (Below.trans hu.below (Chg.below (B := w.heap.size) h4 (fun x hx e => by omega) hu.size)) _)

theorem xor_nat (a b : Int) : ∃ n : Nat, n < whole ∧ bits .xor .u64 a b = n := by
  refine ⟨(BitVec.ofInt 64 a ^^^ BitVec.ofInt 64 b).toNat, (BitVec.ofInt 64 a ^^^ BitVec.ofInt 64 b).isLt, ?_⟩
  show IntKind.u64.wrap ((BitVec.ofInt 64 a ^^^ BitVec.ofInt 64 b).toNat : Int) = _
  have hlt := (BitVec.ofInt 64 a ^^^ BitVec.ofInt 64 b).isLt
  generalize (BitVec.ofInt 64 a ^^^ BitVec.ofInt 64 b).toNat = k at hlt
  have := IntKind.wrap_u64 (k : Int)
  rw [this]
  omega
def exNeg (b : Nat) : Nat := ofN (bits .xor .u64 IntKind.u64.max (ordN b : Int)).toNat
theorem exF_first (m : List VT) (hf : ∀ i, (m.getD i zeroT).2.2.1.size ≤ 200) (k : Nat) : k ≤ m.length → (exF m k).first.size ≤ 200 := by
  induction k with
  | zero => intro _; exact (by decide : (0 : Nat) ≤ 200)
  | succ k ih =>
    intro hk
    rw [exF_succ m k (by omega)]
    have h := ih (by omega)
    have h2 := hf k
    unfold exStep
    split
    · exact h
    · split
      · dsimp only
        split
        · exact h
        · exact h2
      · split
        · exact h
        · exact h
/-- What an extractor with a number tells of a row. -/
def exV (q : Int) (m : List VT) : VT :=
  if q = 0 then (1, (exF m m.length).sum, ⟨#[]⟩, 0)
  else if q = 1 then (3, 0, lowB (exF m m.length).first, 0)
  else if q = 2 then (5, 0, ⟨#[]⟩, if (exF m m.length).hF then exNeg (exF m m.length).f else 0)
  else (1, bits .xor .i64 (m.length : Int) (exF m m.length).bit, ⟨#[]⟩, 0)

/-- The same with the fifth one, which tells the first value. -/
def exW (q : Int) (m : List VT) : VT := if q = 4 then exLow m m.length else exV q m

set_option maxRecDepth 20000 in
set_option maxHeartbeats 16000000 in
theorem rex_some (q : Int) (b off n c : Nat) (m : List VT) (w : World) (hn : n ≤ 12) (hm : m.length = n) (hft : ∀ i, Fits (m.getD i zeroT)) (hx : ∀ i, i < n → At w b (off + i * 4) (m.getD i zeroT)) (hsh : ∀ i, (m.getD i zeroT).2.2.1.size ≤ 200) (hq : q = 0 ∨ q = 1 ∨ q = 2 ∨ q = 3 ∨ q = 4) :
    Calls Tryd.prog 16 #[.int .i64 q, .slice (some ⟨b, off, none⟩) n c] w fun e w' => e = .returned (.agg #[.int .i64 (exW q m).1, .int .i64 (exW q m).2.1, .string (exW q m).2.2.1, .float .f64 (exW q m).2.2.2]) ∧ Up w w' := by
  have HX := hide hx
  have HM := hide hm
  have HFT := hide hft
  have HSH := hide hsh
  clear hx hm hft hsh
  have hN : n ≤ 2 ^ 63 - 1 := by omega
  go_enter Tryd.func16, Tryd.ntmps16
  go_wp2_with fail
  obtain ⟨W, hW⟩ : ∃ W, W = (w.alloc (.cells #[.int .i64 0, .int .i64 0, .string ⟨#[]⟩, .float .f64 0] 49)).alloc (.cells #[.int .i64 0, .int .i64 0, .string ⟨#[]⟩, .float .f64 0] 49) := ⟨_, rfl⟩
  have uW : Hid (Up w W) := by rw [hW]; exact ((Up.refl _).alloc _).alloc _
  have zr : Hid (Box W w.heap.size (0, 0, ⟨#[]⟩, 0)) := by rw [hW]; exact ⟨⟨by go_simp, by go_simp, by go_simp, by go_simp⟩, fun i => by go_simp⟩
  have zl : Hid (Box W (w.heap.size + 1) (0, 0, ⟨#[]⟩, 0)) := by rw [hW]; exact ⟨⟨by go_simp, by go_simp, by go_simp, by go_simp⟩, fun i => by go_simp⟩
  rw [← hW]
  clear hW
  go_loopw [5, 6, 8, 9, 10, 11, 12, 13] (fun su fi ff bS bF bI bt i wr => ∃ k : Nat, k ≤ n ∧ i = .int .i64 k ∧ su = .int .i64 (exF m k).sum ∧ fi = .string (exF m k).first ∧ ff = .float .f64 (exF m k).f ∧ bS = .bool (exF m k).hS ∧ bF = .bool (exF m k).hF ∧ bI = .bool (exF m k).hI ∧ bt = .int .i64 (exF m k).bit ∧ Up w wr ∧ Box wr w.heap.size (0, 0, ⟨#[]⟩, 0) ∧ Box wr (w.heap.size + 1) (exLow m k)) (fun _ _ _ _ _ _ _ i _ => n - (intOf i).toNat)
  case atStart => exact ⟨0, Nat.zero_le _, rfl, rfl, rfl, rfl, rfl, rfl, rfl, rfl, uW.out, zr.out, zl.out⟩
  case round =>
    clear zr zl uW W
    obtain ⟨k, hk, rfl, rfl, rfl, rfl, rfl, rfl, rfl, rfl, hu, hr, hl⟩ := hrel
    replace hu := hide hu
    replace hr := hide hr
    replace hl := hide hl
    by_cases hlt : k < n
    · have t0 : decide ((k : Int) < n) = true := decide_eq_true (by omega)
      obtain ⟨c0, c1, c2, c3⟩ := (HX.out k hlt).up hu.out
      have hsucc := hide (exF_succ m k (by rw [HM.out]; exact hlt))
      have hft := HFT.out k
      obtain ⟨⟨p, z, s, g⟩, hv⟩ : ∃ v, v = m.getD k zeroT := ⟨_, rfl⟩
      rw [← hv] at c0 c1 c2 c3 hft
      have hv := hide hv
      dsimp only at c0 c1 c2 c3
      have lb0 : wr.cell? ⟨w.heap.size + 1, 0, none⟩ = some (.int .i64 (exLow m k).1) := hl.out.1.1
      have lb1 : wr.cell? ⟨w.heap.size + 1, 1, none⟩ = some (.int .i64 (exLow m k).2.1) := hl.out.1.2.1
      have lb2 : wr.cell? ⟨w.heap.size + 1, 2, none⟩ = some (.string (exLow m k).2.2.1) := hl.out.1.2.2.1
      have lb3 : wr.cell? ⟨w.heap.size + 1, 3, none⟩ = some (.float .f64 (exLow m k).2.2.2) := hl.out.1.2.2.2
      have lf0 := hl.out.2 0
      have lf1 := hl.out.2 1
      have lf2 := hl.out.2 2
      have lf3 := hl.out.2 3
      have hlw : w.heap.size + 1 < wr.heap.size := World.block_lt_of_cell? wr _ lb0
      obtain ⟨E, hE⟩ : ∃ E, E = exF m k := ⟨_, rfl⟩
      rw [← hE]
      obtain ⟨es, ef, eg, eS, eF, eI, eb⟩ := E
      dsimp only
      have hE := hide hE
      have hk0 : ((k : Int) == 0) = true ∧ k = 0 ∨ ((k : Int) == 0) = false ∧ ¬ k = 0 := by
        by_cases h : k = 0
        · exact .inl ⟨by rw [beq_iff_eq]; omega, h⟩
        · exact .inr ⟨by rw [beq_eq_false_iff_ne]; omega, h⟩
      by_cases p1 : p = 1
      · subst p1
        cases eI
        · skip
          rcases hk0 with ⟨t1, h0⟩ | ⟨t1, h0⟩
          · have H0 := hide h0
            clear h0
            go_wp2_with fail
            refine ⟨⟨k + 1, by omega, by go_num, ?_⟩, by simp [intOf]; omega⟩
            rw [hsucc.out, ← hE.out, ← hv.out]
            have hlow : exLow m (k + 1) = m.getD 0 zeroT := by unfold exLow; rw [if_neg (Nat.succ_ne_zero k)]
            rw [hlow]
            have hvv : m.getD 0 zeroT = (1, z, s, g) := by rw [hv.out, H0.out]
            rw [hvv]
            refine ⟨by simp [exStep, exSum], by simp [exStep], by simp [exStep], by simp [exStep], by simp [exStep], by simp [exStep], by simp [exStep], rex_first hu.out hr.out hl.out 1 z s g _⟩
          · have H0 := hide h0
            clear h0
            go_wp2_with fail
            refine ⟨⟨k + 1, by omega, by go_num, ?_⟩, by simp [intOf]; omega⟩
            rw [hsucc.out, ← hE.out, ← hv.out]
            have hlow : exLow m (k + 1) = m.getD 0 zeroT := by unfold exLow; rw [if_neg (Nat.succ_ne_zero k)]
            rw [hlow]
            have hlk : Box wr (w.heap.size + 1) (m.getD 0 zeroT) := by have := hl.out; unfold exLow at this; rw [if_neg H0.out] at this; exact this
            refine ⟨by simp [exStep, exSum], by simp [exStep], by simp [exStep], by simp [exStep], by simp [exStep], by simp [exStep], by simp [exStep], hu.out.alloc _, hr.out.up ((Up.refl _).alloc _), hlk.up ((Up.refl _).alloc _)⟩
        · skip
          rcases hk0 with ⟨t1, h0⟩ | ⟨t1, h0⟩
          · have H0 := hide h0
            clear h0
            go_wp2_with fail
            refine ⟨⟨k + 1, by omega, by go_num, ?_⟩, by simp [intOf]; omega⟩
            rw [hsucc.out, ← hE.out, ← hv.out]
            have hlow : exLow m (k + 1) = m.getD 0 zeroT := by unfold exLow; rw [if_neg (Nat.succ_ne_zero k)]
            rw [hlow]
            have hvv : m.getD 0 zeroT = (1, z, s, g) := by rw [hv.out, H0.out]
            rw [hvv]
            refine ⟨by simp [exStep, exSum], by simp [exStep], by simp [exStep], by simp [exStep], by simp [exStep], by simp [exStep], by simp [exStep], rex_first hu.out hr.out hl.out 1 z s g _⟩
          · have H0 := hide h0
            clear h0
            go_wp2_with fail
            refine ⟨⟨k + 1, by omega, by go_num, ?_⟩, by simp [intOf]; omega⟩
            rw [hsucc.out, ← hE.out, ← hv.out]
            have hlow : exLow m (k + 1) = m.getD 0 zeroT := by unfold exLow; rw [if_neg (Nat.succ_ne_zero k)]
            rw [hlow]
            have hlk : Box wr (w.heap.size + 1) (m.getD 0 zeroT) := by have := hl.out; unfold exLow at this; rw [if_neg H0.out] at this; exact this
            refine ⟨by simp [exStep, exSum], by simp [exStep], by simp [exStep], by simp [exStep], by simp [exStep], by simp [exStep], by simp [exStep], hu.out.alloc _, hr.out.up ((Up.refl _).alloc _), hlk.up ((Up.refl _).alloc _)⟩
      by_cases p3 : p = 3
      · subst p3
        clear p1
        cases eS
        · skip
          rcases hk0 with ⟨t1, h0⟩ | ⟨t1, h0⟩
          · have H0 := hide h0
            clear h0
            go_wp2_with fail
            refine ⟨⟨k + 1, by omega, by go_num, ?_⟩, by simp [intOf]; omega⟩
            rw [hsucc.out, ← hE.out, ← hv.out]
            have hlow : exLow m (k + 1) = m.getD 0 zeroT := by unfold exLow; rw [if_neg (Nat.succ_ne_zero k)]
            rw [hlow]
            have hvv : m.getD 0 zeroT = (3, z, s, g) := by rw [hv.out, H0.out]
            rw [hvv]
            refine ⟨by simp [exStep], by simp [exStep], by simp [exStep], by simp [exStep], by simp [exStep], by simp [exStep], by simp [exStep], rex_first hu.out hr.out hl.out 3 z s g _⟩
          · have H0 := hide h0
            clear h0
            go_wp2_with fail
            refine ⟨⟨k + 1, by omega, by go_num, ?_⟩, by simp [intOf]; omega⟩
            rw [hsucc.out, ← hE.out, ← hv.out]
            have hlow : exLow m (k + 1) = m.getD 0 zeroT := by unfold exLow; rw [if_neg (Nat.succ_ne_zero k)]
            rw [hlow]
            have hlk : Box wr (w.heap.size + 1) (m.getD 0 zeroT) := by have := hl.out; unfold exLow at this; rw [if_neg H0.out] at this; exact this
            refine ⟨by simp [exStep], by simp [exStep], by simp [exStep], by simp [exStep], by simp [exStep], by simp [exStep], by simp [exStep], hu.out.alloc _, hr.out.up ((Up.refl _).alloc _), hlk.up ((Up.refl _).alloc _)⟩
        · skip
          rcases hk0 with ⟨t1, h0⟩ | ⟨t1, h0⟩
          · have H0 := hide h0
            clear h0
            go_wp2_with fail
            refine ⟨⟨k + 1, by omega, by go_num, ?_⟩, by simp [intOf]; omega⟩
            rw [hsucc.out, ← hE.out, ← hv.out]
            have hlow : exLow m (k + 1) = m.getD 0 zeroT := by unfold exLow; rw [if_neg (Nat.succ_ne_zero k)]
            rw [hlow]
            have hvv : m.getD 0 zeroT = (3, z, s, g) := by rw [hv.out, H0.out]
            rw [hvv]
            refine ⟨by simp [exStep], by simp [exStep], by simp [exStep], by simp [exStep], by simp [exStep], by simp [exStep], by simp [exStep], rex_first hu.out hr.out hl.out 3 z s g _⟩
          · have H0 := hide h0
            clear h0
            go_wp2_with fail
            refine ⟨⟨k + 1, by omega, by go_num, ?_⟩, by simp [intOf]; omega⟩
            rw [hsucc.out, ← hE.out, ← hv.out]
            have hlow : exLow m (k + 1) = m.getD 0 zeroT := by unfold exLow; rw [if_neg (Nat.succ_ne_zero k)]
            rw [hlow]
            have hlk : Box wr (w.heap.size + 1) (m.getD 0 zeroT) := by have := hl.out; unfold exLow at this; rw [if_neg H0.out] at this; exact this
            refine ⟨by simp [exStep], by simp [exStep], by simp [exStep], by simp [exStep], by simp [exStep], by simp [exStep], by simp [exStep], hu.out.alloc _, hr.out.up ((Up.refl _).alloc _), hlk.up ((Up.refl _).alloc _)⟩
      by_cases p5 : p = 5
      · subst p5
        clear p1 p3
        cases eF
        · skip
          rcases hk0 with ⟨t1, h0⟩ | ⟨t1, h0⟩
          · have H0 := hide h0
            clear h0
            go_wp2_with fail
            refine ⟨⟨k + 1, by omega, by go_num, ?_⟩, by simp [intOf]; omega⟩
            rw [hsucc.out, ← hE.out, ← hv.out]
            have hlow : exLow m (k + 1) = m.getD 0 zeroT := by unfold exLow; rw [if_neg (Nat.succ_ne_zero k)]
            rw [hlow]
            have hvv : m.getD 0 zeroT = (5, z, s, g) := by rw [hv.out, H0.out]
            rw [hvv]
            refine ⟨by simp [exStep], by simp [exStep], by simp [exStep], by simp [exStep], by simp [exStep], by simp [exStep], by simp [exStep], rex_first hu.out hr.out hl.out 5 z s g _⟩
          · have H0 := hide h0
            clear h0
            go_wp2_with fail
            refine ⟨⟨k + 1, by omega, by go_num, ?_⟩, by simp [intOf]; omega⟩
            rw [hsucc.out, ← hE.out, ← hv.out]
            have hlow : exLow m (k + 1) = m.getD 0 zeroT := by unfold exLow; rw [if_neg (Nat.succ_ne_zero k)]
            rw [hlow]
            have hlk : Box wr (w.heap.size + 1) (m.getD 0 zeroT) := by have := hl.out; unfold exLow at this; rw [if_neg H0.out] at this; exact this
            refine ⟨by simp [exStep], by simp [exStep], by simp [exStep], by simp [exStep], by simp [exStep], by simp [exStep], by simp [exStep], hu.out.alloc _, hr.out.up ((Up.refl _).alloc _), hlk.up ((Up.refl _).alloc _)⟩
        · skip
          rcases hk0 with ⟨t1, h0⟩ | ⟨t1, h0⟩
          · have H0 := hide h0
            clear h0
            go_wp2_with fail
            refine ⟨⟨k + 1, by omega, by go_num, ?_⟩, by simp [intOf]; omega⟩
            rw [hsucc.out, ← hE.out, ← hv.out]
            have hlow : exLow m (k + 1) = m.getD 0 zeroT := by unfold exLow; rw [if_neg (Nat.succ_ne_zero k)]
            rw [hlow]
            have hvv : m.getD 0 zeroT = (5, z, s, g) := by rw [hv.out, H0.out]
            rw [hvv]
            refine ⟨by simp [exStep], by simp [exStep], by simp [exStep], by simp [exStep], by simp [exStep], by simp [exStep], by simp [exStep], rex_first hu.out hr.out hl.out 5 z s g _⟩
          · have H0 := hide h0
            clear h0
            go_wp2_with fail
            refine ⟨⟨k + 1, by omega, by go_num, ?_⟩, by simp [intOf]; omega⟩
            rw [hsucc.out, ← hE.out, ← hv.out]
            have hlow : exLow m (k + 1) = m.getD 0 zeroT := by unfold exLow; rw [if_neg (Nat.succ_ne_zero k)]
            rw [hlow]
            have hlk : Box wr (w.heap.size + 1) (m.getD 0 zeroT) := by have := hl.out; unfold exLow at this; rw [if_neg H0.out] at this; exact this
            refine ⟨by simp [exStep], by simp [exStep], by simp [exStep], by simp [exStep], by simp [exStep], by simp [exStep], by simp [exStep], hu.out.alloc _, hr.out.up ((Up.refl _).alloc _), hlk.up ((Up.refl _).alloc _)⟩
      have q1 : (p == 1) = false := by rw [beq_eq_false_iff_ne]; exact p1
      have q3 : (p == 3) = false := by rw [beq_eq_false_iff_ne]; exact p3
      have q5 : (p == 5) = false := by rw [beq_eq_false_iff_ne]; exact p5
      have HP : Hid (¬ p = 1 ∧ ¬ p = 3 ∧ ¬ p = 5) := ⟨p1, p3, p5⟩
      clear p1 p3 p5
      rcases hk0 with ⟨t1, h0⟩ | ⟨t1, h0⟩
      · have H0 := hide h0
        clear h0
        go_wp2_with fail
        refine ⟨⟨k + 1, by omega, by go_num, ?_⟩, by simp [intOf]; omega⟩
        rw [hsucc.out, ← hE.out, ← hv.out]
        have hlow : exLow m (k + 1) = m.getD 0 zeroT := by unfold exLow; rw [if_neg (Nat.succ_ne_zero k)]
        rw [hlow]
        have hvv : m.getD 0 zeroT = (p, z, s, g) := by rw [hv.out, H0.out]
        rw [hvv]
        refine ⟨by simp [exStep, HP.out.1, HP.out.2.1, HP.out.2.2], by simp [exStep, HP.out.1, HP.out.2.1, HP.out.2.2], by simp [exStep, HP.out.1, HP.out.2.1, HP.out.2.2], by simp [exStep, HP.out.1, HP.out.2.1, HP.out.2.2], by simp [exStep, HP.out.1, HP.out.2.1, HP.out.2.2], by simp [exStep, HP.out.1, HP.out.2.1, HP.out.2.2], by simp [exStep, HP.out.1, HP.out.2.1, HP.out.2.2], rex_first hu.out hr.out hl.out p z s g _⟩
      · have H0 := hide h0
        clear h0
        go_wp2_with fail
        refine ⟨⟨k + 1, by omega, by go_num, ?_⟩, by simp [intOf]; omega⟩
        rw [hsucc.out, ← hE.out, ← hv.out]
        have hlow : exLow m (k + 1) = m.getD 0 zeroT := by unfold exLow; rw [if_neg (Nat.succ_ne_zero k)]
        rw [hlow]
        have hlk : Box wr (w.heap.size + 1) (m.getD 0 zeroT) := by have := hl.out; unfold exLow at this; rw [if_neg H0.out] at this; exact this
        refine ⟨by simp [exStep, HP.out.1, HP.out.2.1, HP.out.2.2], by simp [exStep, HP.out.1, HP.out.2.1, HP.out.2.2], by simp [exStep, HP.out.1, HP.out.2.1, HP.out.2.2], by simp [exStep, HP.out.1, HP.out.2.1, HP.out.2.2], by simp [exStep, HP.out.1, HP.out.2.1, HP.out.2.2], by simp [exStep, HP.out.1, HP.out.2.1, HP.out.2.2], by simp [exStep, HP.out.1, HP.out.2.1, HP.out.2.2], hu.out.alloc _, hr.out.up ((Up.refl _).alloc _), hlk.up ((Up.refl _).alloc _)⟩
    · obtain rfl : k = n := by omega
      have t0 : decide ((k : Int) < k) = false := decide_eq_false (by omega)
      have r0 : wr.cell? ⟨w.heap.size, 0, none⟩ = some (.int .i64 0) := hr.out.1.1
      have r1 : wr.cell? ⟨w.heap.size, 1, none⟩ = some (.int .i64 0) := hr.out.1.2.1
      have r2 : wr.cell? ⟨w.heap.size, 2, none⟩ = some (.string ⟨#[]⟩) := hr.out.1.2.2.1
      have r3 : wr.cell? ⟨w.heap.size, 3, none⟩ = some (.float .f64 0) := hr.out.1.2.2.2
      have rf0 := hr.out.2 0
      have rf1 := hr.out.2 1
      have rf2 := hr.out.2 2
      have rf3 := hr.out.2 3
      obtain rfl : m.length = k := HM.out
      have hfw := exF_f m HFT.out m.length (Nat.le_refl _)
      have hfs := exF_first m HSH.out m.length (Nat.le_refl _)
      rcases hq with rfl | rfl | rfl | rfl | rfl
      · go_wp2_with fail
        refine bodyPost_ret (v := .agg #[.int .i64 1, .int .i64 (exF m m.length).sum, .string ⟨#[]⟩, .float .f64 0]) (by simp [results, Tryd.results16, go_sem, *]) rfl ?_
        refine ⟨?_, Below.trans hu.out.below (Chg.below (B := w.heap.size) (chg_set4 wr w.heap.size _ _ _ _) (fun x hx e => by omega) hu.out.size)⟩
        simp [exW, exV]
      · go_wp2_with fail
        go_at_call 35
        refine (low_calls _ wr hfs).mono ?_
        rintro _ wa ⟨rfl, hua⟩
        replace rf0 := (hua.frozen (p := ⟨w.heap.size, 0, none⟩) (World.block_lt_of_cell? _ ⟨w.heap.size, 0, none⟩ r0)).trans rf0
        replace rf1 := (hua.frozen (p := ⟨w.heap.size, 1, none⟩) (World.block_lt_of_cell? _ ⟨w.heap.size, 1, none⟩ r1)).trans rf1
        replace rf2 := (hua.frozen (p := ⟨w.heap.size, 2, none⟩) (World.block_lt_of_cell? _ ⟨w.heap.size, 2, none⟩ r2)).trans rf2
        replace rf3 := (hua.frozen (p := ⟨w.heap.size, 3, none⟩) (World.block_lt_of_cell? _ ⟨w.heap.size, 3, none⟩ r3)).trans rf3
        replace r0 := hua.cell r0
        replace r1 := hua.cell r1
        replace r2 := hua.cell r2
        replace r3 := hua.cell r3
        replace hu := hide (hu.out.trans hua)
        clear hua
        go_wp2_with fail
        refine bodyPost_ret (v := .agg #[.int .i64 3, .int .i64 0, .string (lowB (exF m m.length).first), .float .f64 0]) (by simp [results, Tryd.results16, go_sem, *]) rfl ?_
        refine ⟨?_, Below.trans hu.out.below (Chg.below (B := w.heap.size) (chg_set4 wa w.heap.size _ _ _ _) (fun x hx e => by omega) hu.out.size)⟩
        simp [exW, exV]
      · obtain ⟨hF, hhF⟩ : ∃ hF, hF = (exF m m.length).hF := ⟨_, rfl⟩
        rw [← hhF]
        cases hF
        · have HH := hide hhF
          clear hhF
          go_wp2_with fail
          refine bodyPost_ret (v := .agg #[.int .i64 5, .int .i64 0, .string ⟨#[]⟩, .float .f64 0]) (by simp [results, Tryd.results16, go_sem, *]) rfl ?_
          refine ⟨?_, Below.trans hu.out.below (Chg.below (B := w.heap.size) (chg_set4 wr w.heap.size _ _ _ _) (fun x hx e => by omega) hu.out.size)⟩
          simp [exW, exV, ← HH.out]
        · have HH := hide hhF
          clear hhF
          go_wp2_with fail
          go_at_call 37
          refine (rorder_calls _ hfw _).mono ?_
          rintro _ wa ⟨rfl, rfl⟩
          go_wp2_with fail
          obtain ⟨x, hxw, hxe⟩ := xor_nat IntKind.u64.max (ordN (exF m m.length).f : Int)
          rw [hxe]
          go_at_call 36
          refine (rof_calls x hxw _).mono ?_
          rintro _ wb ⟨rfl, rfl⟩
          have HXE := hide hxe
          clear hxe
          go_wp2_with fail
          refine bodyPost_ret (v := .agg #[.int .i64 5, .int .i64 0, .string ⟨#[]⟩, .float .f64 (ofN x)]) (by simp [results, Tryd.results16, go_sem, *]) rfl ?_
          refine ⟨?_, Below.trans hu.out.below (Chg.below (B := w.heap.size) (chg_set4 _ w.heap.size _ _ _ _) (fun x hx e => by omega) hu.out.size)⟩
          simp [exW, exV, exNeg, ← HH.out, HXE.out]
      · go_wp2_with fail
        refine bodyPost_ret (v := .agg #[.int .i64 1, .int .i64 (bits .xor .i64 (m.length : Int) (exF m m.length).bit), .string ⟨#[]⟩, .float .f64 0]) (by simp [results, Tryd.results16, go_sem, *]) rfl ?_
        refine ⟨?_, Below.trans hu.out.below (Chg.below (B := w.heap.size) (chg_set4 wr w.heap.size _ _ _ _) (fun x hx e => by omega) hu.out.size)⟩
        simp [exW, exV]
      · have lb0 : wr.cell? ⟨w.heap.size + 1, 0, none⟩ = some (.int .i64 (exLow m m.length).1) := hl.out.1.1
        have lb1 : wr.cell? ⟨w.heap.size + 1, 1, none⟩ = some (.int .i64 (exLow m m.length).2.1) := hl.out.1.2.1
        have lb2 : wr.cell? ⟨w.heap.size + 1, 2, none⟩ = some (.string (exLow m m.length).2.2.1) := hl.out.1.2.2.1
        have lb3 : wr.cell? ⟨w.heap.size + 1, 3, none⟩ = some (.float .f64 (exLow m m.length).2.2.2) := hl.out.1.2.2.2
        obtain ⟨⟨xk, xz, xt, xf⟩, hX⟩ : ∃ X, X = exLow m m.length := ⟨_, rfl⟩
        rw [← hX] at lb0 lb1 lb2 lb3
        dsimp only at lb0 lb1 lb2 lb3
        have HX5 := hide hX
        clear hX
        go_wp2_with fail
        refine bodyPost_ret (v := .agg #[.int .i64 xk, .int .i64 xz, .string xt, .float .f64 xf]) (by simp [results, Tryd.results16, go_sem, *]) rfl ?_
        refine ⟨?_, Below.trans hu.out.below (Chg.below (B := w.heap.size) (chg_set4 wr w.heap.size _ _ _ _) (fun x hx e => by omega) hu.out.size)⟩
        have e5 : exW 4 m = exLow m m.length := by simp [exW]
        rw [e5, ← HX5.out]

set_option maxRecDepth 20000 in
set_option maxHeartbeats 4000000 in
theorem rex_none (q : Int) (a : Option Addr) (c : Nat) (w : World) (hq : q = 0 ∨ q = 1 ∨ q = 2 ∨ q = 3 ∨ q = 4) :
    Calls Tryd.prog 16 #[.int .i64 q, .slice a 0 c] w fun e w' => e = .returned (.agg #[.int .i64 (exW q []).1, .int .i64 (exW q []).2.1, .string (exW q []).2.2.1, .float .f64 (exW q []).2.2.2]) ∧ Up w w' := by
  have hx3 : bits .xor .i64 0 0 = 0 := by decide
  rcases hq with rfl | rfl | rfl | rfl | rfl
  · go_enter Tryd.func16, Tryd.ntmps16
    go_wp2_with fail
    refine wp_loop_rounds 1 ?_
    rw [rounds_succ]
    go_wp2_with fail
    refine bodyPost_ret (v := .agg #[.int .i64 1, .int .i64 0, .string ⟨#[]⟩, .float .f64 0]) (by simp [results, Tryd.results16, go_sem, *]) rfl ?_
    exact ⟨rfl, by first | exact ((Up.refl _).alloc _).alloc _ | exact Below.trans (((Up.refl w).alloc _).alloc _).below (Chg.below (B := w.heap.size) (chg_set4 _ w.heap.size _ _ _ _) (fun x hx e => by omega) (by simp; omega))⟩
  · go_enter Tryd.func16, Tryd.ntmps16
    go_wp2_with fail
    refine wp_loop_rounds 1 ?_
    rw [rounds_succ]
    go_wp2_with fail
    go_at_call 35
    refine (low_calls _ _ (by decide)).mono ?_
    rintro _ wa ⟨rfl, hua⟩
    have r0 : wa.cell? ⟨w.heap.size, 0, none⟩ = some (.int .i64 0) := hua.cell (by go_simp)
    have r1 : wa.cell? ⟨w.heap.size, 1, none⟩ = some (.int .i64 0) := hua.cell (by go_simp)
    have r2 : wa.cell? ⟨w.heap.size, 2, none⟩ = some (.string ⟨#[]⟩) := hua.cell (by go_simp)
    have r3 : wa.cell? ⟨w.heap.size, 3, none⟩ = some (.float .f64 0) := hua.cell (by go_simp)
    have f0 : wa.frozen? ⟨w.heap.size, 0, none⟩ = false := (hua.frozen (p := ⟨w.heap.size, 0, none⟩) (by simp; omega)).trans (by go_simp)
    have f1 : wa.frozen? ⟨w.heap.size, 1, none⟩ = false := (hua.frozen (p := ⟨w.heap.size, 1, none⟩) (by simp; omega)).trans (by go_simp)
    have f2 : wa.frozen? ⟨w.heap.size, 2, none⟩ = false := (hua.frozen (p := ⟨w.heap.size, 2, none⟩) (by simp; omega)).trans (by go_simp)
    have f3 : wa.frozen? ⟨w.heap.size, 3, none⟩ = false := (hua.frozen (p := ⟨w.heap.size, 3, none⟩) (by simp; omega)).trans (by go_simp)
    have HU : Hid (Up w wa) := (((Up.refl _).alloc _).alloc _).trans hua
    clear hua
    go_wp2_with fail
    refine bodyPost_ret (v := .agg #[.int .i64 3, .int .i64 0, .string (lowB ⟨#[]⟩), .float .f64 0]) (by simp [results, Tryd.results16, go_sem, *]) rfl ?_
    exact ⟨rfl, Below.trans HU.out.below (Chg.below (B := w.heap.size) (chg_set4 wa w.heap.size _ _ _ _) (fun x hx e => by omega) HU.out.size)⟩
  · go_enter Tryd.func16, Tryd.ntmps16
    go_wp2_with fail
    refine wp_loop_rounds 1 ?_
    rw [rounds_succ]
    go_wp2_with fail
    refine bodyPost_ret (v := .agg #[.int .i64 5, .int .i64 0, .string ⟨#[]⟩, .float .f64 0]) (by simp [results, Tryd.results16, go_sem, *]) rfl ?_
    exact ⟨rfl, by first | exact ((Up.refl _).alloc _).alloc _ | exact Below.trans (((Up.refl w).alloc _).alloc _).below (Chg.below (B := w.heap.size) (chg_set4 _ w.heap.size _ _ _ _) (fun x hx e => by omega) (by simp; omega))⟩
  · go_enter Tryd.func16, Tryd.ntmps16
    go_wp2_with fail
    refine wp_loop_rounds 1 ?_
    rw [rounds_succ]
    go_wp2_with fail
    refine bodyPost_ret (v := .agg #[.int .i64 1, .int .i64 0, .string ⟨#[]⟩, .float .f64 0]) (by simp [results, Tryd.results16, go_sem, *]) rfl ?_
    exact ⟨rfl, by first | exact ((Up.refl _).alloc _).alloc _ | exact Below.trans (((Up.refl w).alloc _).alloc _).below (Chg.below (B := w.heap.size) (chg_set4 _ w.heap.size _ _ _ _) (fun x hx e => by omega) (by simp; omega))⟩
  · go_enter Tryd.func16, Tryd.ntmps16
    go_wp2_with fail
    refine wp_loop_rounds 1 ?_
    rw [rounds_succ]
    go_wp2_with fail
    refine bodyPost_ret (v := .agg #[.int .i64 0, .int .i64 0, .string ⟨#[]⟩, .float .f64 0]) (by simp [results, Tryd.results16, go_sem, *]) rfl ?_
    exact ⟨rfl, by first | exact ((Up.refl _).alloc _).alloc _ | exact Below.trans (((Up.refl w).alloc _).alloc _).below (Chg.below (B := w.heap.size) (chg_set4 _ w.heap.size _ _ _ _) (fun x hx e => by omega) (by simp; omega))⟩

theorem rexW_calls (q : Int) (a : Option Addr) (n c : Nat) (m : List VT) (w : World) (hn : n ≤ 12) (hv : Vals w a n m) (hsh : ∀ i, (m.getD i zeroT).2.2.1.size ≤ 200) (hq : q = 0 ∨ q = 1 ∨ q = 2 ∨ q = 3 ∨ q = 4) :
    Calls Tryd.prog 16 #[.int .i64 q, .slice a n c] w fun e w' => e = .returned (.agg #[.int .i64 (exW q m).1, .int .i64 (exW q m).2.1, .string (exW q m).2.2.1, .float .f64 (exW q m).2.2.2]) ∧ Up w w' := by
  rcases hv.2.2 with h0 | ⟨b, off, rfl, hx⟩
  · subst h0
    obtain rfl : m = [] := List.length_eq_zero_iff.1 hv.1
    exact rex_none q a c w hq
  · exact rex_some q b off n c m w hn hv.1 hv.2.1 hx hsh hq

theorem rex_calls (q : Int) (a : Option Addr) (n c : Nat) (m : List VT) (w : World) (hn : n ≤ 12) (hv : Vals w a n m) (hsh : ∀ i, (m.getD i zeroT).2.2.1.size ≤ 200) (hq : q = 0 ∨ q = 1 ∨ q = 2 ∨ q = 3) :
    Calls Tryd.prog 16 #[.int .i64 q, .slice a n c] w fun e w' => e = .returned (.agg #[.int .i64 (exV q m).1, .int .i64 (exV q m).2.1, .string (exV q m).2.2.1, .float .f64 (exV q m).2.2.2]) ∧ Up w w' := by
  have h := rexW_calls q a n c m w hn hv hsh (by omega)
  have e : exW q m = exV q m := by unfold exW; rw [if_neg (by omega)]
  rw [e] at h
  exact h

theorem exV_f (q : Int) (m : List VT) : (exV q m).2.2.2 < whole := by
  unfold exV
  split
  · exact (by decide : 0 < whole)
  · split
    · exact (by decide : 0 < whole)
    · split
      · dsimp only
        split
        · obtain ⟨x, hx, he⟩ := xor_nat IntKind.u64.max (ordN (exF m m.length).f : Int)
          unfold exNeg
          rw [he]
          exact ofN_lt hx
        · exact (by decide : 0 < whole)
      · exact (by decide : 0 < whole)
theorem exV_s (q : Int) (m : List VT) (hf : ∀ i, (m.getD i zeroT).2.2.1.size ≤ 200) : (exV q m).2.2.1.size ≤ 200 := by
  unfold exV
  split
  · exact (by decide : (0 : Nat) ≤ 200)
  · split
    · dsimp only
      rw [lowB_size]
      exact exF_first m hf m.length (Nat.le_refl _)
    · split
      · exact (by decide : (0 : Nat) ≤ 200)
      · exact (by decide : (0 : Nat) ≤ 200)
theorem exW_s (q : Int) (m : List VT) (hf : ∀ i, (m.getD i zeroT).2.2.1.size ≤ 200) : (exW q m).2.2.1.size ≤ 200 := by
  unfold exW
  split
  · unfold exLow
    split
    · exact (by decide : (0 : Nat) ≤ 200)
    · exact hf 0
  · exact exV_s q m hf

end Go.Proofs.YtnnbcpopjnlnoaaDoor

namespace Go.Proofs.YtnnbcpopjnlnoaaDoor
open Go.ChangeShapes Go.WideShapes Go.ChangeAt Go.RowKit
set_option linter.unusedVariables false
attribute [local go_sem ↓] Go.wp_at_zero Go.wp_at_succ
attribute [local go_sem] run_store_float

theorem Handed.ge {B : Nat} {w : World} {a : Option Addr} {n : Nat} {m : List VT} (h : Handed B w a n m) {b : Nat} (hb : RowB a b) : B ≤ b := by
  rcases Nat.lt_or_ge b B with h' | h'
  · exact absurd hb (h.not (.inl h'))
  · exact h'
/-- A row whose cells are there and may be written into. -/
def Full (w : World) (g n : Nat) : Prop := (∀ i, i < n * 4 → ∃ v, w.cell? ⟨g, i, none⟩ = some v) ∧ ∀ i, w.frozen? ⟨g, i, none⟩ = false
theorem Full.chg {C : Nat → Prop} {w w' : World} {g n : Nat} (h : Full w g n) (hc : Chg C w w') (hg : g < w.heap.size) (hn : ¬ C g) : Full w' g n :=
  ⟨fun i hi => by obtain ⟨v, hv⟩ := h.1 i hi; exact ⟨v, hc.cell hv hn⟩, fun i => (hc.frozen (p := ⟨g, i, none⟩) hg hn).trans (h.2 i)⟩
theorem Full.set {w : World} {g n : Nat} (h : Full w g n) (i : Nat) (u : Value) : Full (w.setCell ⟨g, i, none⟩ u) g n := by
  refine ⟨fun j hj => ?_, fun j => by rw [World.frozen?_setCell]; exact h.2 j⟩
  obtain ⟨v, hv⟩ := h.1 j hj
  by_cases hji : j = i
  · subst hji
    exact ⟨u, World.cell?_setCell_same _ _ _ hv⟩
  · exact ⟨v, (World.cell?_setCell_other _ _ _ _ (by intro e; cases e; exact hji rfl)).trans hv⟩
theorem Handed.full {B : Nat} {w : World} {a : Option Addr} {n : Nat} {m : List VT} (h : Handed B w a n m) (hn : ¬ n = 0) : ∃ G, a = some ⟨G, 0, none⟩ ∧ B ≤ G ∧ G < w.heap.size ∧ Full w G n := by
  rcases h.2 with ⟨h0, _⟩ | ⟨G, rfl, h1, h2, h3⟩
  · exact absurd h0 hn
  · refine ⟨G, rfl, h1, h2, fun i hi => ?_, h3⟩
    rcases h.1.2.2 with h0 | ⟨b, o, he, hx⟩
    · exact absurd h0 hn
    · cases he
      have hq := hx (i / 4) (by omega)
      have e : i = i / 4 * 4 + i % 4 := by omega
      have h4 : i % 4 < 4 := Nat.mod_lt _ (by omega)
      rcases (show i % 4 = 0 ∨ i % 4 = 1 ∨ i % 4 = 2 ∨ i % 4 = 3 by omega) with r | r | r | r
      · exact ⟨_, by have := hq.1; rw [show 0 + i / 4 * 4 = i by omega] at this; exact this⟩
      · exact ⟨_, by have := hq.2.1; rw [show 0 + i / 4 * 4 + 1 = i by omega] at this; exact this⟩
      · exact ⟨_, by have := hq.2.2.1; rw [show 0 + i / 4 * 4 + 2 = i by omega] at this; exact this⟩
      · exact ⟨_, by have := hq.2.2.2; rw [show 0 + i / 4 * 4 + 3 = i by omega] at this; exact this⟩
/-- A row that may be written into: nothing of it lies below B. -/
def Lent (B : Nat) (w : World) (a : Option Addr) (n : Nat) (m : List VT) : Prop := Vals w a n m ∧ (∀ b, RowB a b → B ≤ b ∧ b < w.heap.size) ∧ (n = 0 ∨ ∃ G, a = some ⟨G, 0, none⟩ ∧ G < w.heap.size ∧ ∀ i, w.frozen? ⟨G, i, none⟩ = false)
theorem Handed.lent {B : Nat} {w : World} {a : Option Addr} {n : Nat} {m : List VT} (h : Handed B w a n m) : Lent B w a n m :=
  ⟨h.1, fun b hb => ⟨h.ge hb, (Nat.lt_or_ge b w.heap.size).elim id (fun h' => absurd hb (h.not (.inr h')))⟩, h.2.imp (fun h => h.1) (fun ⟨G, h1, h2, h3, h4⟩ => ⟨G, h1, h3, h4⟩)⟩
theorem Lent.ge {B : Nat} {w : World} {a : Option Addr} {n : Nat} {m : List VT} (h : Lent B w a n m) {b : Nat} (hb : RowB a b) : B ≤ b := (h.2.1 b hb).1
theorem Lent.chg {B : Nat} {C : Nat → Prop} {w w' : World} {a : Option Addr} {n : Nat} {m : List VT} (h : Lent B w a n m) (hc : Chg C w w') (hn : ∀ b, RowB a b → ¬ C b) : Lent B w' a n m := by
  refine ⟨h.1.chg hc hn, fun b hb => ⟨(h.2.1 b hb).1, Nat.lt_of_lt_of_le (h.2.1 b hb).2 hc.size⟩, h.2.2.imp id ?_⟩
  rintro ⟨G, rfl, h3, h4⟩
  exact ⟨G, rfl, Nat.lt_of_lt_of_le h3 hc.size, fun i => (hc.frozen (p := ⟨G, i, none⟩) h3 (hn G ⟨0, rfl⟩)).trans (h4 i)⟩
theorem Lent.up {B : Nat} {w w' : World} {a : Option Addr} {n : Nat} {m : List VT} (h : Lent B w a n m) (hu : Up w w') : Lent B w' a n m := h.chg (C := fun _ => False) (Chg.of_up hu) (fun _ _ => id)
theorem Lent.full {B : Nat} {w : World} {a : Option Addr} {n : Nat} {m : List VT} (h : Lent B w a n m) (hn : ¬ n = 0) : ∃ G, a = some ⟨G, 0, none⟩ ∧ B ≤ G ∧ G < w.heap.size ∧ Full w G n := by
  obtain ⟨G, h1, h2, h3⟩ := h.2.2.resolve_left hn
  have hh : Handed B w a n m := ⟨h.1, .inr ⟨G, h1, (h.2.1 G ⟨0, h1⟩).1, h2, h3⟩⟩
  exact hh.full hn

theorem xtr_enter (v : Value) (cap : Array Value) (w : World) : (callFunc 46 (#[v] ++ cap)).run Tryd.prog w = .ok (.enter 46 (#[v] ++ cap)) w := by
  simp [go_sem]

set_option maxRecDepth 20000 in
set_option maxHeartbeats 4000000 in
theorem xtrG_err (mx nx mb : Nat) (c0 h : Int) (a : Value) (x : World) (k0 : x.cell? ⟨mx, 0, none⟩ = some (.pointer (some ⟨mb, 0, none⟩))) (hc0 : 0 ≤ c0) (hc1 : c0 ≤ 1000) (hm : Met x mb c0 (c0 + 1) h 0) :
    Calls Tryd.prog 46 (#[a] ++ #[.pointer (some ⟨mx, 0, none⟩), .pointer (some ⟨nx, 0, none⟩)]) x fun e x' => ∃ k, e = .returned (.tuple #[.agg #[.int .i64 0, .int .i64 0, .string ⟨#[]⟩, .float .f64 0], .iface 96 (.pointer (some ⟨k, 0, none⟩))]) ∧ Chg (fun g => g = mb) x x' ∧ Met x' mb (c0 + 1) (c0 + 1) h 1 ∧ x.heap.size ≤ k ∧ x'.cell? ⟨k, 0, none⟩ = some (.int .i64 (1000 + (c0 + 1))) := by
  show Calls Tryd.prog 46 #[a, .pointer (some ⟨mx, 0, none⟩), .pointer (some ⟨nx, 0, none⟩)] x _
  have l0 : mx < x.heap.size := World.block_lt_of_cell? x _ k0
  have HM := hide hm
  clear hm
  go_enter Tryd.func46, Tryd.ntmps46
  go_wp2_with fail
  obtain ⟨X, hX⟩ : ∃ X, X = x.alloc (.cells #[.int .i64 0, .int .i64 0, .string ⟨#[]⟩, .float .f64 0] 49) := ⟨_, rfl⟩
  have uX : Hid (Up x X) := by rw [hX]; exact (Up.refl _).alloc _
  have bX : Hid (Box X x.heap.size (0, 0, ⟨#[]⟩, 0)) := by rw [hX]; exact ⟨⟨by go_simp, by go_simp, by go_simp, by go_simp⟩, fun i => by go_simp⟩
  rw [← hX]
  clear hX
  go_at_call 47
  refine (tick_hit mb c0 h X hc0 hc1 (HM.out.up uX.out)).mono ?_
  rintro _ x1 ⟨k, rfl, hm1, hc1, hk, hk1⟩
  have hmb : mb < x.heap.size := World.block_lt_of_cell? x _ HM.out.1.1
  have B1 : Hid (Box x1 x.heap.size (0, 0, ⟨#[]⟩, 0)) := bX.out.chg hc1 (by omega)
  have HM1 := hide hm1
  have HC1 : Hid (Chg (fun g => g = mb) x x1) := Chg.trans (Chg.of_up uX.out) hc1 (fun g _ h => h)
  have HK : Hid (x.heap.size < k) := by
    show x.heap.size < k
    have := World.block_lt_of_cell? X _ bX.out.1.1
    simp at this
    omega
  have HK1 := hide hk1
  have r0 : x1.cell? ⟨x.heap.size, 0, none⟩ = some (.int .i64 0) := B1.out.1.1
  have r1 : x1.cell? ⟨x.heap.size, 1, none⟩ = some (.int .i64 0) := B1.out.1.2.1
  have r2 : x1.cell? ⟨x.heap.size, 2, none⟩ = some (.string ⟨#[]⟩) := B1.out.1.2.2.1
  have r3 : x1.cell? ⟨x.heap.size, 3, none⟩ = some (.float .f64 0) := B1.out.1.2.2.2
  have f0 := B1.out.2 0
  have f1 := B1.out.2 1
  have f2 := B1.out.2 2
  have f3 := B1.out.2 3
  clear hm1 hc1 hk hk1 B1 bX
  go_wp2_with fail
  refine bodyPost_ret (v := .tuple #[.agg #[.int .i64 0, .int .i64 0, .string ⟨#[]⟩, .float .f64 0], .iface 96 (.pointer (some ⟨k, 0, none⟩))]) (by simp [results, Tryd.results46, go_sem, *]) rfl ?_
  have h4 := chg_set4 x1 x.heap.size (.int .i64 0) (.int .i64 0) (.string ⟨#[]⟩) (.float .f64 0)
  refine ⟨k, rfl, HC1.out.trans h4 (fun g hg e => by omega), HM1.out.chg h4 (by omega), by have := HK.out; omega, h4.cell HK1.out (by have := HK.out; show ¬ k = x.heap.size; omega)⟩

set_option maxRecDepth 20000 in
set_option maxHeartbeats 4000000 in
theorem xtrG_ok (mx nx : Nat) (mp : Option Addr) (q c0 a0 h s0 : Int) (a' : Option Addr) (n c : Nat) (m : List VT) (B : Nat) (x : World) (hq : q = 0 ∨ q = 1 ∨ q = 2 ∨ q = 3 ∨ q = 4) (hn : n ≤ 12) (hsh : ∀ i, (m.getD i zeroT).2.2.1.size ≤ 200) (ha : Lent B x a' n m) (hmB : ∀ g, InM mp g → g < B) (hxB : mx < B) (hnB : nx < B) (hne : ¬ InM mp nx) (k0 : x.cell? ⟨mx, 0, none⟩ = some (.pointer mp)) (k1 : x.cell? ⟨nx, 0, none⟩ = some (.int .i64 q)) (hc0 : 0 ≤ c0) (hc1 : c0 ≤ 1000) (ha0 : a0 = 0 ∨ ¬ c0 + 1 = a0) (hm : MetO x mp c0 a0 h s0) :
    Calls Tryd.prog 46 (#[.slice a' n c] ++ #[.pointer (some ⟨mx, 0, none⟩), .pointer (some ⟨nx, 0, none⟩)]) x fun e x' => e = .returned (.tuple #[.agg #[.int .i64 (exW q m).1, .int .i64 (exW q m).2.1, .string (exW q m).2.2.1, .float .f64 (exW q m).2.2.2], .nilIface]) ∧ Chg (fun g => InM mp g ∨ RowB a' g) x x' ∧ MetO x' mp (c0 + 1) a0 h s0 := by
  show Calls Tryd.prog 46 #[.slice a' n c, .pointer (some ⟨mx, 0, none⟩), .pointer (some ⟨nx, 0, none⟩)] x _
  have HX : Hid (∀ y, Vals y a' n m → Calls Tryd.prog 16 #[.int .i64 q, .slice a' n c] y fun e w' => e = .returned (.agg #[.int .i64 (exW q m).1, .int .i64 (exW q m).2.1, .string (exW q m).2.2.1, .float .f64 (exW q m).2.2.2]) ∧ Up y w') := fun y hv => rexW_calls q a' n c m y hn hv hsh hq
  clear hq hsh
  obtain ⟨⟨rk, rz, rt, rf⟩, hR⟩ : ∃ r, r = exW q m := ⟨_, rfl⟩
  rw [← hR] at HX ⊢
  clear hR
  dsimp only at HX ⊢
  have l0 : mx < x.heap.size := World.block_lt_of_cell? x _ k0
  have l1 : nx < x.heap.size := World.block_lt_of_cell? x _ k1
  have HM := hide hm
  have HA := hide ha
  clear hm ha
  go_enter Tryd.func46, Tryd.ntmps46
  go_wp2_with fail
  obtain ⟨X, hX⟩ : ∃ X, X = x.alloc (.cells #[.int .i64 0, .int .i64 0, .string ⟨#[]⟩, .float .f64 0] 49) := ⟨_, rfl⟩
  have uX : Hid (Up x X) := by rw [hX]; exact (Up.refl _).alloc _
  have bX : Hid (Box X x.heap.size (0, 0, ⟨#[]⟩, 0)) := by rw [hX]; exact ⟨⟨by go_simp, by go_simp, by go_simp, by go_simp⟩, fun i => by go_simp⟩
  rw [← hX]
  clear hX
  go_at_call 47
  refine (tickO mp c0 a0 h s0 X hc0 hc1 ha0 (HM.out.up uX.out)).mono ?_
  rintro _ x1 ⟨rfl, hm1, hc1t⟩
  have hmb : ∀ g, InM mp g → g < x.heap.size := fun g hg => HM.out.lt hg
  have B1 : Hid (Box x1 x.heap.size (0, 0, ⟨#[]⟩, 0)) := bX.out.chg hc1t (fun hg => absurd (hmb _ hg) (Nat.lt_irrefl _))
  have HM1 := hide hm1
  have HC1 : Hid (Chg (InM mp) x x1) := Chg.trans (Chg.of_up uX.out) hc1t (fun g _ h => h)
  have j1 := HC1.out.cell k1 hne
  have HA1 : Hid (Lent B x1 a' n m) := HA.out.chg HC1.out (fun g hg e => by have := HA.out.ge hg; have := hmB g e; omega)
  clear hm1 hc1t bX k0 k1
  go_wp2_with fail
  go_at_call 16
  refine (HX.out x1 HA1.out.1).mono ?_
  rintro _ x2 ⟨rfl, hu2⟩
  have HM2 := hide (HM1.out.up hu2)
  have HC2 : Hid (Chg (fun g => InM mp g ∨ RowB a' g) x x2) := (HC1.out.mono (fun g _ h => Or.inl h)).andUp hu2
  have HA2 := hide (HA1.out.up hu2)
  have B2 := hide (B1.out.up hu2)
  have hlt2 : x.heap.size < x2.heap.size := World.block_lt_of_cell? x2 _ B2.out.1.1
  clear hu2 HX HM1 HC1 HA1 B1 j1
  go_wp2_with fail
  obtain ⟨Y, hY⟩ : ∃ Y, Y = x2.alloc (.cells #[.int .i64 rk, .int .i64 rz, .string rt, .float .f64 rf] 49) := ⟨_, rfl⟩
  have uY : Hid (Up x2 Y) := by rw [hY]; exact (Up.refl _).alloc _
  have bY : Hid (Box Y x2.heap.size (rk, rz, rt, rf)) := by rw [hY]; exact ⟨⟨by go_simp, by go_simp, by go_simp, by go_simp⟩, fun i => by go_simp⟩
  rw [← hY]
  clear hY
  have F3 : Hid (∀ G, a' = some ⟨G, 0, none⟩ → n ≠ 0 → Full Y G n ∧ B ≤ G ∧ G < x.heap.size) := by
    intro G hG h0
    obtain ⟨G', e1, e2, e3, e4⟩ := HA2.out.full h0
    obtain ⟨G'', e1', e2', e3', _⟩ := HA.out.full h0
    rw [hG] at e1 e1'
    cases e1
    cases e1'
    exact ⟨e4.chg (C := fun _ => False) (Chg.of_up uY.out) e3 id, e2, e3'⟩
  go_loopw [8] (fun i wr => ∃ k : Nat, k ≤ n ∧ i = .int .i64 k ∧ Chg (fun g => InM mp g ∨ RowB a' g) x wr ∧ MetO wr mp (c0 + 1) a0 h s0 ∧ Box wr x.heap.size (0, 0, ⟨#[]⟩, 0) ∧ Box wr x2.heap.size (rk, rz, rt, rf) ∧ ∀ G, a' = some ⟨G, 0, none⟩ → n ≠ 0 → Full wr G n ∧ B ≤ G ∧ G < x.heap.size) (fun i _ => n - (intOf i).toNat)
  case atStart => exact ⟨0, Nat.zero_le _, rfl, HC2.out.andUp uY.out, HM2.out.up uY.out, B2.out.up uY.out, bY.out, F3.out⟩
  case round =>
    clear F3 bY uY HC2 HM2 B2 HA2
    obtain ⟨k, hk, rfl, hc, hmm, hb1, hb2, hF⟩ := hrel
    have HC := hide hc
    have HMM := hide hmm
    have HB1 := hide hb1
    have HB2 := hide hb2
    clear hc hmm hb1 hb2
    by_cases hlt : k < n
    · have t0 : decide ((k : Int) < n) = true := decide_eq_true (by omega)
      obtain ⟨G, rfl, _, _, _⟩ := HA.out.full (by omega)
      obtain ⟨hfu, hBG, hGx⟩ := hF G rfl (by omega)
      have HF := hide hfu
      obtain ⟨v0, y0⟩ := hfu.1 (k * 4) (by omega)
      obtain ⟨v1, y1⟩ := hfu.1 (k * 4 + 1) (by omega)
      obtain ⟨v2, y2⟩ := hfu.1 (k * 4 + 2) (by omega)
      obtain ⟨v3, y3⟩ := hfu.1 (k * 4 + 3) (by omega)
      have q0 := hfu.2 (k * 4)
      have q1 := hfu.2 (k * 4 + 1)
      have q2 := hfu.2 (k * 4 + 2)
      have q3 := hfu.2 (k * 4 + 3)
      have hkn : (k : Int) < n := by omega
      have hn63 : n ≤ 2 ^ 63 - 1 := by omega
      clear hfu hF
      go_wp2_with fail
      have h4 : Chg (fun g => g = G) wr ((((wr.setCell ⟨G, k * 4, none⟩ (.int .i64 0)).setCell ⟨G, k * 4 + 1, none⟩ (.int .i64 0)).setCell ⟨G, k * 4 + 2, none⟩ (.string ⟨#[]⟩)).setCell ⟨G, k * 4 + 3, none⟩ (.float .f64 0)) :=
        Chg.set' (C := fun g => g = G) _ _ rfl (Chg.set' (C := fun g => g = G) _ _ rfl (Chg.set' (C := fun g => g = G) _ _ rfl (Chg.set' (C := fun g => g = G) _ _ rfl (Chg.refl _ wr))))
      refine ⟨⟨k + 1, by omega, by go_num, HC.out.trans h4 (fun g _ e => Or.inr ⟨0, by rw [e]⟩), HMM.out.chg h4 (fun g hg e => by have := hmB g hg; omega), HB1.out.chg h4 (by omega), HB2.out.chg h4 (by omega), ?_⟩, by simp [intOf]; omega⟩
      intro G' hG' _
      cases hG'
      exact ⟨(((HF.out.set _ _).set _ _).set _ _).set _ _, hBG, hGx⟩
    · obtain rfl : k = n := by omega
      have t0 : decide ((k : Int) < k) = false := decide_eq_false (by omega)
      have r0 : wr.cell? ⟨x.heap.size, 0, none⟩ = some (.int .i64 0) := HB1.out.1.1
      have r1 : wr.cell? ⟨x.heap.size, 1, none⟩ = some (.int .i64 0) := HB1.out.1.2.1
      have r2 : wr.cell? ⟨x.heap.size, 2, none⟩ = some (.string ⟨#[]⟩) := HB1.out.1.2.2.1
      have r3 : wr.cell? ⟨x.heap.size, 3, none⟩ = some (.float .f64 0) := HB1.out.1.2.2.2
      have f0 := HB1.out.2 0
      have f1 := HB1.out.2 1
      have f2 := HB1.out.2 2
      have f3 := HB1.out.2 3
      have s0 : wr.cell? ⟨x2.heap.size, 0, none⟩ = some (.int .i64 rk) := HB2.out.1.1
      have s1 : wr.cell? ⟨x2.heap.size, 1, none⟩ = some (.int .i64 rz) := HB2.out.1.2.1
      have s2 : wr.cell? ⟨x2.heap.size, 2, none⟩ = some (.string rt) := HB2.out.1.2.2.1
      have s3 : wr.cell? ⟨x2.heap.size, 3, none⟩ = some (.float .f64 rf) := HB2.out.1.2.2.2
      clear hF
      go_wp2_with fail
      refine bodyPost_ret (v := .tuple #[.agg #[.int .i64 rk, .int .i64 rz, .string rt, .float .f64 rf], .nilIface]) (by simp [results, Tryd.results46, go_sem, *]) rfl ?_
      have h4 := chg_set4 wr x.heap.size (.int .i64 rk) (.int .i64 rz) (.string rt) (.float .f64 rf)
      exact ⟨rfl, HC.out.trans h4 (fun g hg e => by omega), HMM.out.chg h4 (fun g hg e => by have := hmb g hg; omega)⟩


end Go.Proofs.YtnnbcpopjnlnoaaDoor

namespace Go.Proofs.YtnnbcpopjnlnoaaDoor
open Go.RowKit

def knumB (x : Int) (n : Nat) : Bool := decide (0 ≤ x) && decide (x < n)
/-- A part is there: of so many extractors, so many values. -/
def thereB (ne n : Nat) (p : PT) : Bool := if p.1 = -1 then knumB p.2 ne else knumB p.1 n
/-- What it tells. -/
def partV (m : List VT) (p : PT) : VT := if p.1 = -1 then exW p.2 m else m.getD p.1.toNat zeroT
def isHook (p : PT) : Bool := p.1 == -1
/-- How many extractors stand among the first parts. -/
def cntP (pl : List PT) (k : Nat) : Nat := ((pl.take k).filter isHook).length
/-- What the part with a number comes to, when those ahead of it went well: 0, or the error's class. -/
def badP (ne : Nat) (a : Int) (m : List VT) (pl : List PT) (k : Nat) : Int :=
  if thereB ne m.length (pl.getD k zeroP) = false then 60
  else if (pl.getD k zeroP).1 = -1 ∧ ((cntP pl k : Int) + 1 = a ∨ isB (exW (pl.getD k zeroP).2 m) = false) then 50 else 0
/-- All went well so far. -/
def GoodP (ne : Nat) (a : Int) (m : List VT) (pl : List PT) (k : Nat) : Prop := ∀ j, j < k → badP ne a m pl j = 0
def keyP (m : List VT) (pl : List PT) (k : Nat) : List VT := (pl.take k).map (partV m)

theorem cntP_succ (pl : List PT) (k : Nat) (h : k < pl.length) : cntP pl (k + 1) = cntP pl k + if (pl.getD k zeroP).1 = -1 then 1 else 0 := by
  unfold cntP
  rw [List.take_add_one, List.getElem?_eq_getElem h, Option.toList_some, List.filter_append, List.length_append, List.getD_eq_getElem?_getD, List.getElem?_eq_getElem h, Option.getD_some]
  congr 1
  by_cases hk : (pl[k]).1 = -1
  · rw [if_pos hk]; simp [isHook, hk]
  · rw [if_neg hk]; simp [isHook, hk]
theorem cntP_le (pl : List PT) (k : Nat) : cntP pl k ≤ k := by
  unfold cntP
  refine Nat.le_trans (List.length_filter_le _ _) ?_
  rw [List.length_take]
  omega
theorem keyP_succ (m : List VT) (pl : List PT) (k : Nat) (h : k < pl.length) : keyP m pl (k + 1) = keyP m pl k ++ [partV m (pl.getD k zeroP)] := by
  unfold keyP
  rw [List.take_add_one, List.getElem?_eq_getElem h, Option.toList_some, List.map_append, List.getD_eq_getElem?_getD, List.getElem?_eq_getElem h, Option.getD_some]
  rfl
theorem keyP_length (m : List VT) (pl : List PT) (k : Nat) (h : k ≤ pl.length) : (keyP m pl k).length = k := by
  unfold keyP
  rw [List.length_map, List.length_take]
  omega
theorem GoodP.succ {ne : Nat} {a : Int} {m : List VT} {pl : List PT} {k : Nat} (h : GoodP ne a m pl k) (hk : badP ne a m pl k = 0) : GoodP ne a m pl (k + 1) := by
  intro j hj
  by_cases e : j = k
  · subst e; exact hk
  · exact h j (by omega)
theorem badP_there {ne : Nat} {a : Int} {m : List VT} {pl : List PT} {k : Nat} (h : thereB ne m.length (pl.getD k zeroP) = false) : badP ne a m pl k = 60 := by
  unfold badP; rw [if_pos h]
theorem badP_field {ne : Nat} {a : Int} {m : List VT} {pl : List PT} {k : Nat} (h : thereB ne m.length (pl.getD k zeroP) = true) (hf : ¬ (pl.getD k zeroP).1 = -1) : badP ne a m pl k = 0 := by
  unfold badP; rw [if_neg (by rw [h]; decide), if_neg (fun e => hf e.1)]
theorem badP_fault {ne : Nat} {a : Int} {m : List VT} {pl : List PT} {k : Nat} (h : thereB ne m.length (pl.getD k zeroP) = true) (hf : (pl.getD k zeroP).1 = -1) (hb : (cntP pl k : Int) + 1 = a ∨ isB (exW (pl.getD k zeroP).2 m) = false) : badP ne a m pl k = 50 := by
  unfold badP; rw [if_neg (by rw [h]; decide), if_pos ⟨hf, hb⟩]
theorem badP_good {ne : Nat} {a : Int} {m : List VT} {pl : List PT} {k : Nat} (h : thereB ne m.length (pl.getD k zeroP) = true) (hb : ¬ (cntP pl k : Int) + 1 = a) (hi : isB (exW (pl.getD k zeroP).2 m) = true) : badP ne a m pl k = 0 := by
  unfold badP; rw [if_neg (by rw [h]; decide), if_neg (fun e => e.2.elim hb (fun e => by rw [hi] at e; cases e))]
theorem thereB_hook {ne n : Nat} {p : PT} (h : thereB ne n p = true) (hf : p.1 = -1) : 0 ≤ p.2 ∧ p.2 < ne := by
  unfold thereB knumB at h
  rw [if_pos hf] at h
  simp at h
  exact h
theorem thereB_field {ne n : Nat} {p : PT} (h : thereB ne n p = true) (hf : ¬ p.1 = -1) : 0 ≤ p.1 ∧ p.1 < n := by
  unfold thereB knumB at h
  rw [if_neg hf] at h
  simp at h
  exact h

theorem wrap64_fits (n : Int) : IntKind.i64.min ≤ wrap64 n ∧ wrap64 n ≤ IntKind.i64.max := by
  show (-9223372036854775808 : Int) ≤ wrap64 n ∧ wrap64 n ≤ 9223372036854775807
  unfold wrap64
  omega
theorem xor_fits (a b : Int) : IntKind.i64.min ≤ bits .xor .i64 a b ∧ bits .xor .i64 a b ≤ IntKind.i64.max := by
  show IntKind.i64.min ≤ IntKind.i64.wrap ((BitVec.ofInt 64 a ^^^ BitVec.ofInt 64 b).toNat : Int) ∧ IntKind.i64.wrap ((BitVec.ofInt 64 a ^^^ BitVec.ofInt 64 b).toNat : Int) ≤ IntKind.i64.max
  generalize (BitVec.ofInt 64 a ^^^ BitVec.ofInt 64 b).toNat = k
  rw [IntKind.wrap_i64]
  show (-9223372036854775808 : Int) ≤ _ ∧ _ ≤ (9223372036854775807 : Int)
  omega
theorem exF_sum (m : List VT) (k : Nat) : k ≤ m.length → IntKind.i64.min ≤ (exF m k).sum ∧ (exF m k).sum ≤ IntKind.i64.max := by
  induction k with
  | zero => intro _; exact ⟨(by decide : IntKind.i64.min ≤ (0 : Int)), (by decide : (0 : Int) ≤ IntKind.i64.max)⟩
  | succ k ih =>
    intro hk
    rw [exF_succ m k (by omega)]
    have h := ih (by omega)
    unfold exStep
    split
    · exact wrap64_fits _
    · split
      · exact h
      · split
        · exact h
        · exact h
/-- What an extractor tells fits. -/
theorem exW_fits (q : Int) (m : List VT) (hf : ∀ i, Fits (m.getD i zeroT)) (hsh : ∀ i, (m.getD i zeroT).2.2.1.size ≤ 200) : Fits (exW q m) := by
  have hs := exW_s q m hsh
  have hfl := exV_f q m
  have hm200 : (exW q m).2.2.1.size ≤ maxLen := Nat.le_trans hs (by unfold maxLen; omega)
  have z0 : IntKind.i64.min ≤ (0 : Int) ∧ (0 : Int) ≤ IntKind.i64.max := by decide
  have z1 : IntKind.i64.min ≤ (1 : Int) ∧ (1 : Int) ≤ IntKind.i64.max := by decide
  have z3 : IntKind.i64.min ≤ (3 : Int) ∧ (3 : Int) ≤ IntKind.i64.max := by decide
  have z5 : IntKind.i64.min ≤ (5 : Int) ∧ (5 : Int) ≤ IntKind.i64.max := by decide
  by_cases h4 : q = 4
  · unfold exW
    rw [if_pos h4]
    unfold exLow
    split
    · exact fits_zero
    · exact hf 0
  · have e : exW q m = exV q m := by unfold exW; rw [if_neg h4]
    rw [e] at hm200 ⊢
    have hx := exF_sum m m.length (Nat.le_refl _)
    have hb : IntKind.i64.min ≤ bits .xor .i64 (m.length : Int) (exF m m.length).bit ∧ bits .xor .i64 (m.length : Int) (exF m m.length).bit ≤ IntKind.i64.max := xor_fits _ _
    refine ⟨?_, ?_, ?_, ?_, hm200, hfl⟩
    · unfold exV; split
      · exact z1.1
      · split
        · exact z3.1
        · split
          · exact z5.1
          · exact z1.1
    · unfold exV; split
      · exact z1.2
      · split
        · exact z3.2
        · split
          · exact z5.2
          · exact z1.2
    · unfold exV; split
      · exact hx.1
      · split
        · exact z0.1
        · split
          · exact z0.1
          · exact hb.1
    · unfold exV; split
      · exact hx.2
      · split
        · exact z0.2
        · split
          · exact z0.2
          · exact hb.2
theorem partV_fits (m : List VT) (p : PT) (hf : ∀ i, Fits (m.getD i zeroT)) (hsh : ∀ i, (m.getD i zeroT).2.2.1.size ≤ 200) : Fits (partV m p) := by
  unfold partV
  split
  · exact exW_fits _ m hf hsh
  · exact hf _
theorem partV_s (m : List VT) (p : PT) (hsh : ∀ i, (m.getD i zeroT).2.2.1.size ≤ 200) : (partV m p).2.2.1.size ≤ 200 := by
  unfold partV
  split
  · exact exW_s _ m hsh
  · exact hsh _
theorem keyP_get (m : List VT) (pl : List PT) (k i : Nat) (Q : VT → Prop) (h0 : Q zeroT) (h : ∀ p, Q (partV m p)) : Q ((keyP m pl k).getD i zeroT) := by
  unfold keyP
  rw [List.getD_eq_getElem?_getD, List.getElem?_map]
  cases (pl.take k)[i]? with
  | none => exact h0
  | some p => exact h p

end Go.Proofs.YtnnbcpopjnlnoaaDoor

namespace Go.Proofs.YtnnbcpopjnlnoaaDoor
open Go.ChangeShapes Go.WideShapes Go.ChangeAt Go.RowKit
set_option linter.unusedVariables false
attribute [local go_sem ↓] Go.wp_at_zero Go.wp_at_succ

def FitsH (v : Value) : Prop := v = .nilFunc ∨ ∃ f x y, v = .func f x y
/-- A row of functions. -/
abbrev FnsH := Slc 1 (fun v => [v]) Value.nilFunc FitsH
theorem Slc.fnH {w : World} {a : Option Addr} {n : Nat} {l : List Value} (h : FnsH w a n l) {i : Nat} (hi : i < n) :
    ∃ b off, a = some ⟨b, off, none⟩ ∧ w.cell? ⟨b, off + i, none⟩ = some (l.getD i .nilFunc) := by
  rcases h.2.2 with h0 | ⟨b, off, ha, hx⟩
  · omega
  · exact ⟨b, off, ha, by simpa using hx i hi 0 _ rfl⟩

def oneH (v : Value) : List Value := [v]
theorem info_xtrH : (Tryd.prog.info? 70).map (fun i => (i.zero, i.size, i.bytes)) = some (some .nilFunc, 1, 8) := by kernel_rfl
theorem info_cprH : (Tryd.prog.info? 73).map (fun i => (i.zero, i.size, i.bytes)) = some (some .nilFunc, 1, 8) := by kernel_rfl
abbrev OwnEH := OwnG (α := Value) 70 1 oneH
abbrev OwnCH := OwnG (α := Value) 73 1 oneH
theorem oneCell_fnH {v : Value} (h : FitsH v) : v.oneCell' = true := by
  rcases h with rfl | ⟨f, x, y, rfl⟩ <;> rfl
theorem fn_newH {w : World} {t : TypeId} (v : Value) : ∀ j u, (oneH v)[j]? = some u → (w.alloc (.cells #[v] t)).cell? ((⟨w.heap.size, 0, none⟩ : Addr).add j) = some u := by
  intro j u hj
  match j with
  | 0 => simp [oneH] at hj; subst hj; simp [Addr.add]
  | j + 1 => simp [oneH] at hj

/-- append of a function at a step of a region that draws its order. -/
theorem step_append_fnH {P : Program} {t e : TypeId} (ht : P.underlying t = some (.slice e)) (hi' : (P.info? e).map (fun i => (i.zero, i.size, i.bytes)) = some (some .nilFunc, 1, 8))
    {w : World} {ops : Array Oper} {o : Oper} {a : Act} {K : Act → World → Prop} {Q : Exit → Act → World → Prop} {E : Prop} (hgd : o.guard = none) (s x : Operand)
    (ho : o.op = .call { callee := .builtin .append, args := #[s, x], argTypes := #[t, t] }) (base : Nat) (v : Value) (l : List Value) (hs : a.eval s = v) (hown : OwnG e 1 oneH w base v l)
    (ad : Addr) (c : Nat) (new : Value) (hx : a.eval x = .slice (some ad) 1 c) (hfit : FitsH new) (hnews : ∀ j u, (oneH new)[j]? = some u → w.cell? (ad.add j) = some u)
    (hlen : l.length + 1 ≤ 1000000) (hbase : base ≤ w.heap.size)
    (h : ∀ g cap w', OwnG e 1 oneH w' base (.slice (some ⟨g, 0, none⟩) (l.length + 1) cap) (l ++ [new]) → w.grownBy w' v.ownBlock → K (a.put o.dst (.slice (some ⟨g, 0, none⟩) (l.length + 1) cap)) w') : if Region.wanted o (yielded ops a.tmps) = true then Oper.wp P o a w K Q else E := by
  obtain ⟨i0, hi, hz0, hz1, hz2⟩ := info_parts hi'
  refine step_append_lies w hgd s x t ho base e i0 .nilFunc 1 8 ht hi hz0 hz1 hz2 rfl (by decide) v l.length (l.flatMap oneH) hs hown ad 1 c (oneH new) hx rfl hnews (fun u hu => ?_) (by decide) (by unfold maxLen; omega) (by omega) hbase w.heap.size rfl fun g cap w' h1 h2 _ _ => h g cap w' ?_ h2
  · simp only [oneH, List.mem_singleton] at hu; subst hu; exact oneCell_fnH hfit
  · unfold OwnG
    rw [List.length_append, List.flatMap_append, List.flatMap_singleton]
    exact h1
theorem OwnG.keepH {α : Type} {e : TypeId} {k : Nat} {cs : α → List Value} {w w' : World} {base B : Nat} {v : Value} {l : List α} (h : OwnG e k cs w base v l) (hb : Below B w w') (hg : ∀ g, v.ownBlock = some g → g < B) : OwnG e k cs w' base v l := by
  refine ⟨h.1, ?_⟩
  rcases h.2 with h0 | ⟨g, cap, cur, rfl, hb', hh, hr⟩
  · exact .inl h0
  · exact .inr ⟨g, cap, cur, rfl, hb', (hb.block g (hg g rfl)).trans hh, hr⟩
/-- Two cells that hold nothing yet. -/
def FreeH (w : World) (R : Nat) : Prop := w.cell? ⟨R, 0, none⟩ = some (.slice none 0 0) ∧ w.cell? ⟨R, 1, none⟩ = some (.slice none 0 0) ∧ ∀ j, w.frozen? ⟨R, j, none⟩ = false
theorem FreeH.below {w w' : World} {R B : Nat} (h : FreeH w R) (hb : Below B w w') (hR : R < B) : FreeH w' R :=
  ⟨(hb.cell (p := ⟨R, 0, none⟩) hR).trans h.1, (hb.cell (p := ⟨R, 1, none⟩) hR).trans h.2.1, fun j => (hb.frozen (p := ⟨R, j, none⟩) hR).trans (h.2.2 j)⟩
theorem FreeH.setCell {w : World} {R : Nat} (h : FreeH w R) (a : Addr) (v : Value) (ha : R ≠ a.block) : FreeH (w.setCell a v) R :=
  ⟨(World.cell?_setCell_other _ _ _ _ (fun e => ha (congrArg Addr.block e).symm)).trans h.1, (World.cell?_setCell_other _ _ _ _ (fun e => ha (congrArg Addr.block e).symm)).trans h.2.1, fun j => by rw [World.frozen?_setCell]; exact h.2.2 j⟩

/-- A function of the statements' own, with its number and its meter. -/
def XtrFn (F : FuncId) (w : World) (mp : Option Addr) (B j : Nat) (v : Value) : Prop := ∃ mx nx, v = .func (.func F) #[] #[.pointer (some ⟨mx, 0, none⟩), .pointer (some ⟨nx, 0, none⟩)] ∧ w.cell? ⟨mx, 0, none⟩ = some (.pointer mp) ∧ w.cell? ⟨nx, 0, none⟩ = some (.int .i64 (j : Int)) ∧ B ≤ mx ∧ B ≤ nx
def AllX (F : FuncId) (w : World) (mp : Option Addr) (B : Nat) (l : List Value) : Prop := ∀ i, i < l.length → XtrFn F w mp B i (l.getD i .nilFunc)
def NoFn (u : Value) : Prop := ∀ f x y, u ≠ .func f x y
theorem AllX.keep {F : FuncId} {w w' : World} {mp : Option Addr} {B : Nat} {l : List Value} (h : AllX F w mp B l) (hp : ∀ b u, B ≤ b → NoFn u → w.cell? ⟨b, 0, none⟩ = some u → w'.cell? ⟨b, 0, none⟩ = some u) : AllX F w' mp B l := by
  intro i hi
  obtain ⟨mx, nx, h1, h2, h3, h4, h5⟩ := h i hi
  exact ⟨mx, nx, h1, hp mx _ h4 (fun _ _ _ e => by cases e) h2, hp nx _ h5 (fun _ _ _ e => by cases e) h3, h4, h5⟩
theorem AllX.add {F : FuncId} {w : World} {mp : Option Addr} {B : Nat} {l : List Value} {v : Value} (h : AllX F w mp B l) (hv : XtrFn F w mp B l.length v) : AllX F w mp B (l ++ [v]) := by
  intro i hi
  rw [List.getD_eq_getElem?_getD]
  by_cases hx : i < l.length
  · rw [List.getElem?_append_left hx, ← List.getD_eq_getElem?_getD]
    exact h i hx
  · have e : i = l.length := by simp at hi; omega
    subst e
    rw [List.getElem?_append_right (Nat.le_refl _), Nat.sub_self]
    exact hv
theorem AllX.fits {F : FuncId} {w : World} {mp : Option Addr} {B : Nat} {l : List Value} (h : AllX F w mp B l) (i : Nat) : FitsH (l.getD i .nilFunc) := by
  by_cases hx : i < l.length
  · obtain ⟨mx, nx, h1, _⟩ := h i hx
    exact .inr ⟨_, _, _, h1⟩
  · rw [List.getD_eq_getElem?_getD, List.getElem?_eq_none (by omega)]
    exact .inl rfl
theorem own_not {e : TypeId} {F : FuncId} {w w0 : World} {mp : Option Addr} {B base : Nat} {v : Value} {l : List Value} (h : OwnG e 1 oneH w base v l) (hx : AllX F w0 mp B l) (h0 : l = [] → v = .slice none 0 0) {b : Nat} {u : Value} (hc : w.cell? ⟨b, 0, none⟩ = some u) (hu : NoFn u) : v.ownBlock ≠ some b := by
  intro hb
  by_cases hl : l = []
  · rw [h0 hl] at hb
    cases hb
  · have hpos : 0 < l.length := List.length_pos_iff.2 hl
    rcases h.2 with ⟨rfl, hn⟩ | ⟨g, cap, cur, rfl, _⟩
    · cases hb
    · have hg : g = b := by
        have : some g = some b := hb
        exact Option.some.inj this
      subst hg
      have h1 := h.cellAt 0 (by omega)
      obtain ⟨mx, nx, h2, _⟩ := hx 0 hpos
      cases l with
      | nil => exact hl rfl
      | cons a t =>
        have h3 : ((a :: t).flatMap oneH)[0]? = some a := by simp [oneH]
        rw [h3, hc] at h1
        cases h1
        exact hu _ _ _ h2
theorem grown_cell {w w' : World} {v : Value} (hg : w.grownBy w' v.ownBlock) {b : Nat} {u : Value} (hc : w.cell? ⟨b, 0, none⟩ = some u) (hn : v.ownBlock ≠ some b) : w'.cell? ⟨b, 0, none⟩ = some u :=
  (World.cell?_of_block (w := w) (hg.block b (World.block_lt_of_cell? w _ hc) (fun e => hn e.symm))).trans hc

theorem own_ge {e : TypeId} {w : World} {base B n c : Nat} {a : Option Addr} {l : List Value} (h : OwnG e 1 oneH w base (.slice a n c) l) {b : Nat} (hb : RowB a b) (hB : B ≤ base) : B ≤ b := by
  obtain ⟨o, rfl⟩ := hb
  exact Nat.le_trans hB (h.lt b rfl).1

theorem extractorM_calls (mp : Option Addr) (j : Nat) (w : World) : Calls Tryd.prog 28 #[.int .i64 (j : Int), .pointer mp] w fun e w' => (∃ f x y, e = .returned (.func f x y) ∧ XtrFn 46 w' mp w.heap.size j (.func f x y)) ∧ Up w w' := by
  go_enter Tryd.func28, Tryd.ntmps28
  go_wp2
  go_ret
  exact ⟨⟨_, _, _, rfl, w.heap.size + 1, w.heap.size, rfl, by go_simp, by go_simp, by omega, Nat.le_refl _⟩, ((Up.refl _).alloc _).alloc _⟩
theorem comparatorM_calls (mp : Option Addr) (j : Nat) (w : World) : Calls Tryd.prog 29 #[.int .i64 (j : Int), .pointer mp] w fun e w' => (∃ f x y, e = .returned (.func f x y) ∧ XtrFn 48 w' mp w.heap.size j (.func f x y)) ∧ Up w w' := by
  go_enter Tryd.func29, Tryd.ntmps29
  go_wp2
  go_ret
  exact ⟨⟨_, _, _, rfl, w.heap.size + 1, w.heap.size, rfl, by go_simp, by go_simp, by omega, Nat.le_refl _⟩, ((Up.refl _).alloc _).alloc _⟩
theorem XtrFn.mono {F : FuncId} {w : World} {mp : Option Addr} {B B' j : Nat} {v : Value} (h : XtrFn F w mp B j v) (hB : B' ≤ B) : XtrFn F w mp B' j v := by
  obtain ⟨mx, nx, h1, h2, h3, h4, h5⟩ := h
  exact ⟨mx, nx, h1, h2, h3, Nat.le_trans hB h4, Nat.le_trans hB h5⟩
theorem XtrFn.keep {F : FuncId} {w w' : World} {mp : Option Addr} {B j : Nat} {v : Value} (h : XtrFn F w mp B j v) (hp : ∀ b u, B ≤ b → NoFn u → w.cell? ⟨b, 0, none⟩ = some u → w'.cell? ⟨b, 0, none⟩ = some u) : XtrFn F w' mp B j v := by
  obtain ⟨mx, nx, h1, h2, h3, h4, h5⟩ := h
  exact ⟨mx, nx, h1, hp mx _ h4 (fun _ _ _ e => by cases e) h2, hp nx _ h5 (fun _ _ _ e => by cases e) h3, h4, h5⟩

theorem AllX.low {F : FuncId} {w : World} {mp : Option Addr} {B B' : Nat} {l : List Value} (h : AllX F w mp B l) (hB : B' ≤ B) : AllX F w mp B' l := fun i hi => (h i hi).mono hB

set_option maxRecDepth 20000 in
set_option maxHeartbeats 4000000 in
theorem phooksM_calls (mp : Option Addr) (w : World) : Calls Tryd.prog 10 #[.pointer mp] w fun e w' => ∃ a c l a' c' l', e = .returned (.agg #[.slice a 5 c, .slice a' 3 c']) ∧ FnsH w' a 5 l ∧ FnsH w' a' 3 l' ∧ AllX 46 w' mp w.heap.size l ∧ AllX 48 w' mp w.heap.size l' ∧ (∀ b, RowB a b → w.heap.size ≤ b) ∧ (∀ b, RowB a' b → w.heap.size ≤ b) ∧ Up w w' := by
  go_enter Tryd.func10, Tryd.ntmps10
  go_wp2_with fail
  obtain ⟨B, hB⟩ : ∃ B, B = w.heap.size + 2 := ⟨_, rfl⟩
  obtain ⟨D, hD⟩ : ∃ D, D = w.heap.size + 1 := ⟨_, rfl⟩
  have hsz : ((w.alloc (.cells #[.slice none 0 0, .slice none 0 0] 35)).alloc (.cells #[.slice none 0 0, .slice none 0 0] 35)).heap.size = B := by rw [hB]; simp
  have k0 : ((w.alloc (.cells #[.slice none 0 0, .slice none 0 0] 35)).alloc (.cells #[.slice none 0 0, .slice none 0 0] 35)).cell? ⟨D, 0, none⟩ = some (.slice none 0 0) := by rw [hD]; go_simp
  have k1 : ((w.alloc (.cells #[.slice none 0 0, .slice none 0 0] 35)).alloc (.cells #[.slice none 0 0, .slice none 0 0] 35)).cell? ⟨D, 1, none⟩ = some (.slice none 0 0) := by rw [hD]; go_simp
  have kf : ∀ j, ((w.alloc (.cells #[.slice none 0 0, .slice none 0 0] 35)).alloc (.cells #[.slice none 0 0, .slice none 0 0] 35)).frozen? ⟨D, j, none⟩ = false := by rw [hD]; intro j; go_simp
  have kr : FreeH ((w.alloc (.cells #[.slice none 0 0, .slice none 0 0] 35)).alloc (.cells #[.slice none 0 0, .slice none 0 0] 35)) w.heap.size := ⟨by go_simp, by go_simp, fun j => by go_simp⟩
  have hu0 : Up w ((w.alloc (.cells #[.slice none 0 0, .slice none 0 0] 35)).alloc (.cells #[.slice none 0 0, .slice none 0 0] 35)) := ((Up.refl _).alloc _).alloc _
  rw [← hD]
  generalize (w.alloc (.cells #[.slice none 0 0, .slice none 0 0] 35)).alloc (.cells #[.slice none 0 0, .slice none 0 0] 35) = W0 at *
  have hDB : D < B := by omega
  have hwD : w.heap.size ≤ D := by omega
  have hwD1 : w.heap.size ≠ D := by omega
  clear hB hD
  go_loopw [4] (fun i wr => ∃ (j : Nat) (v : Value) (l : List Value), j ≤ 5 ∧ i = .int .i64 j ∧ l.length = j ∧ (AllX 46 wr mp B l ∧ (l = [] → v = .slice none 0 0)) ∧ OwnEH wr B v l ∧ Up w wr ∧ B ≤ wr.heap.size ∧ wr.cell? ⟨D, 0, none⟩ = some v ∧ wr.cell? ⟨D, 1, none⟩ = some (.slice none 0 0) ∧ (∀ j, wr.frozen? ⟨D, j, none⟩ = false) ∧ FreeH wr w.heap.size) (fun i _ => 5 - (intOf i).toNat)
  case atStart => exact ⟨0, _, [], by decide, rfl, rfl, ⟨fun i hi => absurd hi (Nat.not_lt_zero i), fun _ => rfl⟩, OwnG.nil _ _ _ _ _, hu0, Nat.le_of_eq hsz.symm, k0, k1, kf, kr⟩
  case round =>
    clear hsz k0 k1 kf hu0 kr
    obtain ⟨j, v, l, hj, rfl, hl, hall, ho, hu, hsz, c0, c1, fz, hr⟩ := hrel
    replace hu := hide hu
    replace hall := hide hall
    by_cases hlt : j < 5
    · have t0 : decide ((j : Int) < 5) = true := decide_eq_true (by omega)
      have f0 := fz 0
      have hDs : D < wr.heap.size := by omega
      go_wp2_with fail
      go_region_law
        (first
          | (refine step_append_fnH Tryd.underlying32 info_xtrH rfl _ _ (by rfl) B _ _ (by rfl) (OwnG.alloc (OwnG.up (w := wr.drew) ho hu2) _) _ 1 (.func f x y) (by rfl) (.inr ⟨f, x, y, rfl⟩) (fn_newH _) (by omega) (Nat.le_trans hsz (Nat.le_trans hs2 (by simp))) ?_; intro g cap w3 ho3 hg3; have hb3 := OwnG.below (Below.refl B _) (Nat.le_trans hsz (Nat.le_trans hs2 (by simp))) (OwnG.alloc (OwnG.up (w := wr.drew) ho hu2) _) hg3; have ub := (Up.refl w2).alloc (.cells #[.func f x y] 70); have c3 := (hb3.cell (p := ⟨D, 0, none⟩) hDB).trans (ub.cell c0'); have f3 := (hb3.frozen (p := ⟨D, 0, none⟩) hDB).trans ((ub.frozen (p := ⟨D, 0, none⟩) hD2).trans ((hu2.frozen (p := ⟨D, 0, none⟩) hDs).trans f0)))
          | (go_simp; go_at_call 28; refine (extractorM_calls mp j _).mono ?_; rintro _ w2 ⟨⟨f, x, y, rfl, hxf⟩, hu2⟩; have hs2 := hu2.size; have c0' := hu2.cell (p := ⟨D, 0, none⟩) (v := v) c0; have hD2 : D < w2.heap.size := Nat.lt_of_lt_of_le hDs hs2; dsimp only))
      all_goals (
        have q1 := hide ((hb3.cell (p := ⟨D, 1, none⟩) hDB).trans (ub.cell (hu2.cell (p := ⟨D, 1, none⟩) c1)))
        have qf : Hid (∀ j, w3.frozen? ⟨D, j, none⟩ = false) := fun j => (hb3.frozen (p := ⟨D, j, none⟩) hDB).trans ((ub.frozen (p := ⟨D, j, none⟩) hD2).trans ((hu2.frozen (p := ⟨D, j, none⟩) hDs).trans (fz j)))
        have qu : Hid (Up w w3) := Below.trans (hu.out.drew.trans (hu2.trans ub)).below (Below.mono hb3 (by omega))
        have qr := hide ((((show FreeH wr.drew w.heap.size from hr).below (hu2.below) (Nat.lt_of_le_of_lt hwD hDs)).below ub.below (Nat.lt_of_le_of_lt hwD hD2)).below hb3 (Nat.lt_of_le_of_lt hwD hDB))
        have qs : B ≤ w3.heap.size := Nat.le_trans hsz (Nat.le_trans hs2 (Nat.le_trans (by simp) hb3.size))
        replace ho3 := hide ho3
        have hkp : ∀ b u, NoFn u → wr.cell? ⟨b, 0, none⟩ = some u → w3.cell? ⟨b, 0, none⟩ = some u := fun b u hu' hc' => grown_cell hg3 (ub.cell (hu2.cell (p := ⟨b, 0, none⟩) hc')) (own_not (OwnG.alloc (OwnG.up (w := wr.drew) ho hu2) _) hall.out.1 hall.out.2 (ub.cell (hu2.cell (p := ⟨b, 0, none⟩) hc')) hu')
        have ha3 := hide (AllX.add (hall.out.1.keep (fun b u _ => hkp b u)) (XtrFn.mono (by rw [hl]; exact hxf.keep (fun b u _ hu' hc' => grown_cell hg3 (ub.cell hc') (own_not (OwnG.alloc (OwnG.up (w := wr.drew) ho hu2) _) hall.out.1 hall.out.2 (ub.cell hc') hu'))) hsz))
        clear hkp hxf
        replace c3 := hide c3
        clear hg3 hb3 ub f3 c0' hu2 hs2 hD2 ho c0 c1 fz f0 hr
        go_wp2
        go_roundw
        case rel =>
          exact ⟨j + 1, _, l ++ [.func f x y], by omega, by go_num, by simp [hl], ⟨ha3.out.keep (fun b u hb _ hc' => (World.cell?_setCell_other _ _ _ _ (by intro e; have := congrArg Addr.block e; simp at this; omega)).trans hc'), fun e => by simp at e⟩, ownsRow_setCell_below (hl ▸ ho3.out) hDB _, qu.out.setCell hwD _, by simpa using qs, World.cell?_setCell_same _ _ _ c3.out, (World.cell?_setCell_other _ _ _ _ (by simp)).trans q1.out, fun j => by rw [World.frozen?_setCell]; exact qf.out j, qr.out.setCell _ _ (by show w.heap.size ≠ D; exact hwD1)⟩
        case measure => simp [intOf]; omega)
    · obtain rfl : j = 5 := by omega
      have t0 : decide ((((5 : Nat) : Int)) < 5) = false := by decide
      obtain ⟨a, c, rfl, _, _, HE⟩ := ho.slc (z := .nilFunc) (ok := FitsH) (fun _ => rfl) hall.out.1.fits
      rw [hl] at c0 ho
      rename World => wa
      obtain ⟨B2, hB2⟩ : ∃ B2, B2 = wa.heap.size := ⟨_, rfl⟩
      have hgE : ∀ g, (Value.slice a 5 c).ownBlock = some g → g < B2 := fun g hg => hB2 ▸ (ho.lt g hg).2
      have hDB1 := hDB
      have hDB2 : D < B2 := by omega
      have hallE := hall
      clear hall
      clear hlt hj HE
      go_wp2_with fail
      rw [show ((5 : Nat) : Int) = (5 : Int) from rfl]
      go_loopw [5] (fun i wr => ∃ (j : Nat) (v : Value) (l2 : List Value), j ≤ 3 ∧ i = .int .i64 j ∧ l2.length = j ∧ (AllX 48 wr mp B2 l2 ∧ (l2 = [] → v = .slice none 0 0)) ∧ OwnCH wr B2 v l2 ∧ Up w wr ∧ B2 ≤ wr.heap.size ∧ wr.cell? ⟨D, 1, none⟩ = some v ∧ wr.cell? ⟨D, 0, none⟩ = some (.slice a 5 c) ∧ (∀ j, wr.frozen? ⟨D, j, none⟩ = false) ∧ FreeH wr w.heap.size ∧ OwnEH wr B (.slice a 5 c) l ∧ AllX 46 wr mp B l) (fun i _ => 3 - (intOf i).toNat)
      case atStart => exact ⟨0, _, [], by decide, rfl, rfl, ⟨fun i hi => absurd hi (Nat.not_lt_zero i), fun _ => rfl⟩, OwnG.nil _ _ _ _ _, hu.out, Nat.le_of_eq hB2, c1, c0, fz, hr, ho, hallE.out.1⟩
      case round =>
        clear hu hsz c0 c1 fz hr ho
        obtain ⟨j, v, l2, hj, rfl, hl2, hall, ho, hu, hsz, c0, c1, fz, hr, hoE, hXE⟩ := hrel
        replace hu := hide hu
        replace hall := hide hall
        by_cases hlt : j < 3
        · have t2 : decide ((j : Int) < 3) = true := decide_eq_true (by omega)
          have f0 := fz 1
          have hDs : D < wr.heap.size := by omega
          go_wp2_with fail
          go_region_law
            (first
          | (refine step_append_fnH Tryd.underlying33 info_cprH rfl _ _ (by rfl) B2 _ _ (by rfl) (OwnG.alloc (OwnG.up (w := wr.drew) ho hu2) _) _ 1 (.func f x y) (by rfl) (.inr ⟨f, x, y, rfl⟩) (fn_newH _) (by omega) (Nat.le_trans hsz (Nat.le_trans hs2 (by simp))) ?_; intro g cap w3 ho3 hg3; have hb3 := OwnG.below (Below.refl B2 _) (Nat.le_trans hsz (Nat.le_trans hs2 (by simp))) (OwnG.alloc (OwnG.up (w := wr.drew) ho hu2) _) hg3; have ub := (Up.refl w2).alloc (.cells #[.func f x y] 73); have c3 := (hb3.cell (p := ⟨D, 1, none⟩) hDB2).trans (ub.cell c0'); have f3 := (hb3.frozen (p := ⟨D, 1, none⟩) hDB2).trans ((ub.frozen (p := ⟨D, 1, none⟩) hD2).trans ((hu2.frozen (p := ⟨D, 1, none⟩) hDs).trans f0)))
          | (go_simp; go_at_call 29; refine (comparatorM_calls mp j _).mono ?_; rintro _ w2 ⟨⟨f, x, y, rfl, hxf⟩, hu2⟩; have hs2 := hu2.size; have c0' := hu2.cell (p := ⟨D, 1, none⟩) (v := v) c0; have hD2 : D < w2.heap.size := Nat.lt_of_lt_of_le hDs hs2; dsimp only))
          all_goals (
            have q1 := hide ((hb3.cell (p := ⟨D, 0, none⟩) hDB2).trans (ub.cell (hu2.cell (p := ⟨D, 0, none⟩) c1)))
            have qf : Hid (∀ j, w3.frozen? ⟨D, j, none⟩ = false) := fun j => (hb3.frozen (p := ⟨D, j, none⟩) hDB2).trans ((ub.frozen (p := ⟨D, j, none⟩) hD2).trans ((hu2.frozen (p := ⟨D, j, none⟩) hDs).trans (fz j)))
            have qu : Hid (Up w w3) := Below.trans (hu.out.drew.trans (hu2.trans ub)).below (Below.mono hb3 (by omega))
            have qr := hide ((((show FreeH wr.drew w.heap.size from hr).below (hu2.below) (Nat.lt_of_le_of_lt hwD hDs)).below ub.below (Nat.lt_of_le_of_lt hwD hD2)).below hb3 (Nat.lt_of_le_of_lt hwD hDB2))
            have qs : B2 ≤ w3.heap.size := Nat.le_trans hsz (Nat.le_trans hs2 (Nat.le_trans (by simp) hb3.size))
            have qe := hide (OwnG.keepH (OwnG.alloc (OwnG.up (w := wr.drew) hoE hu2) _) hb3 hgE)
            replace ho3 := hide ho3
            have hkp : ∀ b u, NoFn u → wr.cell? ⟨b, 0, none⟩ = some u → w3.cell? ⟨b, 0, none⟩ = some u := fun b u hu' hc' => grown_cell hg3 (ub.cell (hu2.cell (p := ⟨b, 0, none⟩) hc')) (own_not (OwnG.alloc (OwnG.up (w := wr.drew) ho hu2) _) hall.out.1 hall.out.2 (ub.cell (hu2.cell (p := ⟨b, 0, none⟩) hc')) hu')
            have ha3 := hide (AllX.add (hall.out.1.keep (fun b u _ => hkp b u)) (XtrFn.mono (by rw [hl2]; exact hxf.keep (fun b u _ hu' hc' => grown_cell hg3 (ub.cell hc') (own_not (OwnG.alloc (OwnG.up (w := wr.drew) ho hu2) _) hall.out.1 hall.out.2 (ub.cell hc') hu'))) hsz))
            have hx3 := hide (hXE.keep (fun b u _ => hkp b u))
            clear hkp hxf hXE
            replace c3 := hide c3
            clear hg3 hb3 ub f3 c0' hu2 hs2 hD2 ho c0 c1 fz f0 hr hoE
            go_wp2
            go_roundw
            case rel =>
              exact ⟨j + 1, _, l2 ++ [.func f x y], by omega, by go_num, by simp [hl2], ⟨ha3.out.keep (fun b u hb _ hc' => (World.cell?_setCell_other _ _ _ _ (by intro e; have := congrArg Addr.block e; simp at this; omega)).trans hc'), fun e => by simp at e⟩, ownsRow_setCell_below (hl2 ▸ ho3.out) hDB2 _, qu.out.setCell hwD _, by simpa using qs, World.cell?_setCell_same _ _ _ c3.out, (World.cell?_setCell_other _ _ _ _ (by simp)).trans q1.out, fun j => by rw [World.frozen?_setCell]; exact qf.out j, qr.out.setCell _ _ (by show w.heap.size ≠ D; exact hwD1), ownsRow_setCell_below qe.out hDB1 _, hx3.out.keep (fun b u hb _ hc' => (World.cell?_setCell_other _ _ _ _ (by intro e; have := congrArg Addr.block e; simp at this; omega)).trans hc')⟩
            case measure => simp [intOf]; omega)
        · obtain rfl : j = 3 := by omega
          have t2 : decide ((((3 : Nat) : Int)) < 3) = false := by decide
          have hRB : w.heap.size < B := Nat.lt_of_le_of_lt hwD hDB1
          have hRB2 : w.heap.size < B2 := Nat.lt_of_le_of_lt hwD hDB2
          obtain ⟨a', c', rfl, _, _, _⟩ := ho.slc (z := .nilFunc) (ok := FitsH) (fun _ => rfl) hall.out.1.fits
          rw [hl2] at c0 ho
          have HC' := hide (OwnG.slc (z := .nilFunc) (ok := FitsH) (show OwnCH _ B2 _ _ from ownsRow_setCell_below (ownsRow_setCell_below (hl2 ▸ ho) (a := ⟨w.heap.size, 0, none⟩) hRB2 (.slice a 5 c)) (a := ⟨w.heap.size, 1, none⟩) hRB2 (.slice a' 3 c')) (fun _ => rfl) hall.out.1.fits)
          have HE' := hide (OwnG.slc (z := .nilFunc) (ok := FitsH) (show OwnEH _ B _ _ from ownsRow_setCell_below (ownsRow_setCell_below hoE (a := ⟨w.heap.size, 0, none⟩) hRB (.slice a 5 c)) (a := ⟨w.heap.size, 1, none⟩) hRB (.slice a' 3 c')) (fun _ => rfl) hallE.out.1.fits)
          obtain ⟨r0, r1, rf⟩ := hr
          have rf0 := rf 0
          have rf1 := rf 1
          have hfin : ∀ b u, w.heap.size < b → wr.cell? ⟨b, 0, none⟩ = some u → ((wr.setCell ⟨w.heap.size, 0, none⟩ (.slice a 5 c)).setCell ⟨w.heap.size, 1, none⟩ (.slice a' 3 c')).cell? ⟨b, 0, none⟩ = some u := fun b u hb hc' => (World.cell?_setCell_other _ _ _ _ (by intro e; have := congrArg Addr.block e; simp at this; omega)).trans ((World.cell?_setCell_other _ _ _ _ (by intro e; have := congrArg Addr.block e; simp at this; omega)).trans hc')
          have HX5 := hide (AllX.low (hXE.keep (fun b u hb _ hc' => hfin b u (by omega) hc')) (Nat.le_of_lt hRB))
          have HX6 := hide (AllX.low (hall.out.1.keep (fun b u hb _ hc' => hfin b u (by omega) hc')) (Nat.le_of_lt hRB2))
          have HR5 : Hid (∀ b, RowB a b → w.heap.size ≤ b) := fun b hb => own_ge hoE hb (Nat.le_of_lt hRB)
          have HR6 : Hid (∀ b, RowB a' b → w.heap.size ≤ b) := fun b hb => own_ge ho hb (Nat.le_of_lt hRB2)
          clear hfin ho hoE fz rf hXE
          go_wp2
          refine bodyPost_ret (v := .agg #[.slice a 5 c, .slice a' 3 c']) (by simp [results, Tryd.results10, go_sem, r0, r1]) rfl ?_
          obtain ⟨a3, c3, e3, _, _, H3⟩ := HE'.out
          obtain ⟨a4, c4, e4, _, _, H4⟩ := HC'.out
          rw [hl] at e3 H3
          rw [hl2] at e4 H4
          obtain ⟨rfl, rfl⟩ : a = a3 ∧ c = c3 := by cases e3; exact ⟨rfl, rfl⟩
          obtain ⟨rfl, rfl⟩ : a' = a4 ∧ c' = c4 := by cases e4; exact ⟨rfl, rfl⟩
          exact ⟨a, c, l, a', c', l2, rfl, H3, H4, HX5.out, HX6.out, HR5.out, HR6.out, (hu.out.setCell (Nat.le_refl _) _).setCell (Nat.le_refl _) _⟩

end Go.Proofs.YtnnbcpopjnlnoaaDoor
