/-
  What the statements' meter does (package rialtoplay), as its text runs.
  What the statements' meter does, wherever its count stands, and where there is none, as its text runs.
  What rialtoplay's Hooks answers, of a meter or of none, as its text runs.
-/
import Derived.Test.YtnokokhbcfkifaaGreatDoorHookExt0
import Derived.Deep.RegionLaw
import Derived.Test.YtnokokhbcfkifaaGreatDoorSlcAll
import Derived.Deep.AppendLies
namespace Go.Proofs.YtnokokhbcfkifaaGreatDoor
open Go.ChangeShapes Go.WideShapes Go.ChangeAt Go.RowKit
set_option linter.unusedVariables false
attribute [local go_sem ↓] Go.wp_at_zero Go.wp_at_succ

/-- A meter. -/
def Met (w : World) (b : Nat) (c a h s : Int) : Prop := (w.cell? ⟨b, 0, none⟩ = some (.int .i64 c) ∧ w.cell? ⟨b, 1, none⟩ = some (.int .i64 a) ∧ w.cell? ⟨b, 2, none⟩ = some (.int .i64 h) ∧ w.cell? ⟨b, 3, none⟩ = some (.int .i64 s)) ∧ ∀ i, w.frozen? ⟨b, i, none⟩ = false
theorem Met.chg {C : Nat → Prop} {w w' : World} {b : Nat} {c a h s : Int} (m : Met w b c a h s) (hc : Chg C w w') (hn : ¬ C b) : Met w' b c a h s :=
  ⟨⟨hc.cell m.1.1 hn, hc.cell m.1.2.1 hn, hc.cell m.1.2.2.1 hn, hc.cell m.1.2.2.2 hn⟩, fun i => (hc.frozen (p := ⟨b, i, none⟩) (World.block_lt_of_cell? w ⟨b, 0, none⟩ m.1.1) hn).trans (m.2 i)⟩
theorem Met.up {w w' : World} {b : Nat} {c a h s : Int} (m : Met w b c a h s) (hu : Up w w') : Met w' b c a h s := m.chg (C := fun _ => False) (Chg.of_up hu) id

set_option maxRecDepth 20000 in
set_option maxHeartbeats 4000000 in
theorem mset_calls (b : Nat) (c a h s n how : Int) (w : World) (hn : n = 0 ∨ n = 1) (hm : Met w b c a h s) :
    Calls Tryz.prog 13 #[.pointer (some ⟨b, 0, none⟩), .int .i64 n, .int .i64 how] w fun e w' => e = .returned (.tuple #[]) ∧ Met w' b 0 n (bits .and .i64 how 1023) 0 ∧ Chg (fun x => x = b) w w' := by
  obtain ⟨⟨m0, m1, m2, m3⟩, mf⟩ := hm
  have f0 := mf 0
  have f1 := mf 1
  have f2 := mf 2
  have f3 := mf 3
  have HF := hide mf
  clear mf
  have hmx1 : max (1 : Int) 0 = 1 := by decide
  rcases hn with rfl | rfl
  · go_enter Tryz.func13, Tryz.ntmps13
    go_wp2_with fail
    go_end0
    refine ⟨rfl, ⟨⟨by go_simp, by go_simp, by go_simp, by go_simp⟩, fun i => by simp only [World.frozen?_setCell]; exact HF.out i⟩, chg_set4 w b _ _ _ _⟩
  · go_enter Tryz.func13, Tryz.ntmps13
    go_wp2_with fail
    go_end0
    refine ⟨rfl, ⟨⟨by go_simp, by go_simp, by go_simp, by go_simp⟩, fun i => by simp only [World.frozen?_setCell]; exact HF.out i⟩, chg_set4 w b _ _ _ _⟩

set_option maxRecDepth 20000 in
set_option maxHeartbeats 4000000 in
theorem tick_0 (b : Nat) (h : Int) (w : World) (hm : Met w b 0 0 h 0) :
    Calls Tryz.prog 51 #[.pointer (some ⟨b, 0, none⟩)] w fun e w' => e = .returned .nilIface ∧ Met w' b 1 0 h 0 ∧ Chg (fun x => x = b) w w' := by
  obtain ⟨⟨m0, m1, m2, m3⟩, mf⟩ := hm
  have f0 := mf 0
  have HF := hide mf
  clear mf
  go_enter Tryz.func51, Tryz.ntmps51
  go_wp2_with fail
  go_quiet (fail)
  go_wp2
  go_ret
  refine ⟨rfl, ⟨⟨?_, ?_, ?_, ?_⟩, fun i => ?_⟩, (chg_set1 w b _).andUp ((Up.refl _).drewN _)⟩
  · exact World.cell?_setCell_same _ _ _ m0
  · exact (World.cell?_setCell_other _ _ _ _ (by intro e; cases e)).trans m1
  · exact (World.cell?_setCell_other _ _ _ _ (by intro e; cases e)).trans m2
  · exact (World.cell?_setCell_other _ _ _ _ (by intro e; cases e)).trans m3
  · show (w.setCell _ _).frozen? _ = false
    rw [World.frozen?_setCell]
    exact HF.out i

theorem mark_calls (b : Nat) (w : World) (m1 : w.cell? ⟨b, 1, none⟩ = some (.int .i64 1)) : Calls Tryz.prog 74 #[.pointer (some ⟨b, 0, none⟩)] w fun e w' => e = .returned (.int .i64 1001) ∧ w' = w := by
  go_enter Tryz.func74, Tryz.ntmps74
  go_wp2
  go_ret
  exact ⟨rfl, rfl⟩

set_option maxRecDepth 20000 in
set_option maxHeartbeats 4000000 in
theorem tick_1 (b : Nat) (h : Int) (w : World) (hm : Met w b 0 1 h 0) :
    Calls Tryz.prog 51 #[.pointer (some ⟨b, 0, none⟩)] w fun e w' => ∃ q, e = .returned (.iface 147 (.pointer (some ⟨q, 0, none⟩))) ∧ Met w' b 1 1 h 1 ∧ Chg (fun x => x = b) w w' ∧ w.heap.size ≤ q ∧ w'.cell? ⟨q, 0, none⟩ = some (.int .i64 1001) := by
  obtain ⟨⟨m0, m1, m2, m3⟩, mf⟩ := hm
  have f0 := mf 0
  have f3 := mf 3
  have hb : b < w.heap.size := World.block_lt_of_cell? w _ m0
  have HF := hide mf
  clear mf
  go_enter Tryz.func51, Tryz.ntmps51
  go_wp2_with fail
  go_quiet (fail)
  go_wp2_with fail
  obtain ⟨X, hX⟩ : ∃ X, X = (((w.setCell ⟨b, 0, none⟩ (.int .i64 1)).drewN nq).setCell ⟨b, 3, none⟩ (.int .i64 1)) := ⟨_, rfl⟩
  have cX : Hid (Chg (fun x => x = b) w X) := by rw [hX]; exact Chg.set' (C := fun x => x = b) ⟨b, 3, none⟩ _ rfl ((chg_set1 w b _).andUp ((Up.refl _).drewN _))
  have MX : Hid (Met X b 1 1 h 1) := by
    rw [hX]
    refine ⟨⟨?_, ?_, ?_, ?_⟩, fun i => ?_⟩
    · exact (World.cell?_setCell_other _ _ _ _ (by intro e; cases e)).trans (World.cell?_setCell_same _ _ _ m0)
    · exact (World.cell?_setCell_other _ _ _ _ (by intro e; cases e)).trans ((World.cell?_setCell_other _ _ _ _ (by intro e; cases e)).trans m1)
    · exact (World.cell?_setCell_other _ _ _ _ (by intro e; cases e)).trans ((World.cell?_setCell_other _ _ _ _ (by intro e; cases e)).trans m2)
    · exact World.cell?_setCell_same _ _ _ ((World.cell?_setCell_other _ _ _ _ (by intro e; cases e)).trans m3)
    · rw [World.frozen?_setCell]
      show (w.setCell _ _).frozen? _ = false
      rw [World.frozen?_setCell]
      exact HF.out i
  rw [← hX]
  clear hX m0 m1 m2 m3 f0 f3 HF
  go_at_call 74
  refine (mark_calls b X MX.out.1.2.1).mono ?_
  rintro _ x2 ⟨rfl, rfl⟩
  go_wp2
  go_ret
  exact ⟨_, rfl, MX.out.up ((Up.refl _).alloc _), cX.out.alloc _, cX.out.size, by go_simp⟩

end Go.Proofs.YtnokokhbcfkifaaGreatDoor

namespace Go.Proofs.YtnokokhbcfkifaaGreatDoor
open Go.ChangeShapes Go.WideShapes Go.ChangeAt Go.RowKit
set_option linter.unusedVariables false
attribute [local go_sem ↓] Go.wp_at_zero Go.wp_at_succ

/-- The block of a meter, if there is one. -/
def InM (mp : Option Addr) (g : Nat) : Prop := ∃ p, mp = some p ∧ g = p.block
/-- A meter, or none. -/
def MetO (w : World) (mp : Option Addr) (c a h s : Int) : Prop := ∀ p, mp = some p → p = ⟨p.block, 0, none⟩ ∧ Met w p.block c a h s
theorem MetO.chg {C : Nat → Prop} {w w' : World} {mp : Option Addr} {c a h s : Int} (m : MetO w mp c a h s) (hc : Chg C w w') (hn : ∀ g, InM mp g → ¬ C g) : MetO w' mp c a h s :=
  fun p hp => ⟨(m p hp).1, (m p hp).2.chg hc (hn _ ⟨p, hp, rfl⟩)⟩
theorem MetO.up {w w' : World} {mp : Option Addr} {c a h s : Int} (m : MetO w mp c a h s) (hu : Up w w') : MetO w' mp c a h s := m.chg (C := fun _ => False) (Chg.of_up hu) (fun _ _ => id)
theorem MetO.lt {w : World} {mp : Option Addr} {c a h s : Int} (m : MetO w mp c a h s) {g : Nat} (hg : InM mp g) : g < w.heap.size := by
  obtain ⟨p, hp, rfl⟩ := hg
  exact World.block_lt_of_cell? w ⟨p.block, 0, none⟩ (m p hp).2.1.1

theorem mset_g (b : Nat) (c a h s n how : Int) (w : World) (hn : 0 ≤ n) (hm : Met w b c a h s) :
    Calls Tryz.prog 13 #[.pointer (some ⟨b, 0, none⟩), .int .i64 n, .int .i64 how] w fun e w' => e = .returned (.tuple #[]) ∧ Met w' b 0 n (bits .and .i64 how 1023) 0 ∧ Chg (fun x => x = b) w w' := by
  obtain ⟨⟨m0, m1, m2, m3⟩, mf⟩ := hm
  have f0 := mf 0
  have f1 := mf 1
  have f2 := mf 2
  have f3 := mf 3
  have HF := hide mf
  clear mf
  have hmx : max n 0 = n := by omega
  clear hn
  go_enter Tryz.func13, Tryz.ntmps13
  go_wp2_with fail
  go_end0
  refine ⟨rfl, ⟨⟨by go_simp, by go_simp, by go_simp, by go_simp⟩, fun i => by simp only [World.frozen?_setCell]; exact HF.out i⟩, chg_set4 w b _ _ _ _⟩

set_option maxRecDepth 20000 in
set_option maxHeartbeats 4000000 in
/-- A call that doesn't strike. -/
theorem tick_go (b : Nat) (c a h s : Int) (w : World) (hc0 : 0 ≤ c) (hc1 : c ≤ 1000000) (ha : a = 0 ∨ ¬ c + 1 = a) (hm : Met w b c a h s) :
    Calls Tryz.prog 51 #[.pointer (some ⟨b, 0, none⟩)] w fun e w' => e = .returned .nilIface ∧ Met w' b (c + 1) a h s ∧ Chg (fun x => x = b) w w' := by
  obtain ⟨⟨m0, m1, m2, m3⟩, mf⟩ := hm
  have f0 := mf 0
  have HF := hide mf
  clear mf
  have fin : Hid (∀ nq : Nat, Met ((w.setCell ⟨b, 0, none⟩ (.int .i64 (c + 1))).drewN nq) b (c + 1) a h s ∧ Chg (fun x => x = b) w ((w.setCell ⟨b, 0, none⟩ (.int .i64 (c + 1))).drewN nq)) := by
    intro nq
    refine ⟨⟨⟨?_, ?_, ?_, ?_⟩, fun i => ?_⟩, (chg_set1 w b _).andUp ((Up.refl _).drewN _)⟩
    · exact World.cell?_setCell_same _ _ _ m0
    · exact (World.cell?_setCell_other _ _ _ _ (by intro e; cases e)).trans m1
    · exact (World.cell?_setCell_other _ _ _ _ (by intro e; cases e)).trans m2
    · exact (World.cell?_setCell_other _ _ _ _ (by intro e; cases e)).trans m3
    · show (w.setCell _ _).frozen? _ = false
      rw [World.frozen?_setCell]
      exact HF.out i
  by_cases h0 : a = 0
  · subst h0
    clear ha
    go_enter Tryz.func51, Tryz.ntmps51
    go_wp2_with fail
    go_quiet (fail)
    go_wp2
    go_ret
    exact ⟨rfl, fin.out _⟩
  · have t0 : (a == 0) = false := by rw [beq_eq_false_iff_ne]; exact h0
    have t1 : (c + 1 != a) = true := by rw [bne_iff_ne]; exact ha.resolve_left h0
    clear ha h0
    go_enter Tryz.func51, Tryz.ntmps51
    go_wp2_with fail
    go_quiet (fail)
    go_wp2
    go_ret
    exact ⟨rfl, fin.out _⟩

theorem mark_g (b : Nat) (a : Int) (w : World) (ha0 : 0 ≤ a) (ha1 : a ≤ 1001) (m1 : w.cell? ⟨b, 1, none⟩ = some (.int .i64 a)) : Calls Tryz.prog 74 #[.pointer (some ⟨b, 0, none⟩)] w fun e w' => e = .returned (.int .i64 (1000 + a)) ∧ w' = w := by
  go_enter Tryz.func74, Tryz.ntmps74
  go_wp2
  go_ret
  exact ⟨rfl, rfl⟩

set_option maxRecDepth 20000 in
set_option maxHeartbeats 4000000 in
/-- One that does. -/
theorem tick_hit (b : Nat) (c h : Int) (w : World) (hc0 : 0 ≤ c) (hc1 : c ≤ 1000) (hm : Met w b c (c + 1) h 0) :
    Calls Tryz.prog 51 #[.pointer (some ⟨b, 0, none⟩)] w fun e w' => ∃ q, e = .returned (.iface 147 (.pointer (some ⟨q, 0, none⟩))) ∧ Met w' b (c + 1) (c + 1) h 1 ∧ Chg (fun x => x = b) w w' ∧ w.heap.size ≤ q ∧ w'.cell? ⟨q, 0, none⟩ = some (.int .i64 (1000 + (c + 1))) := by
  obtain ⟨⟨m0, m1, m2, m3⟩, mf⟩ := hm
  have f0 := mf 0
  have f3 := mf 3
  have hb : b < w.heap.size := World.block_lt_of_cell? w _ m0
  have HF := hide mf
  have t0 : (c + 1 == 0) = false := by rw [beq_eq_false_iff_ne]; omega
  have t1 : (c + 1 != c + 1) = false := by simp
  clear mf
  go_enter Tryz.func51, Tryz.ntmps51
  go_wp2_with fail
  go_quiet (fail)
  go_wp2_with fail
  obtain ⟨X, hX⟩ : ∃ X, X = (((w.setCell ⟨b, 0, none⟩ (.int .i64 (c + 1))).drewN nq).setCell ⟨b, 3, none⟩ (.int .i64 1)) := ⟨_, rfl⟩
  have cX : Hid (Chg (fun x => x = b) w X) := by rw [hX]; exact Chg.set' (C := fun x => x = b) ⟨b, 3, none⟩ _ rfl ((chg_set1 w b _).andUp ((Up.refl _).drewN _))
  have MX : Hid (Met X b (c + 1) (c + 1) h 1) := by
    rw [hX]
    refine ⟨⟨?_, ?_, ?_, ?_⟩, fun i => ?_⟩
    · exact (World.cell?_setCell_other _ _ _ _ (by intro e; cases e)).trans (World.cell?_setCell_same _ _ _ m0)
    · exact (World.cell?_setCell_other _ _ _ _ (by intro e; cases e)).trans ((World.cell?_setCell_other _ _ _ _ (by intro e; cases e)).trans m1)
    · exact (World.cell?_setCell_other _ _ _ _ (by intro e; cases e)).trans ((World.cell?_setCell_other _ _ _ _ (by intro e; cases e)).trans m2)
    · exact World.cell?_setCell_same _ _ _ ((World.cell?_setCell_other _ _ _ _ (by intro e; cases e)).trans m3)
    · rw [World.frozen?_setCell]
      show (w.setCell _ _).frozen? _ = false
      rw [World.frozen?_setCell]
      exact HF.out i
  rw [← hX]
  clear hX m0 m1 m2 m3 f0 f3 HF
  go_at_call 74
  refine (mark_g b (c + 1) X (by omega) (by omega) MX.out.1.2.1).mono ?_
  rintro _ x2 ⟨rfl, rfl⟩
  go_wp2
  go_ret
  exact ⟨_, rfl, MX.out.up ((Up.refl _).alloc _), cX.out.alloc _, cX.out.size, by go_simp⟩

/-- Where there is no meter nothing is counted. -/
theorem tick_none (w : World) : Calls Tryz.prog 51 #[.pointer none] w fun e w' => e = .returned .nilIface ∧ w' = w := by
  go_enter Tryz.func51, Tryz.ntmps51
  go_wp2
  go_ret
  exact ⟨rfl, rfl⟩
theorem tickO (mp : Option Addr) (c a h s : Int) (w : World) (hc0 : 0 ≤ c) (hc1 : c ≤ 1000000) (ha : a = 0 ∨ ¬ c + 1 = a) (hm : MetO w mp c a h s) :
    Calls Tryz.prog 51 #[.pointer mp] w fun e w' => e = .returned .nilIface ∧ MetO w' mp (c + 1) a h s ∧ Chg (InM mp) w w' := by
  cases mp with
  | none =>
    refine (tick_none w).mono ?_
    rintro _ w1 ⟨rfl, rfl⟩
    exact ⟨rfl, fun p hp => (by cases hp), Chg.refl _ _⟩
  | some p =>
    obtain ⟨hp, hm⟩ := hm p rfl
    obtain ⟨b, o, sp⟩ := p
    cases hp
    refine (tick_go b c a h s w hc0 hc1 ha hm).mono ?_
    rintro _ w1 ⟨rfl, h1, h2⟩
    exact ⟨rfl, fun p hp => (by cases hp; exact ⟨rfl, h1⟩), h2.mono (fun x _ e => ⟨_, rfl, e⟩)⟩

end Go.Proofs.YtnokokhbcfkifaaGreatDoor

namespace Go.Proofs.YtnokokhbcfkifaaGreatDoor
open Go.ChangeShapes Go.WideShapes Go.ChangeAt Go.RowKit
set_option linter.unusedVariables false
attribute [local go_sem ↓] Go.wp_at_zero Go.wp_at_succ

def FitsH (v : Value) : Prop := v = .nilFunc ∨ ∃ f x y, v = .func f x y
/-- A row of functions. -/
abbrev FnsH := Slc 1 (fun v => [v]) Value.nilFunc FitsH
theorem Slc.fnH {w : World} {a : Option Addr} {n : Nat} {l : List Value} (h : FnsH w a n l) {i : Nat} (hi : i < n) :
    ∃ b off, a = some ⟨b, off, none⟩ ∧ w.cell? ⟨b, off + i, none⟩ = some (l.getD i .nilFunc) := by
  rcases h.2.2 with h0 | ⟨b, off, ha, hx⟩
  · omega
  · exact ⟨b, off, ha, by simpa using hx i hi 0 _ rfl⟩

def oneH (v : Value) : List Value := [v]
theorem info_xtrH : (Tryz.prog.info? 89).map (fun i => (i.zero, i.size, i.bytes)) = some (some .nilFunc, 1, 8) := by kernel_rfl
theorem info_cprH : (Tryz.prog.info? 30).map (fun i => (i.zero, i.size, i.bytes)) = some (some .nilFunc, 1, 8) := by kernel_rfl
abbrev OwnEH := OwnG (α := Value) 89 1 oneH
abbrev OwnCH := OwnG (α := Value) 30 1 oneH
theorem oneCell_fnH {v : Value} (h : FitsH v) : v.oneCell' = true := by
  rcases h with rfl | ⟨f, x, y, rfl⟩ <;> rfl
theorem fn_newH {w : World} {t : TypeId} (v : Value) : ∀ j u, (oneH v)[j]? = some u → (w.alloc (.cells #[v] t)).cell? ((⟨w.heap.size, 0, none⟩ : Addr).add j) = some u := by
  intro j u hj
  match j with
  | 0 => simp [oneH] at hj; subst hj; simp [Addr.add]
  | j + 1 => simp [oneH] at hj

/-- append of a function at a step of a region that draws its order. -/
theorem step_append_fnH {P : Program} {t e : TypeId} (ht : P.underlying t = some (.slice e)) (hi' : (P.info? e).map (fun i => (i.zero, i.size, i.bytes)) = some (some .nilFunc, 1, 8))
    {w : World} {ops : Array Oper} {o : Oper} {a : Act} {K : Act → World → Prop} {Q : Exit → Act → World → Prop} {E : Prop} (hgd : o.guard = none) (s x : Operand)
    (ho : o.op = .call { callee := .builtin .append, args := #[s, x], argTypes := #[t, t] }) (base : Nat) (v : Value) (l : List Value) (hs : a.eval s = v) (hown : OwnG e 1 oneH w base v l)
    (ad : Addr) (c : Nat) (new : Value) (hx : a.eval x = .slice (some ad) 1 c) (hfit : FitsH new) (hnews : ∀ j u, (oneH new)[j]? = some u → w.cell? (ad.add j) = some u)
    (hlen : l.length + 1 ≤ 1000000) (hbase : base ≤ w.heap.size)
    (h : ∀ g cap w', OwnG e 1 oneH w' base (.slice (some ⟨g, 0, none⟩) (l.length + 1) cap) (l ++ [new]) → w.grownBy w' v.ownBlock → K (a.put o.dst (.slice (some ⟨g, 0, none⟩) (l.length + 1) cap)) w') : if Region.wanted o (yielded ops a.tmps) = true then Oper.wp P o a w K Q else E := by
  obtain ⟨i0, hi, hz0, hz1, hz2⟩ := info_parts hi'
  refine step_append_lies w hgd s x t ho base e i0 .nilFunc 1 8 ht hi hz0 hz1 hz2 rfl (by decide) v l.length (l.flatMap oneH) hs hown ad 1 c (oneH new) hx rfl hnews (fun u hu => ?_) (by decide) (by unfold maxLen; omega) (by omega) hbase w.heap.size rfl fun g cap w' h1 h2 _ _ => h g cap w' ?_ h2
  · simp only [oneH, List.mem_singleton] at hu; subst hu; exact oneCell_fnH hfit
  · unfold OwnG
    rw [List.length_append, List.flatMap_append, List.flatMap_singleton]
    exact h1
theorem OwnG.keepH {α : Type} {e : TypeId} {k : Nat} {cs : α → List Value} {w w' : World} {base B : Nat} {v : Value} {l : List α} (h : OwnG e k cs w base v l) (hb : Below B w w') (hg : ∀ g, v.ownBlock = some g → g < B) : OwnG e k cs w' base v l := by
  refine ⟨h.1, ?_⟩
  rcases h.2 with h0 | ⟨g, cap, cur, rfl, hb', hh, hr⟩
  · exact .inl h0
  · exact .inr ⟨g, cap, cur, rfl, hb', (hb.block g (hg g rfl)).trans hh, hr⟩
/-- Two cells that hold nothing yet. -/
def FreeH (w : World) (R : Nat) : Prop := w.cell? ⟨R, 0, none⟩ = some (.slice none 0 0) ∧ w.cell? ⟨R, 1, none⟩ = some (.slice none 0 0) ∧ ∀ j, w.frozen? ⟨R, j, none⟩ = false
theorem FreeH.below {w w' : World} {R B : Nat} (h : FreeH w R) (hb : Below B w w') (hR : R < B) : FreeH w' R :=
  ⟨(hb.cell (p := ⟨R, 0, none⟩) hR).trans h.1, (hb.cell (p := ⟨R, 1, none⟩) hR).trans h.2.1, fun j => (hb.frozen (p := ⟨R, j, none⟩) hR).trans (h.2.2 j)⟩
theorem FreeH.setCell {w : World} {R : Nat} (h : FreeH w R) (a : Addr) (v : Value) (ha : R ≠ a.block) : FreeH (w.setCell a v) R :=
  ⟨(World.cell?_setCell_other _ _ _ _ (fun e => ha (congrArg Addr.block e).symm)).trans h.1, (World.cell?_setCell_other _ _ _ _ (fun e => ha (congrArg Addr.block e).symm)).trans h.2.1, fun j => by rw [World.frozen?_setCell]; exact h.2.2 j⟩

/-- A function of the statements' own, with its number and its meter. -/
def XtrFn (F : FuncId) (w : World) (mp : Option Addr) (B j : Nat) (v : Value) : Prop := ∃ mx nx, v = .func (.func F) #[] #[.pointer (some ⟨mx, 0, none⟩), .pointer (some ⟨nx, 0, none⟩)] ∧ w.cell? ⟨mx, 0, none⟩ = some (.pointer mp) ∧ w.cell? ⟨nx, 0, none⟩ = some (.int .i64 (j : Int)) ∧ B ≤ mx ∧ B ≤ nx
def AllX (F : FuncId) (w : World) (mp : Option Addr) (B : Nat) (l : List Value) : Prop := ∀ i, i < l.length → XtrFn F w mp B i (l.getD i .nilFunc)
def NoFn (u : Value) : Prop := ∀ f x y, u ≠ .func f x y
theorem AllX.keep {F : FuncId} {w w' : World} {mp : Option Addr} {B : Nat} {l : List Value} (h : AllX F w mp B l) (hp : ∀ b u, B ≤ b → NoFn u → w.cell? ⟨b, 0, none⟩ = some u → w'.cell? ⟨b, 0, none⟩ = some u) : AllX F w' mp B l := by
  intro i hi
  obtain ⟨mx, nx, h1, h2, h3, h4, h5⟩ := h i hi
  exact ⟨mx, nx, h1, hp mx _ h4 (fun _ _ _ e => by cases e) h2, hp nx _ h5 (fun _ _ _ e => by cases e) h3, h4, h5⟩
theorem AllX.add {F : FuncId} {w : World} {mp : Option Addr} {B : Nat} {l : List Value} {v : Value} (h : AllX F w mp B l) (hv : XtrFn F w mp B l.length v) : AllX F w mp B (l ++ [v]) := by
  intro i hi
  rw [List.getD_eq_getElem?_getD]
  by_cases hx : i < l.length
  · rw [List.getElem?_append_left hx, ← List.getD_eq_getElem?_getD]
    exact h i hx
  · have e : i = l.length := by simp at hi; omega
    subst e
    rw [List.getElem?_append_right (Nat.le_refl _), Nat.sub_self]
    exact hv
theorem AllX.fits {F : FuncId} {w : World} {mp : Option Addr} {B : Nat} {l : List Value} (h : AllX F w mp B l) (i : Nat) : FitsH (l.getD i .nilFunc) := by
  by_cases hx : i < l.length
  · obtain ⟨mx, nx, h1, _⟩ := h i hx
    exact .inr ⟨_, _, _, h1⟩
  · rw [List.getD_eq_getElem?_getD, List.getElem?_eq_none (by omega)]
    exact .inl rfl
theorem own_not {e : TypeId} {F : FuncId} {w w0 : World} {mp : Option Addr} {B base : Nat} {v : Value} {l : List Value} (h : OwnG e 1 oneH w base v l) (hx : AllX F w0 mp B l) (h0 : l = [] → v = .slice none 0 0) {b : Nat} {u : Value} (hc : w.cell? ⟨b, 0, none⟩ = some u) (hu : NoFn u) : v.ownBlock ≠ some b := by
  intro hb
  by_cases hl : l = []
  · rw [h0 hl] at hb
    cases hb
  · have hpos : 0 < l.length := List.length_pos_iff.2 hl
    rcases h.2 with ⟨rfl, hn⟩ | ⟨g, cap, cur, rfl, _⟩
    · cases hb
    · have hg : g = b := by
        have : some g = some b := hb
        exact Option.some.inj this
      subst hg
      have h1 := h.cellAt 0 (by omega)
      obtain ⟨mx, nx, h2, _⟩ := hx 0 hpos
      cases l with
      | nil => exact hl rfl
      | cons a t =>
        have h3 : ((a :: t).flatMap oneH)[0]? = some a := by simp [oneH]
        rw [h3, hc] at h1
        cases h1
        exact hu _ _ _ h2
theorem grown_cell {w w' : World} {v : Value} (hg : w.grownBy w' v.ownBlock) {b : Nat} {u : Value} (hc : w.cell? ⟨b, 0, none⟩ = some u) (hn : v.ownBlock ≠ some b) : w'.cell? ⟨b, 0, none⟩ = some u :=
  (World.cell?_of_block (w := w) (hg.block b (World.block_lt_of_cell? w _ hc) (fun e => hn e.symm))).trans hc

theorem own_ge {e : TypeId} {w : World} {base B n c : Nat} {a : Option Addr} {l : List Value} (h : OwnG e 1 oneH w base (.slice a n c) l) {b : Nat} (hb : RowB a b) (hB : B ≤ base) : B ≤ b := by
  obtain ⟨o, rfl⟩ := hb
  exact Nat.le_trans hB (h.lt b rfl).1

theorem extractorM_calls (mp : Option Addr) (j : Nat) (w : World) : Calls Tryz.prog 32 #[.int .i64 (j : Int), .pointer mp] w fun e w' => (∃ f x y, e = .returned (.func f x y) ∧ XtrFn 50 w' mp w.heap.size j (.func f x y)) ∧ Up w w' := by
  go_enter Tryz.func32, Tryz.ntmps32
  go_wp2
  go_ret
  exact ⟨⟨_, _, _, rfl, w.heap.size + 1, w.heap.size, rfl, by go_simp, by go_simp, by omega, Nat.le_refl _⟩, ((Up.refl _).alloc _).alloc _⟩
theorem comparatorM_calls (mp : Option Addr) (j : Nat) (w : World) : Calls Tryz.prog 33 #[.int .i64 (j : Int), .pointer mp] w fun e w' => (∃ f x y, e = .returned (.func f x y) ∧ XtrFn 53 w' mp w.heap.size j (.func f x y)) ∧ Up w w' := by
  go_enter Tryz.func33, Tryz.ntmps33
  go_wp2
  go_ret
  exact ⟨⟨_, _, _, rfl, w.heap.size + 1, w.heap.size, rfl, by go_simp, by go_simp, by omega, Nat.le_refl _⟩, ((Up.refl _).alloc _).alloc _⟩
theorem XtrFn.mono {F : FuncId} {w : World} {mp : Option Addr} {B B' j : Nat} {v : Value} (h : XtrFn F w mp B j v) (hB : B' ≤ B) : XtrFn F w mp B' j v := by
  obtain ⟨mx, nx, h1, h2, h3, h4, h5⟩ := h
  exact ⟨mx, nx, h1, h2, h3, Nat.le_trans hB h4, Nat.le_trans hB h5⟩
theorem XtrFn.keep {F : FuncId} {w w' : World} {mp : Option Addr} {B j : Nat} {v : Value} (h : XtrFn F w mp B j v) (hp : ∀ b u, B ≤ b → NoFn u → w.cell? ⟨b, 0, none⟩ = some u → w'.cell? ⟨b, 0, none⟩ = some u) : XtrFn F w' mp B j v := by
  obtain ⟨mx, nx, h1, h2, h3, h4, h5⟩ := h
  exact ⟨mx, nx, h1, hp mx _ h4 (fun _ _ _ e => by cases e) h2, hp nx _ h5 (fun _ _ _ e => by cases e) h3, h4, h5⟩

theorem AllX.low {F : FuncId} {w : World} {mp : Option Addr} {B B' : Nat} {l : List Value} (h : AllX F w mp B l) (hB : B' ≤ B) : AllX F w mp B' l := fun i hi => (h i hi).mono hB

set_option maxRecDepth 20000 in
set_option maxHeartbeats 4000000 in
theorem phooksM_calls (mp : Option Addr) (w : World) : Calls Tryz.prog 10 #[.pointer mp] w fun e w' => ∃ a c l a' c' l', e = .returned (.agg #[.slice a 5 c, .slice a' 3 c']) ∧ FnsH w' a 5 l ∧ FnsH w' a' 3 l' ∧ AllX 50 w' mp w.heap.size l ∧ AllX 53 w' mp w.heap.size l' ∧ (∀ b, RowB a b → w.heap.size ≤ b) ∧ (∀ b, RowB a' b → w.heap.size ≤ b) ∧ Up w w' := by
  go_enter Tryz.func10, Tryz.ntmps10
  go_wp2_with fail
  obtain ⟨B, hB⟩ : ∃ B, B = w.heap.size + 2 := ⟨_, rfl⟩
  obtain ⟨D, hD⟩ : ∃ D, D = w.heap.size + 1 := ⟨_, rfl⟩
  have hsz : ((w.alloc (.cells #[.slice none 0 0, .slice none 0 0] 34)).alloc (.cells #[.slice none 0 0, .slice none 0 0] 34)).heap.size = B := by rw [hB]; simp
  have k0 : ((w.alloc (.cells #[.slice none 0 0, .slice none 0 0] 34)).alloc (.cells #[.slice none 0 0, .slice none 0 0] 34)).cell? ⟨D, 0, none⟩ = some (.slice none 0 0) := by rw [hD]; go_simp
  have k1 : ((w.alloc (.cells #[.slice none 0 0, .slice none 0 0] 34)).alloc (.cells #[.slice none 0 0, .slice none 0 0] 34)).cell? ⟨D, 1, none⟩ = some (.slice none 0 0) := by rw [hD]; go_simp
  have kf : ∀ j, ((w.alloc (.cells #[.slice none 0 0, .slice none 0 0] 34)).alloc (.cells #[.slice none 0 0, .slice none 0 0] 34)).frozen? ⟨D, j, none⟩ = false := by rw [hD]; intro j; go_simp
  have kr : FreeH ((w.alloc (.cells #[.slice none 0 0, .slice none 0 0] 34)).alloc (.cells #[.slice none 0 0, .slice none 0 0] 34)) w.heap.size := ⟨by go_simp, by go_simp, fun j => by go_simp⟩
  have hu0 : Up w ((w.alloc (.cells #[.slice none 0 0, .slice none 0 0] 34)).alloc (.cells #[.slice none 0 0, .slice none 0 0] 34)) := ((Up.refl _).alloc _).alloc _
  rw [← hD]
  generalize (w.alloc (.cells #[.slice none 0 0, .slice none 0 0] 34)).alloc (.cells #[.slice none 0 0, .slice none 0 0] 34) = W0 at *
  have hDB : D < B := by omega
  have hwD : w.heap.size ≤ D := by omega
  have hwD1 : w.heap.size ≠ D := by omega
  clear hB hD
  go_loopw [4] (fun i wr => ∃ (j : Nat) (v : Value) (l : List Value), j ≤ 5 ∧ i = .int .i64 j ∧ l.length = j ∧ (AllX 50 wr mp B l ∧ (l = [] → v = .slice none 0 0)) ∧ OwnEH wr B v l ∧ Up w wr ∧ B ≤ wr.heap.size ∧ wr.cell? ⟨D, 0, none⟩ = some v ∧ wr.cell? ⟨D, 1, none⟩ = some (.slice none 0 0) ∧ (∀ j, wr.frozen? ⟨D, j, none⟩ = false) ∧ FreeH wr w.heap.size) (fun i _ => 5 - (intOf i).toNat)
  case atStart => exact ⟨0, _, [], by decide, rfl, rfl, ⟨fun i hi => absurd hi (Nat.not_lt_zero i), fun _ => rfl⟩, OwnG.nil _ _ _ _ _, hu0, Nat.le_of_eq hsz.symm, k0, k1, kf, kr⟩
  case round =>
    clear hsz k0 k1 kf hu0 kr
    obtain ⟨j, v, l, hj, rfl, hl, hall, ho, hu, hsz, c0, c1, fz, hr⟩ := hrel
    replace hu := hide hu
    replace hall := hide hall
    by_cases hlt : j < 5
    · have t0 : decide ((j : Int) < 5) = true := decide_eq_true (by omega)
      have f0 := fz 0
      have hDs : D < wr.heap.size := by omega
      go_wp2_with fail
      go_region_law
        (first
          | (refine step_append_fnH Tryz.underlying31 info_xtrH rfl _ _ (by rfl) B _ _ (by rfl) (OwnG.alloc (OwnG.up (w := wr.drew) ho hu2) _) _ 1 (.func f x y) (by rfl) (.inr ⟨f, x, y, rfl⟩) (fn_newH _) (by omega) (Nat.le_trans hsz (Nat.le_trans hs2 (by simp))) ?_; intro g cap w3 ho3 hg3; have hb3 := OwnG.below (Below.refl B _) (Nat.le_trans hsz (Nat.le_trans hs2 (by simp))) (OwnG.alloc (OwnG.up (w := wr.drew) ho hu2) _) hg3; have ub := (Up.refl w2).alloc (.cells #[.func f x y] 89); have c3 := (hb3.cell (p := ⟨D, 0, none⟩) hDB).trans (ub.cell c0'); have f3 := (hb3.frozen (p := ⟨D, 0, none⟩) hDB).trans ((ub.frozen (p := ⟨D, 0, none⟩) hD2).trans ((hu2.frozen (p := ⟨D, 0, none⟩) hDs).trans f0)))
          | (go_simp; go_at_call 32; refine (extractorM_calls mp j _).mono ?_; rintro _ w2 ⟨⟨f, x, y, rfl, hxf⟩, hu2⟩; have hs2 := hu2.size; have c0' := hu2.cell (p := ⟨D, 0, none⟩) (v := v) c0; have hD2 : D < w2.heap.size := Nat.lt_of_lt_of_le hDs hs2; dsimp only))
      all_goals (
        have q1 := hide ((hb3.cell (p := ⟨D, 1, none⟩) hDB).trans (ub.cell (hu2.cell (p := ⟨D, 1, none⟩) c1)))
        have qf : Hid (∀ j, w3.frozen? ⟨D, j, none⟩ = false) := fun j => (hb3.frozen (p := ⟨D, j, none⟩) hDB).trans ((ub.frozen (p := ⟨D, j, none⟩) hD2).trans ((hu2.frozen (p := ⟨D, j, none⟩) hDs).trans (fz j)))
        have qu : Hid (Up w w3) := Below.trans (hu.out.drew.trans (hu2.trans ub)).below (Below.mono hb3 (by omega))
        have qr := hide ((((show FreeH wr.drew w.heap.size from hr).below (hu2.below) (Nat.lt_of_le_of_lt hwD hDs)).below ub.below (Nat.lt_of_le_of_lt hwD hD2)).below hb3 (Nat.lt_of_le_of_lt hwD hDB))
        have qs : B ≤ w3.heap.size := Nat.le_trans hsz (Nat.le_trans hs2 (Nat.le_trans (by simp) hb3.size))
        replace ho3 := hide ho3
        have hkp : ∀ b u, NoFn u → wr.cell? ⟨b, 0, none⟩ = some u → w3.cell? ⟨b, 0, none⟩ = some u := fun b u hu' hc' => grown_cell hg3 (ub.cell (hu2.cell (p := ⟨b, 0, none⟩) hc')) (own_not (OwnG.alloc (OwnG.up (w := wr.drew) ho hu2) _) hall.out.1 hall.out.2 (ub.cell (hu2.cell (p := ⟨b, 0, none⟩) hc')) hu')
        have ha3 := hide (AllX.add (hall.out.1.keep (fun b u _ => hkp b u)) (XtrFn.mono (by rw [hl]; exact hxf.keep (fun b u _ hu' hc' => grown_cell hg3 (ub.cell hc') (own_not (OwnG.alloc (OwnG.up (w := wr.drew) ho hu2) _) hall.out.1 hall.out.2 (ub.cell hc') hu'))) hsz))
        clear hkp hxf
        replace c3 := hide c3
        clear hg3 hb3 ub f3 c0' hu2 hs2 hD2 ho c0 c1 fz f0 hr
        go_wp2
        go_roundw
        case rel =>
          exact ⟨j + 1, _, l ++ [.func f x y], by omega, by go_num, by simp [hl], ⟨ha3.out.keep (fun b u hb _ hc' => (World.cell?_setCell_other _ _ _ _ (by intro e; have := congrArg Addr.block e; simp at this; omega)).trans hc'), fun e => by simp at e⟩, ownsRow_setCell_below (hl ▸ ho3.out) hDB _, qu.out.setCell hwD _, by simpa using qs, World.cell?_setCell_same _ _ _ c3.out, (World.cell?_setCell_other _ _ _ _ (by simp)).trans q1.out, fun j => by rw [World.frozen?_setCell]; exact qf.out j, qr.out.setCell _ _ (by show w.heap.size ≠ D; exact hwD1)⟩
        case measure => simp [intOf]; omega)
    · obtain rfl : j = 5 := by omega
      have t0 : decide ((((5 : Nat) : Int)) < 5) = false := by decide
      obtain ⟨a, c, rfl, _, _, HE⟩ := ho.slc (z := .nilFunc) (ok := FitsH) (fun _ => rfl) hall.out.1.fits
      rw [hl] at c0 ho
      rename World => wa
      obtain ⟨B2, hB2⟩ : ∃ B2, B2 = wa.heap.size := ⟨_, rfl⟩
      have hgE : ∀ g, (Value.slice a 5 c).ownBlock = some g → g < B2 := fun g hg => hB2 ▸ (ho.lt g hg).2
      have hDB1 := hDB
      have hDB2 : D < B2 := by omega
      have hallE := hall
      clear hall
      clear hlt hj HE
      go_wp2_with fail
      rw [show ((5 : Nat) : Int) = (5 : Int) from rfl]
      go_loopw [5] (fun i wr => ∃ (j : Nat) (v : Value) (l2 : List Value), j ≤ 3 ∧ i = .int .i64 j ∧ l2.length = j ∧ (AllX 53 wr mp B2 l2 ∧ (l2 = [] → v = .slice none 0 0)) ∧ OwnCH wr B2 v l2 ∧ Up w wr ∧ B2 ≤ wr.heap.size ∧ wr.cell? ⟨D, 1, none⟩ = some v ∧ wr.cell? ⟨D, 0, none⟩ = some (.slice a 5 c) ∧ (∀ j, wr.frozen? ⟨D, j, none⟩ = false) ∧ FreeH wr w.heap.size ∧ OwnEH wr B (.slice a 5 c) l ∧ AllX 50 wr mp B l) (fun i _ => 3 - (intOf i).toNat)
      case atStart => exact ⟨0, _, [], by decide, rfl, rfl, ⟨fun i hi => absurd hi (Nat.not_lt_zero i), fun _ => rfl⟩, OwnG.nil _ _ _ _ _, hu.out, Nat.le_of_eq hB2, c1, c0, fz, hr, ho, hallE.out.1⟩
      case round =>
        clear hu hsz c0 c1 fz hr ho
        obtain ⟨j, v, l2, hj, rfl, hl2, hall, ho, hu, hsz, c0, c1, fz, hr, hoE, hXE⟩ := hrel
        replace hu := hide hu
        replace hall := hide hall
        by_cases hlt : j < 3
        · have t2 : decide ((j : Int) < 3) = true := decide_eq_true (by omega)
          have f0 := fz 1
          have hDs : D < wr.heap.size := by omega
          go_wp2_with fail
          go_region_law
            (first
          | (refine step_append_fnH Tryz.underlying32 info_cprH rfl _ _ (by rfl) B2 _ _ (by rfl) (OwnG.alloc (OwnG.up (w := wr.drew) ho hu2) _) _ 1 (.func f x y) (by rfl) (.inr ⟨f, x, y, rfl⟩) (fn_newH _) (by omega) (Nat.le_trans hsz (Nat.le_trans hs2 (by simp))) ?_; intro g cap w3 ho3 hg3; have hb3 := OwnG.below (Below.refl B2 _) (Nat.le_trans hsz (Nat.le_trans hs2 (by simp))) (OwnG.alloc (OwnG.up (w := wr.drew) ho hu2) _) hg3; have ub := (Up.refl w2).alloc (.cells #[.func f x y] 30); have c3 := (hb3.cell (p := ⟨D, 1, none⟩) hDB2).trans (ub.cell c0'); have f3 := (hb3.frozen (p := ⟨D, 1, none⟩) hDB2).trans ((ub.frozen (p := ⟨D, 1, none⟩) hD2).trans ((hu2.frozen (p := ⟨D, 1, none⟩) hDs).trans f0)))
          | (go_simp; go_at_call 33; refine (comparatorM_calls mp j _).mono ?_; rintro _ w2 ⟨⟨f, x, y, rfl, hxf⟩, hu2⟩; have hs2 := hu2.size; have c0' := hu2.cell (p := ⟨D, 1, none⟩) (v := v) c0; have hD2 : D < w2.heap.size := Nat.lt_of_lt_of_le hDs hs2; dsimp only))
          all_goals (
            have q1 := hide ((hb3.cell (p := ⟨D, 0, none⟩) hDB2).trans (ub.cell (hu2.cell (p := ⟨D, 0, none⟩) c1)))
            have qf : Hid (∀ j, w3.frozen? ⟨D, j, none⟩ = false) := fun j => (hb3.frozen (p := ⟨D, j, none⟩) hDB2).trans ((ub.frozen (p := ⟨D, j, none⟩) hD2).trans ((hu2.frozen (p := ⟨D, j, none⟩) hDs).trans (fz j)))
            have qu : Hid (Up w w3) := Below.trans (hu.out.drew.trans (hu2.trans ub)).below (Below.mono hb3 (by omega))
            have qr := hide ((((show FreeH wr.drew w.heap.size from hr).below (hu2.below) (Nat.lt_of_le_of_lt hwD hDs)).below ub.below (Nat.lt_of_le_of_lt hwD hD2)).below hb3 (Nat.lt_of_le_of_lt hwD hDB2))
            have qs : B2 ≤ w3.heap.size := Nat.le_trans hsz (Nat.le_trans hs2 (Nat.le_trans (by simp) hb3.size))
            have qe := hide (OwnG.keepH (OwnG.alloc (OwnG.up (w := wr.drew) hoE hu2) _) hb3 hgE)
            replace ho3 := hide ho3
            have hkp : ∀ b u, NoFn u → wr.cell? ⟨b, 0, none⟩ = some u → w3.cell? ⟨b, 0, none⟩ = some u := fun b u hu' hc' => grown_cell hg3 (ub.cell (hu2.cell (p := ⟨b, 0, none⟩) hc')) (own_not (OwnG.alloc (OwnG.up (w := wr.drew) ho hu2) _) hall.out.1 hall.out.2 (ub.cell (hu2.cell (p := ⟨b, 0, none⟩) hc')) hu')
            have ha3 := hide (AllX.add (hall.out.1.keep (fun b u _ => hkp b u)) (XtrFn.mono (by rw [hl2]; exact hxf.keep (fun b u _ hu' hc' => grown_cell hg3 (ub.cell hc') (own_not (OwnG.alloc (OwnG.up (w := wr.drew) ho hu2) _) hall.out.1 hall.out.2 (ub.cell hc') hu'))) hsz))
            have hx3 := hide (hXE.keep (fun b u _ => hkp b u))
            clear hkp hxf hXE
            replace c3 := hide c3
            clear hg3 hb3 ub f3 c0' hu2 hs2 hD2 ho c0 c1 fz f0 hr hoE
            go_wp2
            go_roundw
            case rel =>
              exact ⟨j + 1, _, l2 ++ [.func f x y], by omega, by go_num, by simp [hl2], ⟨ha3.out.keep (fun b u hb _ hc' => (World.cell?_setCell_other _ _ _ _ (by intro e; have := congrArg Addr.block e; simp at this; omega)).trans hc'), fun e => by simp at e⟩, ownsRow_setCell_below (hl2 ▸ ho3.out) hDB2 _, qu.out.setCell hwD _, by simpa using qs, World.cell?_setCell_same _ _ _ c3.out, (World.cell?_setCell_other _ _ _ _ (by simp)).trans q1.out, fun j => by rw [World.frozen?_setCell]; exact qf.out j, qr.out.setCell _ _ (by show w.heap.size ≠ D; exact hwD1), ownsRow_setCell_below qe.out hDB1 _, hx3.out.keep (fun b u hb _ hc' => (World.cell?_setCell_other _ _ _ _ (by intro e; have := congrArg Addr.block e; simp at this; omega)).trans hc')⟩
            case measure => simp [intOf]; omega)
        · obtain rfl : j = 3 := by omega
          have t2 : decide ((((3 : Nat) : Int)) < 3) = false := by decide
          have hRB : w.heap.size < B := Nat.lt_of_le_of_lt hwD hDB1
          have hRB2 : w.heap.size < B2 := Nat.lt_of_le_of_lt hwD hDB2
          obtain ⟨a', c', rfl, _, _, _⟩ := ho.slc (z := .nilFunc) (ok := FitsH) (fun _ => rfl) hall.out.1.fits
          rw [hl2] at c0 ho
          have HC' := hide (OwnG.slc (z := .nilFunc) (ok := FitsH) (show OwnCH _ B2 _ _ from ownsRow_setCell_below (ownsRow_setCell_below (hl2 ▸ ho) (a := ⟨w.heap.size, 0, none⟩) hRB2 (.slice a 5 c)) (a := ⟨w.heap.size, 1, none⟩) hRB2 (.slice a' 3 c')) (fun _ => rfl) hall.out.1.fits)
          have HE' := hide (OwnG.slc (z := .nilFunc) (ok := FitsH) (show OwnEH _ B _ _ from ownsRow_setCell_below (ownsRow_setCell_below hoE (a := ⟨w.heap.size, 0, none⟩) hRB (.slice a 5 c)) (a := ⟨w.heap.size, 1, none⟩) hRB (.slice a' 3 c')) (fun _ => rfl) hallE.out.1.fits)
          obtain ⟨r0, r1, rf⟩ := hr
          have rf0 := rf 0
          have rf1 := rf 1
          have hfin : ∀ b u, w.heap.size < b → wr.cell? ⟨b, 0, none⟩ = some u → ((wr.setCell ⟨w.heap.size, 0, none⟩ (.slice a 5 c)).setCell ⟨w.heap.size, 1, none⟩ (.slice a' 3 c')).cell? ⟨b, 0, none⟩ = some u := fun b u hb hc' => (World.cell?_setCell_other _ _ _ _ (by intro e; have := congrArg Addr.block e; simp at this; omega)).trans ((World.cell?_setCell_other _ _ _ _ (by intro e; have := congrArg Addr.block e; simp at this; omega)).trans hc')
          have HX5 := hide (AllX.low (hXE.keep (fun b u hb _ hc' => hfin b u (by omega) hc')) (Nat.le_of_lt hRB))
          have HX6 := hide (AllX.low (hall.out.1.keep (fun b u hb _ hc' => hfin b u (by omega) hc')) (Nat.le_of_lt hRB2))
          have HR5 : Hid (∀ b, RowB a b → w.heap.size ≤ b) := fun b hb => own_ge hoE hb (Nat.le_of_lt hRB)
          have HR6 : Hid (∀ b, RowB a' b → w.heap.size ≤ b) := fun b hb => own_ge ho hb (Nat.le_of_lt hRB2)
          clear hfin ho hoE fz rf hXE
          go_wp2
          refine bodyPost_ret (v := .agg #[.slice a 5 c, .slice a' 3 c']) (by simp [results, Tryz.results10, go_sem, r0, r1]) rfl ?_
          obtain ⟨a3, c3, e3, _, _, H3⟩ := HE'.out
          obtain ⟨a4, c4, e4, _, _, H4⟩ := HC'.out
          rw [hl] at e3 H3
          rw [hl2] at e4 H4
          obtain ⟨rfl, rfl⟩ : a = a3 ∧ c = c3 := by cases e3; exact ⟨rfl, rfl⟩
          obtain ⟨rfl, rfl⟩ : a' = a4 ∧ c' = c4 := by cases e4; exact ⟨rfl, rfl⟩
          exact ⟨a, c, l, a', c', l2, rfl, H3, H4, HX5.out, HX6.out, HR5.out, HR6.out, (hu.out.setCell (Nat.le_refl _) _).setCell (Nat.le_refl _) _⟩

end Go.Proofs.YtnokokhbcfkifaaGreatDoor
