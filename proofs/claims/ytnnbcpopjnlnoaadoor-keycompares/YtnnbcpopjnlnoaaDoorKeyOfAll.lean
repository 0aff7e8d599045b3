/-
  What hook.Extract tells of the statements' own extractors, wherever the meter's count stands.
  What the landed package key's isNumber, isThere and told do, as their texts run.
  The class of a number that is an error by itself: what errors.As answers of it, and what rialtohelp's Class does, as their texts run.
  What the landed package key's Of does, as its text runs.
-/
import Derived.Test.YtnnbcpopjnlnoaaDoorKeyUse
import Derived.Test.YtnnbcpopjnlnoaaDoorHookExrAll
import Derived.Test.YtnnbcpopjnlnoaaDoorOwnApp
import Derived.Test.YtnnbcpopjnlnoaaDoorErrClass
import Derived.Test.YtnnbcpopjnlnoaaDoorSchClone
namespace Go.Proofs.YtnnbcpopjnlnoaaDoor
open Go.ChangeShapes Go.WideShapes Go.ChangeAt Go.RowKit
set_option linter.unusedVariables false
attribute [local go_sem ↓] Go.wp_at_zero Go.wp_at_succ

/-- A fault that bears what is no Twice. -/
def FaultK (w : World) (b : Nat) (s : ByteArray) : Prop := ∃ err, FaultAt w b 0 s err .nilIface ∧ (err = .iface 76 (.int .i64 10) ∨ ∃ q, err = .iface 96 (.pointer (some q)))
theorem FaultAt.chg {C : Nat → Prop} {w w' : World} {b o : Nat} {s : ByteArray} {err pan : Value} (h : FaultAt w b o s err pan) (hc : Chg C w w') (hn : ¬ C b) : FaultAt w' b o s err pan := ⟨hc.cell h.1 hn, hc.cell h.2.1 hn, hc.cell h.2.2 hn⟩
theorem FaultK.chg {C : Nat → Prop} {w w' : World} {b : Nat} {s : ByteArray} (h : FaultK w b s) (hc : Chg C w w') (hn : ¬ C b) : FaultK w' b s := by
  obtain ⟨err, h1, h2⟩ := h
  exact ⟨err, h1.chg hc hn, h2⟩
theorem FaultK.up {w w' : World} {b : Nat} {s : ByteArray} (h : FaultK w b s) (hu : Up w w') : FaultK w' b s := h.chg (C := fun _ => False) (Chg.of_up hu) id
theorem FaultK.lt {w : World} {b : Nat} {s : ByteArray} (h : FaultK w b s) : b < w.heap.size := by
  obtain ⟨err, h1, h2⟩ := h
  exact World.block_lt_of_cell? w _ h1.1

theorem left_mp {w w' : World} {mp : Option Addr} {T : World → World → Prop} (hmb : ∀ g, InM mp g → g < w.heap.size) (h : Left w (fun x x' => Chg (fun g => InM mp g ∨ w.heap.size ≤ g) x x' ∧ T x x') w') : Chg (InM mp) w w' ∧ ∃ x x', Up w x ∧ T x x' ∧ Chg (Mid w.heap.size x.heap.size) x' w' := by
  obtain ⟨x, x', h1, ⟨h2, h3⟩, h4, h5⟩ := h
  refine ⟨Chg.trans (Chg.trans (Chg.of_up h1) h2 (fun g hg h => h.resolve_right (by omega))) h5 (fun g hg h => by have := h.1; omega), x, x', h1, h3, h5⟩
theorem Chg.handM {w x x' : World} {mp : Option Addr} {a' : Option Addr} {n : Nat} {m : List VT} (h : Chg (fun g => InM mp g ∨ RowB a' g) x x') (ha : Handed w.heap.size x a' n m) : Chg (fun g => InM mp g ∨ w.heap.size ≤ g) x x' := h.mono (fun g _ h => h.imp id (fun h => ha.ge h))

/-- What came of an extractor. -/
def ExtOut (B : Nat) (mp : Option Addr) (c a h : Int) (s : ByteArray) (q : Int) (m : List VT) (v : VT) (ev : Value) (w' : World) : Prop :=
  (ev = .nilIface ∧ v = exW q m ∧ isB (exW q m) = true ∧ ¬ c + 1 = a ∧ MetO w' mp (c + 1) a h 0) ∨
  (∃ b s0, ev = .iface 79 (.pointer (some ⟨b, 0, none⟩)) ∧ (c + 1 = a ∨ isB (exW q m) = false) ∧ B ≤ b ∧ FaultK w' b s ∧ MetO w' mp (c + 1) a h s0)
theorem ExtOut.chg {B : Nat} {mp : Option Addr} {c a h : Int} {s : ByteArray} {q : Int} {m : List VT} {v : VT} {ev : Value} {w w' : World} {C : Nat → Prop} (x : ExtOut B mp c a h s q m v ev w) (hc : Chg C w w') (hn : ∀ g, InM mp g → ¬ C g) (hb : ∀ g, B ≤ g → ¬ C g) : ExtOut B mp c a h s q m v ev w' := by
  rcases x with ⟨h1, h2, h3, h4, h5⟩ | ⟨b, s0, h1, h2, h3, h4, h5⟩
  · exact .inl ⟨h1, h2, h3, h4, h5.chg hc hn⟩
  · exact .inr ⟨b, s0, h1, h2, h3, h4.chg hc (hb b h3), h5.chg hc hn⟩

theorem ext_step (mp : Option Addr) (mx nx : Nat) (q c a h : Int) (s : ByteArray) (av : Option Addr) (n vc : Nat) (m : List VT) (w : World) (hs : s.size ≤ 60) (hT : TabE w) (hTm : ¬ InM mp 0) (hq : q = 0 ∨ q = 1 ∨ q = 2 ∨ q = 3 ∨ q = 4) (hc0 : 0 ≤ c) (hc1 : c ≤ 1000) (ha : mp = none → a = 0) (hn : n ≤ 12) (hv : Vals w av n m) (hsh : ∀ i, (m.getD i zeroT).2.2.1.size ≤ 200) (hm : MetO w mp c a h 0) (hx : w.cell? ⟨mx, 0, none⟩ = some (.pointer mp)) (hy : w.cell? ⟨nx, 0, none⟩ = some (.int .i64 q)) (hne : ¬ InM mp nx) :
    Calls Tryd.prog 49 #[.string s, .func (.func 46) #[] #[.pointer (some ⟨mx, 0, none⟩), .pointer (some ⟨nx, 0, none⟩)], .slice av n vc] w fun e w' =>
      ∃ v : VT, ∃ ev, e = .returned (.tuple #[.agg #[.int .i64 v.1, .int .i64 v.2.1, .string v.2.2.1, .float .f64 v.2.2.2], ev]) ∧ Chg (InM mp) w w' ∧ ExtOut w.heap.size mp c a h s q m v ev w' := by
  have hmb : ∀ g, InM mp g → g < w.heap.size := fun g hg => hm.lt hg
  have hxb : mx < w.heap.size := World.block_lt_of_cell? w _ hx
  have hyb : nx < w.heap.size := World.block_lt_of_cell? w _ hy
  have hs' : s.size ≤ 281474976710656 := by omega
  have htab : ∀ x x' : World, Up w x → Chg (fun g => InM mp g ∨ w.heap.size ≤ g) x x' → TabE x' := fun x x' h1 h2 => h2.cell (hT.up h1) (fun e => e.elim hTm (fun e => by have e' : w.heap.size ≤ 0 := e; have := World.block_lt_of_cell? w _ hT; simp at this; omega))
  by_cases hca : c + 1 = a
  · cases mp with
    | none => have := ha rfl; omega
    | some p =>
      obtain ⟨hp, hm0⟩ := hm p rfl
      obtain ⟨mb, o, sp⟩ := p
      cases hp
      subst hca
      refine (ext_errV s 46 #[.pointer (some ⟨mx, 0, none⟩), .pointer (some ⟨nx, 0, none⟩)] av n vc m 0 0 ⟨#[]⟩ 0 96 (InM (some ⟨mb, 0, none⟩)) (fun x x' ev => Chg (fun g => InM (some ⟨mb, 0, none⟩) g ∨ w.heap.size ≤ g) x x' ∧ (Met x' mb (c + 1) (c + 1) h 1 ∧ ∃ k, ev = .pointer (some ⟨k, 0, none⟩))) w hs' hT hmb hn hv hsh (by decide) (fun v w' => xtr_enter v _ w') (fun x a' hx' hh => (xtrG_err mx nx mb c h (.slice a' n n) x (hx'.cell hx) hc0 hc1 (hm0.up hx')).mono ?_)).mono ?_
      · rintro _ x' ⟨k, rfl, h1, h2, h3, h4⟩
        have h5 : Chg (fun g => InM (some ⟨mb, 0, none⟩) g ∨ w.heap.size ≤ g) x x' := h1.mono (fun g _ h => Or.inl ⟨_, rfl, h⟩)
        exact ⟨_, rfl, h1.mono (fun g _ h => Or.inl ⟨_, rfl, h⟩), htab x x' hx' h5, h5, h2, k, rfl⟩
      · rintro _ w' ⟨ev, b, rfl, hl⟩
        obtain ⟨hc, x, x', h1, ⟨h2, k, rfl⟩, h3⟩ := left_mp hmb hl.leftS
        obtain ⟨y, y', g1, _, g3, g4, _⟩ := hl.left
        have gb : w.heap.size ≤ b := Nat.le_trans g1.size (Nat.le_trans g3 g4)
        exact ⟨(0, 0, ⟨#[]⟩, 0), _, rfl, hc, .inr ⟨b, 1, rfl, .inl rfl, gb, ⟨_, hl.at', .inr ⟨_, rfl⟩⟩, fun p hp => by
          cases hp
          exact ⟨rfl, h2.chg h3 (fun hm => by have := hm.1; have := hmb mb ⟨_, rfl, rfl⟩; omega)⟩⟩⟩
  · have hU : ∀ x a', Up w x → Handed w.heap.size x a' n m → Calls Tryd.prog 46 (#[.slice a' n n] ++ #[.pointer (some ⟨mx, 0, none⟩), .pointer (some ⟨nx, 0, none⟩)]) x fun e x' => e = .returned (.tuple #[.agg #[.int .i64 (exW q m).1, .int .i64 (exW q m).2.1, .string (exW q m).2.2.1, .float .f64 (exW q m).2.2.2], .nilIface]) ∧ Chg (fun b => InM mp b ∨ RowB a' b) x x' ∧ TabE x' ∧ (Chg (fun g => InM mp g ∨ w.heap.size ≤ g) x x' ∧ MetO x' mp (c + 1) a h 0) := by
      intro x a' hx' hh
      refine (xtrG_ok mx nx mp q c a h 0 a' n n m w.heap.size x hq hn hsh hh.lent hmb hxb hyb hne (hx'.cell hx) (hx'.cell hy) hc0 hc1 (.inr hca) (hm.up hx')).mono ?_
      rintro _ x' ⟨rfl, h1, h2⟩
      exact ⟨rfl, h1, htab x x' hx' (h1.handM hh), h1.handM hh, h2⟩
    by_cases hi : isB (exW q m) = true
    · refine (ext_ok s _ _ av n vc m (exW q m).1 (exW q m).2.1 (exW q m).2.2.1 (exW q m).2.2.2 (InM mp) _ w hs' hT hmb hn hv hsh (by have := exW_s q m hsh; omega) hi (fun v w' => xtr_enter v _ w') hU).mono ?_
      rintro _ w' ⟨rfl, hl⟩
      obtain ⟨hc, x, x', h1, h2, h3⟩ := left_mp hmb hl
      exact ⟨exW q m, _, rfl, hc, .inl ⟨rfl, rfl, hi, hca, h2.chg h3 (fun g hg hm => by have := hm.1; have := hmb g hg; omega)⟩⟩
    · refine (ext_bad s _ _ av n vc m (exW q m).1 (exW q m).2.1 (exW q m).2.2.1 (exW q m).2.2.2 (InM mp) _ w hs' hT hmb hn hv hsh (by have := exW_s q m hsh; omega) (by simpa using hi) (fun v w' => xtr_enter v _ w') hU).mono ?_
      rintro _ w' ⟨b, rfl, hl⟩
      obtain ⟨hc, x, x', h1, h2, h3⟩ := left_mp hmb hl.leftS
      obtain ⟨y, y', g1, _, g3, g4, _⟩ := hl.left
      have gb : w.heap.size ≤ b := Nat.le_trans g1.size (Nat.le_trans g3 g4)
      exact ⟨(0, 0, ⟨#[]⟩, 0), _, rfl, hc, .inr ⟨b, 0, rfl, .inr (by simpa using hi), gb, ⟨_, hl.at', .inl rfl⟩, h2.chg h3 (fun g hg hm => by have := hm.1; have := hmb g hg; omega)⟩⟩

end Go.Proofs.YtnnbcpopjnlnoaaDoor

namespace Go.Proofs.YtnnbcpopjnlnoaaDoor
open Go.ChangeShapes Go.WideShapes Go.ChangeAt Go.RowKit
set_option linter.unusedVariables false
attribute [local go_sem ↓] Go.wp_at_zero Go.wp_at_succ
attribute [local go_sem] run_store_float

theorem knum_calls (x : Int) (n : Nat) (w : World) : Calls Tryd.prog 39 #[.int .i64 x, .int .i64 (n : Int)] w fun e w' => e = .returned (.bool (knumB x n)) ∧ w' = w := by
  go_enter Tryd.func39, Tryd.ntmps39
  go_wp2
  all_goals (go_ret; refine ⟨congrArg (fun b => Ending.returned (Value.bool b)) ?_, rfl⟩; unfold knumB; rw [Bool.eq_iff_iff]; simp only [Bool.and_eq_true, decide_eq_true_eq, Bool.false_eq_true, false_iff]; omega)

theorem there_calls (p : PT) (ae ac va : Option Addr) (ne ce nc cc n vc : Nat) (w : World) (hne : ne ≤ maxLen) (hn : n ≤ maxLen) :
    Calls Tryd.prog 30 #[.agg #[.int .i64 p.1, .int .i64 p.2], .agg #[.slice ae ne ce, .slice ac nc cc], .slice va n vc] w fun e w' => e = .returned (.bool (thereB ne n p)) ∧ Up w w' := by
  unfold maxLen at hne hn
  obtain ⟨f, q⟩ := p
  dsimp only
  by_cases h : f = -1
  · subst h
    have e : thereB ne n (-1, q) = knumB q ne := by unfold thereB; rw [if_pos rfl]
    rw [e]
    clear e
    go_enter Tryd.func30, Tryd.ntmps30
    go_wp2_with (go_at_call 39; refine (knum_calls _ _ _).mono ?_; rintro _ _ ⟨rfl, rfl⟩)
    go_ret
    exact ⟨rfl, ((Up.refl _).alloc _).alloc _⟩
  · have t0 : (f == -1) = false := by rw [beq_eq_false_iff_ne]; exact h
    have e : thereB ne n (f, q) = knumB f n := by unfold thereB; rw [if_neg h]
    rw [e]
    clear e h
    go_enter Tryd.func30, Tryd.ntmps30
    go_wp2_with (go_at_call 39; refine (knum_calls _ _ _).mono ?_; rintro _ _ ⟨rfl, rfl⟩)
    go_ret
    exact ⟨rfl, ((Up.refl _).alloc _).alloc _⟩

set_option maxRecDepth 20000 in
set_option maxHeartbeats 4000000 in
theorem told_field (s : ByteArray) (k : Nat) (q : Int) (hk : Value) (va : Option Addr) (n vc : Nat) (m : List VT) (w : World) (hn : n ≤ maxLen) (hkn : k < n) (hv : Vals w va n m) (he : ∃ ae ne ce ac nc cc, hk = .agg #[.slice ae ne ce, .slice ac nc cc]) :
    Calls Tryd.prog 31 #[.string s, .agg #[.int .i64 (k : Int), .int .i64 q], hk, .slice va n vc] w fun e w' => e = .returned (.tuple #[.agg #[.int .i64 (m.getD k zeroT).1, .int .i64 (m.getD k zeroT).2.1, .string (m.getD k zeroT).2.2.1, .float .f64 (m.getD k zeroT).2.2.2], .nilIface]) ∧ Up w w' := by
  unfold maxLen at hn
  obtain ⟨ae, ne, ce, ac, nc, cc, rfl⟩ := he
  rcases hv.2.2 with h0 | ⟨b, off, rfl, hx⟩
  · omega
  obtain ⟨c0, c1, c2, c3⟩ := hx k hkn
  obtain ⟨⟨p, z, t, f⟩, hV⟩ : ∃ v, v = m.getD k zeroT := ⟨_, rfl⟩
  rw [← hV] at c0 c1 c2 c3 ⊢
  clear hV hx hv
  dsimp only at c0 c1 c2 c3 ⊢
  have hbw : b < w.heap.size := World.block_lt_of_cell? w _ c0
  have t0 : ((k : Int) == -1) = false := by rw [beq_eq_false_iff_ne]; omega
  have uX : Hid (Up w (((w.alloc (.cells #[.int .i64 (k : Int), .int .i64 q] 45)).alloc (.cells #[.slice ae ne ce, .slice ac nc cc] 35)).alloc (.cells #[.int .i64 0, .int .i64 0, .string ⟨#[]⟩, .float .f64 0] 49))) := (((Up.refl _).alloc _).alloc _).alloc _
  have bX : Hid (Box (((w.alloc (.cells #[.int .i64 (k : Int), .int .i64 q] 45)).alloc (.cells #[.slice ae ne ce, .slice ac nc cc] 35)).alloc (.cells #[.int .i64 0, .int .i64 0, .string ⟨#[]⟩, .float .f64 0] 49)) (w.heap.size + 2) (0, 0, ⟨#[]⟩, 0)) := ⟨⟨by go_simp, by go_simp, by go_simp, by go_simp⟩, fun i => by go_simp⟩
  have p0 : (((w.alloc (.cells #[.int .i64 (k : Int), .int .i64 q] 45)).alloc (.cells #[.slice ae ne ce, .slice ac nc cc] 35)).alloc (.cells #[.int .i64 0, .int .i64 0, .string ⟨#[]⟩, .float .f64 0] 49)).cell? ⟨w.heap.size, 0, none⟩ = some (.int .i64 (k : Int)) := by go_simp
  generalize hXX : ((w.alloc (.cells #[.int .i64 (k : Int), .int .i64 q] 45)).alloc (.cells #[.slice ae ne ce, .slice ac nc cc] 35)).alloc (.cells #[.int .i64 0, .int .i64 0, .string ⟨#[]⟩, .float .f64 0] 49) = X at uX bX p0
  have r0 : X.cell? ⟨w.heap.size + 2, 0, none⟩ = some (.int .i64 0) := bX.out.1.1
  have r1 : X.cell? ⟨w.heap.size + 2, 1, none⟩ = some (.int .i64 0) := bX.out.1.2.1
  have r2 : X.cell? ⟨w.heap.size + 2, 2, none⟩ = some (.string ⟨#[]⟩) := bX.out.1.2.2.1
  have r3 : X.cell? ⟨w.heap.size + 2, 3, none⟩ = some (.float .f64 0) := bX.out.1.2.2.2
  have f0 := bX.out.2 0
  have f1 := bX.out.2 1
  have f2 := bX.out.2 2
  have f3 := bX.out.2 3
  replace c0 := uX.out.cell c0
  replace c1 := uX.out.cell c1
  replace c2 := uX.out.cell c2
  replace c3 := uX.out.cell c3
  clear bX
  go_enter Tryd.func31, Tryd.ntmps31
  go_wp2_with fail
  refine bodyPost_ret (v := .tuple #[.agg #[.int .i64 p, .int .i64 z, .string t, .float .f64 f], .nilIface]) (by simp [results, Tryd.results31, go_sem, *]) rfl ?_
  exact ⟨rfl, Below.trans uX.out.below (Chg.below (B := w.heap.size) (chg_set4 X (w.heap.size + 2) _ _ _ _) (fun x hx e => by omega) uX.out.size)⟩

set_option maxRecDepth 20000 in
set_option maxHeartbeats 4000000 in
theorem told_hook (s : ByteArray) (q : Nat) (ae ac va : Option Addr) (ne ce nc cc n vc : Nat) (l : List Value) (fv : Value) (mp : Option Addr) (c a h : Int) (m : List VT) (w : World) (hne : ne ≤ maxLen) (hq : q < ne) (hf : FnsH w ae ne l) (hl : l.getD q .nilFunc = fv) (hmb : ∀ g, InM mp g → g < w.heap.size)
    (hX : ∀ w1, Up w w1 → Calls Tryd.prog 49 #[.string s, fv, .slice va n vc] w1 fun e w' => ∃ v : VT, ∃ ev, e = .returned (.tuple #[.agg #[.int .i64 v.1, .int .i64 v.2.1, .string v.2.2.1, .float .f64 v.2.2.2], ev]) ∧ Chg (InM mp) w1 w' ∧ ExtOut w1.heap.size mp c a h s (q : Int) m v ev w') :
    Calls Tryd.prog 31 #[.string s, .agg #[.int .i64 (-1), .int .i64 (q : Int)], .agg #[.slice ae ne ce, .slice ac nc cc], .slice va n vc] w fun e w' => ∃ v : VT, ∃ ev, e = .returned (.tuple #[.agg #[.int .i64 v.1, .int .i64 v.2.1, .string v.2.2.1, .float .f64 v.2.2.2], ev]) ∧ Chg (InM mp) w w' ∧ ExtOut w.heap.size mp c a h s (q : Int) m v ev w' := by
  unfold maxLen at hne
  obtain ⟨b, off, rfl, c0⟩ := hf.fnH hq
  rw [hl] at c0
  have hbw : b < w.heap.size := World.block_lt_of_cell? w _ c0
  have HX := hide hX
  have HMB := hide hmb
  clear hX hf hl hmb
  have uX : Hid (Up w (((w.alloc (.cells #[.int .i64 (-1), .int .i64 (q : Int)] 45)).alloc (.cells #[.slice (some ⟨b, off, none⟩) ne ce, .slice ac nc cc] 35)).alloc (.cells #[.int .i64 0, .int .i64 0, .string ⟨#[]⟩, .float .f64 0] 49))) := (((Up.refl _).alloc _).alloc _).alloc _
  have bX : Hid (Box (((w.alloc (.cells #[.int .i64 (-1), .int .i64 (q : Int)] 45)).alloc (.cells #[.slice (some ⟨b, off, none⟩) ne ce, .slice ac nc cc] 35)).alloc (.cells #[.int .i64 0, .int .i64 0, .string ⟨#[]⟩, .float .f64 0] 49)) (w.heap.size + 2) (0, 0, ⟨#[]⟩, 0)) := ⟨⟨by go_simp, by go_simp, by go_simp, by go_simp⟩, fun i => by go_simp⟩
  have p0 : (((w.alloc (.cells #[.int .i64 (-1), .int .i64 (q : Int)] 45)).alloc (.cells #[.slice (some ⟨b, off, none⟩) ne ce, .slice ac nc cc] 35)).alloc (.cells #[.int .i64 0, .int .i64 0, .string ⟨#[]⟩, .float .f64 0] 49)).cell? ⟨w.heap.size, 0, none⟩ = some (.int .i64 (-1)) := by go_simp
  have p1 : (((w.alloc (.cells #[.int .i64 (-1), .int .i64 (q : Int)] 45)).alloc (.cells #[.slice (some ⟨b, off, none⟩) ne ce, .slice ac nc cc] 35)).alloc (.cells #[.int .i64 0, .int .i64 0, .string ⟨#[]⟩, .float .f64 0] 49)).cell? ⟨w.heap.size, 1, none⟩ = some (.int .i64 (q : Int)) := by go_simp
  have p2 : (((w.alloc (.cells #[.int .i64 (-1), .int .i64 (q : Int)] 45)).alloc (.cells #[.slice (some ⟨b, off, none⟩) ne ce, .slice ac nc cc] 35)).alloc (.cells #[.int .i64 0, .int .i64 0, .string ⟨#[]⟩, .float .f64 0] 49)).cell? ⟨w.heap.size + 1, 0, none⟩ = some (.slice (some ⟨b, off, none⟩) ne ce) := by go_simp
  generalize hXX : ((w.alloc (.cells #[.int .i64 (-1), .int .i64 (q : Int)] 45)).alloc (.cells #[.slice (some ⟨b, off, none⟩) ne ce, .slice ac nc cc] 35)).alloc (.cells #[.int .i64 0, .int .i64 0, .string ⟨#[]⟩, .float .f64 0] 49) = X at uX bX p0 p1 p2
  replace c0 := uX.out.cell c0
  go_enter Tryd.func31, Tryd.ntmps31
  go_wp2_with fail
  go_at_call 49
  refine (HX.out X uX.out).mono ?_
  rintro _ x1 ⟨⟨vk, vz, vt, vf⟩, ev, rfl, hc1, ho1⟩
  have B1 : Hid (Box x1 (w.heap.size + 2) (0, 0, ⟨#[]⟩, 0)) := bX.out.chg hc1 (fun hg => by have := HMB.out _ hg; omega)
  have hRX : w.heap.size + 2 < X.heap.size := World.block_lt_of_cell? X _ bX.out.1.1
  have HC := hide hc1
  have HO := hide ho1
  clear hc1 ho1 bX
  have r0 : x1.cell? ⟨w.heap.size + 2, 0, none⟩ = some (.int .i64 0) := B1.out.1.1
  have r1 : x1.cell? ⟨w.heap.size + 2, 1, none⟩ = some (.int .i64 0) := B1.out.1.2.1
  have r2 : x1.cell? ⟨w.heap.size + 2, 2, none⟩ = some (.string ⟨#[]⟩) := B1.out.1.2.2.1
  have r3 : x1.cell? ⟨w.heap.size + 2, 3, none⟩ = some (.float .f64 0) := B1.out.1.2.2.2
  have f0 := B1.out.2 0
  have f1 := B1.out.2 1
  have f2 := B1.out.2 2
  have f3 := B1.out.2 3
  go_wp2_with fail
  refine bodyPost_ret (v := .tuple #[.agg #[.int .i64 vk, .int .i64 vz, .string vt, .float .f64 vf], ev]) (by simp [results, Tryd.results31, go_sem, *]) rfl ?_
  have h4 := chg_set4 x1 (w.heap.size + 2) (.int .i64 vk) (.int .i64 vz) (.string vt) (.float .f64 vf)
  have hlow : ExtOut w.heap.size mp c a h s (q : Int) m (vk, vz, vt, vf) ev x1 := by
    rcases HO.out with h1 | ⟨b, s0, h1, h2, h3, h4⟩
    · exact .inl h1
    · exact .inr ⟨b, s0, h1, h2, by omega, h4⟩
  have ho2 : ExtOut X.heap.size mp c a h s (q : Int) m (vk, vz, vt, vf) ev _ := HO.out.chg h4 (fun g hg e => by have := HMB.out g hg; omega) (fun g hg e => by omega)
  refine ⟨(vk, vz, vt, vf), ev, rfl, Chg.trans (Chg.trans (Chg.of_up uX.out) HC.out (fun g _ h => h)) h4 (fun g hg e => by omega), ?_⟩
  rcases ho2 with h1 | ⟨b, s0, h1, h2, h3, h4⟩
  · exact .inl h1
  · exact .inr ⟨b, s0, h1, h2, by omega, h4⟩

end Go.Proofs.YtnnbcpopjnlnoaaDoor

namespace Go.Proofs.YtnnbcpopjnlnoaaDoor
open Go.RowKit Go.Extern.Stop Go.Stop Go.Extern
attribute [local go_sem ↓] Go.wp_at_zero Go.wp_at_succ
attribute [local go_sem] run_store_hnd

theorem e_valueOfE (z : Int) (w : World) : (ReflectliteValue.unpack (.iface 76 (.int .i64 z))).run Tryd.prog w = .ok (.agg #[hnd 76, .pointer (some ⟨w.heap.size, 0, none⟩), .int .u64 130]) (w.alloc (.cells #[.int .i64 z] 76)) := by kernel_rfl
theorem e_mkE (p : Addr) (w : World) : (ReflectliteValue.mk 76 p ReflectliteValue.flagAddr).run Tryd.prog w = .ok (.agg #[hnd 76, .pointer (some p), .int .u64 386]) w := by kernel_rfl
theorem e_elemVEP (a p : Addr) (W : World) (ha : W.cell? a = some (.pointer (some p))) :
    (ReflectliteValue.method (ReflectliteValue.valueError "reflectlite.Value.Elem" 0) ReflectliteValue.elem #[.agg #[hnd 89, .pointer (some a), .int .u64 150]]).run Tryd.prog W = .ok (.agg #[hnd 76, .pointer (some p), .int .u64 386]) W := by
  rw [rlm]
  simp only [Sem.run_bind, e_partsEP, Result.andThen]
  simp [ReflectliteValue.elem, loadVar, isAgg, underlying, Tryd.underlying89, ha, Result.andThen, e_elemOfEP, e_mkE]
theorem e_partsAE (a : Addr) (w : World) : (ReflectliteValue.parts (.agg #[hnd 76, .pointer (some a), .int .u64 386])).run Tryd.prog w = .ok (some (76, a, 386)) w := by kernel_rfl
theorem e_partsVE (a : Addr) (w : World) : (ReflectliteValue.parts (.agg #[hnd 76, .pointer (some a), .int .u64 130])).run Tryd.prog w = .ok (some (76, a, 130)) w := by kernel_rfl
theorem e_directE (w : World) : (Rtype.directlyAssignable 76 76).run Tryd.prog w = .ok true w := by kernel_rfl
theorem e_setE (ta b : Addr) (z : Int) (old : Value) (W : World) (hb : W.cell? b = some (.int .i64 z)) (ht : W.cell? ta = some old) (hf : W.frozen? ta = false) :
    (ReflectliteValue.set #[.agg #[hnd 76, .pointer (some ta), .int .u64 386], .agg #[hnd 76, .pointer (some b), .int .u64 130]]).run Tryd.prog W = .ok (.tuple #[]) (W.setCell ta (.int .i64 z)) := by
  rw [rls]
  simp only [Sem.run_bind, e_partsAE, e_partsVE, Result.andThen]
  simp [ReflectliteValue.flagAddr, loadVar, isAgg, underlying, Tryd.underlying76, hb, Result.andThen, e_directE, storeVar, Value.cells, storeCells, Addr.add]
  rw [run_store Tryd.prog W ta _ _ (by rfl)]
  simp [ht, hf]

set_option maxRecDepth 20000 in
set_option maxHeartbeats 4000000 in
theorem as_hitE (z : Int) (t a : Addr) (old tgt : Value) (w : World) (ha : w.cell? a = some (.pointer (some t))) (ht : w.cell? t = some old) (hf : w.frozen? t = false) :
    Calls Tryd.prog 53 #[.iface 76 (.int .i64 z), tgt, .agg #[hnd 89, .pointer (some a), .int .u64 150], .iface 133 (.agg #[hnd 76])] w fun ev w' => ev = .returned (.bool true) ∧ ∃ w2, Up w w2 ∧ w' = w2.setCell t (.int .i64 z) := by
  have x42 := @run_callFunc_extern Tryd.prog 69 _ ReflectliteType.typeOf Tryd.func69 (by kernel_rfl) (by kernel_rfl) (by kernel_rfl) (by kernel_rfl)
  have x102 := @run_callFunc_extern Tryd.prog 116 _ (ReflectliteType.relation "AssignableTo" ReflectliteType.assignableTo) Tryd.func116 (by kernel_rfl) (by kernel_rfl) (by kernel_rfl) (by kernel_rfl)
  have x38 := @run_callFunc_extern Tryd.prog 50 _ (fun args => ReflectliteValue.unpack (args.getD 0 (.tuple #[]))) Tryd.func50 (by kernel_rfl) (by kernel_rfl) (by kernel_rfl) (by kernel_rfl)
  have x58 := @run_callFunc_extern Tryd.prog 70 _ (ReflectliteValue.method (ReflectliteValue.valueError "reflectlite.Value.Elem" 0) ReflectliteValue.elem) Tryd.func70 (by kernel_rfl) (by kernel_rfl) (by kernel_rfl) (by kernel_rfl)
  have x59 := @run_callFunc_extern Tryd.prog 71 _ ReflectliteValue.set Tryd.func71 (by kernel_rfl) (by kernel_rfl) (by kernel_rfl) (by kernel_rfl)
  have h1 := e_typeOfE
  have h2 := e_methodAssignableTo
  have h3 := e_assignEE
  have h4 := e_valueOfE
  have u1 : Up w (w.alloc (.cells #[hnd 89, .pointer (some a), .int .u64 150] 112)) := (Up.refl _).alloc _
  have u2 : Up w ((w.alloc (.cells #[hnd 89, .pointer (some a), .int .u64 150] 112)).alloc (.cells #[.int .i64 z] 76)) := ((Up.refl _).alloc _).alloc _
  have h5 := e_elemVEP a t (w.alloc (.cells #[hnd 89, .pointer (some a), .int .u64 150] 112)) (u1.cell ha)
  have h6 := e_setE t ⟨w.heap.size + 1, 0, none⟩ z old ((w.alloc (.cells #[hnd 89, .pointer (some a), .int .u64 150] 112)).alloc (.cells #[.int .i64 z] 76)) (by go_simp) (u2.cell ht) ((u2.frozen (World.block_lt_of_cell? w t ht)).trans hf)
  clear ha ht hf u1
  replace u2 := hide u2
  go_enter Tryd.func53, Tryd.ntmps53
  go_wp2_with fail
  refine wp_loop_rounds 1 ?_
  rw [rounds_succ]
  go_wp2
  go_ret
  exact ⟨rfl, _, u2.out, rfl⟩

set_option maxRecDepth 20000 in
set_option maxHeartbeats 4000000 in
theorem errAsE (et : TypeId) (ev : Value) (ta : Addr) (w : World) (Q : Ending → World → Prop) (hg : TabE w)
    (hA : ∀ w' a, Up w w' → w'.cell? a = some (.pointer (some ta)) → Calls Tryd.prog 53 #[.iface et ev, .iface 89 (.pointer (some ta)), .agg #[hnd 89, .pointer (some a), .int .u64 150], .iface 133 (.agg #[hnd 76])] w' fun e w'' => ∃ bb, e = .returned (.bool bb) ∧ Q e w'') :
    Calls Tryd.prog 32 #[.iface et ev, .iface 89 (.pointer (some ta))] w Q := by
  have x38 := @run_callFunc_extern Tryd.prog 50 _ (fun args => ReflectliteValue.unpack (args.getD 0 (.tuple #[]))) Tryd.func50 (by kernel_rfl) (by kernel_rfl) (by kernel_rfl) (by kernel_rfl)
  have x39 := @run_callFunc_extern Tryd.prog 51 _ (ReflectliteValue.methodAny (ReflectliteValue.valueError "reflectlite.Value.Type" 0) (fun t _ _ _ => ReflectliteType.toType t)) Tryd.func51 (by kernel_rfl) (by kernel_rfl) (by kernel_rfl) (by kernel_rfl)
  have x40 := @run_callFunc_extern Tryd.prog 52 _ (ReflectliteValue.method (ReflectliteValue.valueError "reflectlite.Value.IsNil" 0) ReflectliteValue.isNil) Tryd.func52 (by kernel_rfl) (by kernel_rfl) (by kernel_rfl) (by kernel_rfl)
  have x89 := @run_callFunc_extern Tryd.prog 103 _ (ReflectliteType.abiMethod fun t => do pure (.int .u8 (← Rtype.kind t))) Tryd.func103 (by kernel_rfl) (by kernel_rfl) (by kernel_rfl) (by kernel_rfl)
  have x104 := @run_callFunc_extern Tryd.prog 118 _ (ReflectliteType.method ReflectliteType.elem) Tryd.func118 (by kernel_rfl) (by kernel_rfl) (by kernel_rfl) (by kernel_rfl)
  have x105 := @run_callFunc_extern Tryd.prog 119 _ (ReflectliteType.relation "Implements" ReflectliteType.implements_) Tryd.func119 (by kernel_rfl) (by kernel_rfl) (by kernel_rfl) (by kernel_rfl)
  have f1 := e_valueOfEP
  have f2 := e_typeEP
  have f3 := e_methodKind
  have f4 := e_methodElem
  have f5 := e_methodImplements
  have f6 := e_kindEP
  have f7 := e_kindE
  have f8 := e_elemEP
  have f9 := e_implementsE
  have uW : Up w ((w.alloc (.cells #[.pointer (some ta)] 89)).alloc (.cells #[hnd 89, .pointer (some ⟨w.heap.size, 0, none⟩), .int .u64 150] 112)) := ((Up.refl _).alloc _).alloc _
  have g1 : ((w.alloc (.cells #[.pointer (some ta)] 89)).alloc (.cells #[hnd 89, .pointer (some ⟨w.heap.size, 0, none⟩), .int .u64 150] 112)).cell? ⟨0, 0, none⟩ = some (.iface 133 (.agg #[hnd 40])) := uW.cell hg
  have f10 := e_isNilEP ⟨w.heap.size, 0, none⟩ ta ((w.alloc (.cells #[.pointer (some ta)] 89)).alloc (.cells #[hnd 89, .pointer (some ⟨w.heap.size, 0, none⟩), .int .u64 150] 112)) (by go_simp)
  have HA := hide hA
  replace uW := hide uW
  clear hA hg
  go_enter Tryd.func32, Tryd.ntmps32
  go_wp2_with fail
  go_at_call 53
  refine (HA.out _ ⟨w.heap.size, 0, none⟩ uW.out (by go_simp)).mono ?_
  rintro _ w3 ⟨bb, rfl, hq⟩
  replace hq := hide hq
  clear g1
  go_wp2
  exact hq.out

theorem As_missEF (v : Value) (ta : Addr) (w : World) (hg : TabE w) : Calls Tryd.prog 32 #[.iface 76 v, .iface 81 (.pointer (some ta))] w (Missed w) := by
  refine errAsF _ _ _ w _ hg fun w' a hu _ => (as_missEF v _ _ _ _ w').mono ?_
  rintro _ w3 ⟨rfl, hu3⟩
  exact ⟨false, rfl, rfl, hu.trans hu3⟩
theorem As_missEW (v : Value) (ta : Addr) (w : World) (hg : TabE w) : Calls Tryd.prog 32 #[.iface 76 v, .iface 88 (.pointer (some ta))] w (Missed w) := by
  refine errAsW _ _ _ w _ hg fun w' a hu _ => (as_missEW v _ _ _ _ w').mono ?_
  rintro _ w3 ⟨rfl, hu3⟩
  exact ⟨false, rfl, rfl, hu.trans hu3⟩
theorem As_hitE (z : Int) (ta : Addr) (old : Value) (w : World) (hg : TabE w) (ht : w.cell? ta = some old) (hf : w.frozen? ta = false) :
    Calls Tryd.prog 32 #[.iface 76 (.int .i64 z), .iface 89 (.pointer (some ta))] w (Found w ta (.int .i64 z)) := by
  refine errAsE _ _ _ w _ hg fun w' a hu ha => (as_hitE z ta a old _ w' ha (hu.cell ht) ((hu.frozen (World.block_lt_of_cell? w ta ht)).trans hf)).mono ?_
  rintro _ w3 ⟨rfl, w2, hu2, rfl⟩
  exact ⟨true, rfl, rfl, w2, hu.trans hu2, rfl⟩

set_option maxRecDepth 20000 in
set_option maxHeartbeats 4000000 in
/-- The class of a number. -/
theorem class_num (z : Int) (w : World) (hg : TabE w) :
    Calls Tryd.prog 17 #[.iface 76 (.int .i64 z)] w fun e w' => e = .returned (.int .i64 z) ∧ Up w w' := by
  have HG := hide hg
  clear hg
  go_enter Tryd.func17, Tryd.ntmps17
  go_wp2_with fail
  go_at_call 32
  refine (As_missEW _ _ _ (HG.out.up ((Up.refl _).alloc _))).mono ?_
  rintro _ w1 ⟨rfl, hu1⟩
  have u1 : Hid (Up w w1) := ((Up.refl _).alloc _).trans hu1
  clear hu1
  go_wp2_with fail
  go_at_call 32
  refine (As_missEF _ _ _ (HG.out.up (u1.out.alloc _))).mono ?_
  rintro _ w2 ⟨rfl, hu2⟩
  have u2 : Hid (Up w w2) := (u1.out.alloc _).trans hu2
  clear hu2 u1
  go_wp2_with fail
  go_at_call 32
  refine (As_hitE z ⟨w2.heap.size, 0, none⟩ (.int .i64 0) _ (HG.out.up (u2.out.alloc _)) (by go_simp) (by go_simp)).mono ?_
  rintro _ w3 ⟨rfl, w4, hu4, hw3⟩
  have k0 : w3.cell? ⟨w2.heap.size, 0, none⟩ = some (.int .i64 z) := by
    rw [hw3]
    exact World.cell?_setCell_same _ _ _ (hu4.cell (v := .int .i64 0) (by go_simp))
  have u3 : Hid (Up w w3) := by rw [hw3]; exact ((u2.out.alloc _).trans hu4).setCell u2.out.size _
  clear hw3 hu4
  go_wp2
  go_ret
  exact ⟨rfl, u3.out⟩
/-- Of none. -/
theorem class_nil (w : World) : Calls Tryd.prog 17 #[.nilIface] w fun e w' => e = .returned (.int .i64 0) ∧ Up w w' := by
  go_enter Tryd.func17, Tryd.ntmps17
  go_wp2
  go_ret
  exact ⟨rfl, Up.refl _⟩

end Go.Proofs.YtnnbcpopjnlnoaaDoor

namespace Go.Proofs.YtnnbcpopjnlnoaaDoor
open Go.ChangeShapes Go.WideShapes Go.ChangeAt Go.RowKit
set_option linter.unusedVariables false
attribute [local go_sem ↓] Go.wp_at_zero Go.wp_at_succ
attribute [local go_sem] run_store_float

theorem Vals.chgM {C : Nat → Prop} {w w' : World} {a : Option Addr} {n : Nat} {l : List VT} (h : Vals w a n l) (hc : Chg C w w') (hn : ∀ b, n ≠ 0 → RowB a b → ¬ C b) : Vals w' a n l := by
  by_cases h0 : n = 0
  · exact ⟨h.1, h.2.1, .inl h0⟩
  · exact h.chg hc (fun b hb => hn b h0 hb)
theorem Slc.chgM {α : Type} {C : Nat → Prop} {k : Nat} {cs : α → List Value} {z : α} {ok : α → Prop} {w w' : World} {a : Option Addr} {n : Nat} {l : List α} (h : Slc k cs z ok w a n l) (hc : Chg C w w') (hn : ∀ b, n ≠ 0 → RowB a b → ¬ C b) : Slc k cs z ok w' a n l := by
  refine ⟨h.1, h.2.1, ?_⟩
  rcases h.2.2 with h0 | ⟨b, off, rfl, hx⟩
  · exact .inl h0
  · by_cases h0 : n = 0
    · exact .inl h0
    · exact .inr ⟨b, off, rfl, fun i hi j v hv => hc.cell (hx i hi j v hv) (hn b h0 ⟨off, rfl⟩)⟩
theorem OwnV.chg {C : Nat → Prop} {w w' : World} {base : Nat} {v : Value} {l : List VT} (h : OwnV w base v l) (hc : Chg C w w') (hn : ∀ g, base ≤ g → ¬ C g) : OwnV w' base v l := by
  refine ⟨h.1, ?_⟩
  rcases h.2 with h0 | ⟨g, cap, cur, rfl, hb, hg, hr⟩
  · exact .inl h0
  · exact .inr ⟨g, cap, cur, rfl, hb, (hc.2 g (OwnV.lt h g rfl).2 (hn g hb)).trans hg, hr⟩
theorem grown_chg {w w' : World} {base : Nat} {v : Value} {l : List VT} (h : OwnV w base v l) (hg : w.grownBy w' v.ownBlock) : Chg (fun g => base ≤ g) w w' :=
  ⟨Below.grown (Below.refl 0 w) hg (Nat.zero_le _) (fun _ _ => Nat.zero_le _), fun x hx hn => hg.block x hx (fun e => hn (h.lt x e.symm).1)⟩
theorem ownV_row {w : World} {base n : Nat} {v : Value} {l : List VT} (h : OwnV w base v l) (hf : ∀ i, Fits (l.getD i zeroT)) (hn : l.length = n) : ∃ a cap, v = .slice a n cap ∧ Vals w a n l := by
  subst hn
  rcases h.2 with ⟨rfl, hn⟩ | ⟨g, cap, cur, rfl, hb, hg, hr⟩
  · have : l = [] := List.length_eq_zero_iff.1 (by simpa using hn)
    subst this
    exact ⟨none, 0, rfl, rfl, hf, .inl rfl⟩
  · refine ⟨some ⟨g, 0, none⟩, cap, rfl, rfl, hf, .inr ⟨g, 0, rfl, fun i hi => ?_⟩⟩
    have hc : ∀ j u, j < 4 → (cellsT (l.getD i zeroT))[j]? = some u → w.cell? ⟨g, 0 + i * 4 + j, none⟩ = some u := by
      intro j u hj hu
      have := World.ownsRow.cellAt h (i * 4 + j) (by omega)
      rw [Nat.zero_add, this]
      exact (flat_get l i j hi hj).trans hu
    exact ⟨hc 0 _ (by decide) rfl, hc 1 _ (by decide) rfl, hc 2 _ (by decide) rfl, hc 3 _ (by decide) rfl⟩

/-- What key.Of is handed. -/
structure OfIn (w : World) (mp : Option Addr) (ae pa va : Option Addr) (ne np n : Nat) (l : List Value) (pl : List PT) (m : List VT) : Prop where
  tab : TabE w
  tabm : ¬ InM mp 0
  prt : Prts w pa np pl
  val : Vals w va n m
  fns : FnsH w ae ne l
  xtr : ∀ q, q < ne → ∃ mx nx, l.getD q .nilFunc = .func (.func 46) #[] #[.pointer (some ⟨mx, 0, none⟩), .pointer (some ⟨nx, 0, none⟩)] ∧ w.cell? ⟨mx, 0, none⟩ = some (.pointer mp) ∧ w.cell? ⟨nx, 0, none⟩ = some (.int .i64 (q : Int)) ∧ ¬ InM mp mx ∧ ¬ InM mp nx
  np8 : np ≤ 8
  n12 : n ≤ 12
  ne5 : ne ≤ 5
  short : ∀ i, (m.getD i zeroT).2.2.1.size ≤ 200
  kp : ∀ b, np ≠ 0 → RowB pa b → ¬ InM mp b
  kv : ∀ b, n ≠ 0 → RowB va b → ¬ InM mp b
  kf : ∀ b, ne ≠ 0 → RowB ae b → ¬ InM mp b
theorem OfIn.chg {w w' : World} {mp ae pa va : Option Addr} {ne np n : Nat} {l : List Value} {pl : List PT} {m : List VT} (h : OfIn w mp ae pa va ne np n l pl m) (hc : Chg (InM mp) w w') : OfIn w' mp ae pa va ne np n l pl m :=
  { h with
    tab := hc.cell h.tab h.tabm
    prt := h.prt.chgM hc h.kp
    val := h.val.chgM hc h.kv
    fns := h.fns.chgM hc h.kf
    xtr := fun q hq => by
      obtain ⟨mx, nx, h1, h2, h3, h4, h5⟩ := h.xtr q hq
      exact ⟨mx, nx, h1, hc.cell h2 h4, hc.cell h3 h5, h4, h5⟩ }

/-- What it tells. -/
def OfOut (w : World) (mp : Option Addr) (a h : Int) (s : ByteArray) (ne : Nat) (pl : List PT) (m : List VT) (e : Ending) (w' : World) : Prop :=
  Chg (InM mp) w w' ∧
  ((GoodP ne a m pl pl.length ∧ ∃ ra, e = .returned (.tuple #[.slice ra pl.length pl.length, .nilIface]) ∧ Vals w' ra pl.length (keyP m pl pl.length) ∧ MetO w' mp (cntP pl pl.length) a h 0) ∨
   (∃ k, k < pl.length ∧ GoodP ne a m pl k ∧ badP ne a m pl k = 60 ∧ e = .returned (.tuple #[.slice none 0 0, .iface 76 (.int .i64 60)]) ∧ MetO w' mp (cntP pl k) a h 0) ∨
   (∃ k b s0, k < pl.length ∧ GoodP ne a m pl k ∧ badP ne a m pl k = 50 ∧ e = .returned (.tuple #[.slice none 0 0, .iface 79 (.pointer (some ⟨b, 0, none⟩))]) ∧ FaultK w' b s ∧ MetO w' mp ((cntP pl k : Int) + 1) a h s0))

/-- What its loop bears. -/
structure OfR (w : World) (mp ae ac : Option Addr) (ne ce nc cc : Nat) (a h : Int) (s : ByteArray) (pl : List PT) (m : List VT) (k : Nat) (lv : Value) (wr : World) : Prop where
  own : OwnV wr (w.heap.size + 2) lv (keyP m pl k)
  chg : Chg (InM mp) w wr
  size : w.heap.size + 2 ≤ wr.heap.size
  d0 : wr.cell? ⟨w.heap.size, 0, none⟩ = some (.string s)
  e0 : wr.cell? ⟨w.heap.size + 1, 0, none⟩ = some (.slice ae ne ce)
  e1 : wr.cell? ⟨w.heap.size + 1, 1, none⟩ = some (.slice ac nc cc)
  met : MetO wr mp (cntP pl k) a h 0
  good : GoodP ne a m pl k
/-- It is borne on. -/
theorem OfR.on {w : World} {mp ae ac : Option Addr} {ne ce nc cc : Nat} {a h : Int} {s : ByteArray} {pl : List PT} {m : List VT} {k : Nat} {lv lv' : Value} {wr x x' : World} (hR : OfR w mp ae ac ne ce nc cc a h s pl m k lv wr) (hmb : ∀ g, InM mp g → g < w.heap.size) (hc : Chg (InM mp) wr x) (hk : k < pl.length) (v : VT) (hv : v = partV m (pl.getD k zeroP)) (hb : badP ne a m pl k = 0)
    (hown : OwnV x' (w.heap.size + 2) lv' (keyP m pl k ++ [v])) (hx : Chg (fun g => w.heap.size + 2 ≤ g) x x') (hm : MetO x mp (cntP pl (k + 1)) a h 0) : OfR w mp ae ac ne ce nc cc a h s pl m (k + 1) lv' x' := by
  have nD : ¬ InM mp w.heap.size := fun h => Nat.lt_irrefl _ (hmb _ h)
  have nE : ¬ InM mp (w.heap.size + 1) := fun h => by have := hmb _ h; omega
  refine ⟨by rw [keyP_succ m pl k hk, ← hv]; exact hown, Chg.trans (Chg.trans hR.chg hc (fun g _ h => h)) hx (fun g hg h => by omega), Nat.le_trans hR.size (Nat.le_trans hc.size hx.size), hx.cell (hc.cell hR.d0 nD) (by show ¬ w.heap.size + 2 ≤ w.heap.size; omega), hx.cell (hc.cell hR.e0 nE) (by show ¬ w.heap.size + 2 ≤ w.heap.size + 1; omega), hx.cell (hc.cell hR.e1 nE) (by show ¬ w.heap.size + 2 ≤ w.heap.size + 1; omega), hm.chg hx (fun g hg h => by have := hmb g hg; omega), hR.good.succ hb⟩

set_option maxRecDepth 20000 in
set_option maxHeartbeats 16000000 in
theorem of_calls (s : ByteArray) (kd cd : Int) (mp ae ac pa va : Option Addr) (ne ce nc cc np pc n vc : Nat) (l : List Value) (pl : List PT) (m : List VT) (a h : Int) (w : World) (hs : s.size ≤ 60) (hI : OfIn w mp ae pa va ne np n l pl m) (ha : mp = none → a = 0) (hm : MetO w mp 0 a h 0) :
    Calls Tryd.prog 13 #[.agg #[.string s, .int .i64 kd, .slice pa np pc, .int .i64 cd], .agg #[.slice ae ne ce, .slice ac nc cc], .slice va n vc] w (OfOut w mp a h s ne pl m) := by
  have hmb : ∀ g, InM mp g → g < w.heap.size := fun g hg => hm.lt hg
  have hpl : pl.length = np := hI.prt.1
  have hml : m.length = n := hI.val.1
  have n8 := hI.np8
  have n12 := hI.n12
  have n5 := hI.ne5
  have HI := hide hI
  have HM := hide hm
  have HMB := hide hmb
  have HA := hide ha
  clear hI hm hmb ha
  have u0 : Hid (Up w ((w.alloc (.cells #[.string s, .int .i64 kd, .slice pa np pc, .int .i64 cd] 24)).alloc (.cells #[.slice ae ne ce, .slice ac nc cc] 35))) := ((Up.refl _).alloc _).alloc _
  have s0 : ((w.alloc (.cells #[.string s, .int .i64 kd, .slice pa np pc, .int .i64 cd] 24)).alloc (.cells #[.slice ae ne ce, .slice ac nc cc] 35)).heap.size = w.heap.size + 2 := by simp
  have d0 : ((w.alloc (.cells #[.string s, .int .i64 kd, .slice pa np pc, .int .i64 cd] 24)).alloc (.cells #[.slice ae ne ce, .slice ac nc cc] 35)).cell? ⟨w.heap.size, 0, none⟩ = some (.string s) := by go_simp
  have d2 : ((w.alloc (.cells #[.string s, .int .i64 kd, .slice pa np pc, .int .i64 cd] 24)).alloc (.cells #[.slice ae ne ce, .slice ac nc cc] 35)).cell? ⟨w.heap.size, 2, none⟩ = some (.slice pa np pc) := by go_simp
  have e0 : ((w.alloc (.cells #[.string s, .int .i64 kd, .slice pa np pc, .int .i64 cd] 24)).alloc (.cells #[.slice ae ne ce, .slice ac nc cc] 35)).cell? ⟨w.heap.size + 1, 0, none⟩ = some (.slice ae ne ce) := by go_simp
  have e1 : ((w.alloc (.cells #[.string s, .int .i64 kd, .slice pa np pc, .int .i64 cd] 24)).alloc (.cells #[.slice ae ne ce, .slice ac nc cc] 35)).cell? ⟨w.heap.size + 1, 1, none⟩ = some (.slice ac nc cc) := by go_simp
  generalize hW : (w.alloc (.cells #[.string s, .int .i64 kd, .slice pa np pc, .int .i64 cd] 24)).alloc (.cells #[.slice ae ne ce, .slice ac nc cc] 35) = W at u0 s0 d0 d2 e0 e1
  have R0 : Hid (OfR w mp ae ac ne ce nc cc a h s pl m 0 (.slice none 0 0) W) := ⟨OwnV.nil _ _, Chg.of_up u0.out, Nat.le_of_eq s0.symm, d0, e0, e1, HM.out.up u0.out, fun j hj => absurd hj (Nat.not_lt_zero j)⟩
  clear d0 e0 e1 s0 u0
  go_enter Tryd.func13, Tryd.ntmps13
  go_wp2_with fail
  clear hW
  go_loopw [8, 17] (fun lv i wr => ∃ (k : Nat) (v : Value), k ≤ np ∧ i = .int .i64 k ∧ v = lv ∧ OfR w mp ae ac ne ce nc cc a h s pl m k v wr) (fun _ i _ => np - (intOf i).toNat)
  case atStart => exact ⟨0, _, Nat.zero_le _, rfl, rfl, R0.out⟩
  case round =>
    clear R0 d2
    obtain ⟨k, lv, hk, rfl, rfl, hR⟩ := hrel
    have HR := hide hR
    have HJ := hide (HI.out.chg hR.chg)
    by_cases hlt : k < np
    · have t0 : decide ((k : Int) < np) = true := decide_eq_true (by omega)
      obtain ⟨pb, po, rfl, p0, p1⟩ := HJ.out.prt.prt hlt
      obtain ⟨⟨f, q⟩, hP⟩ : ∃ P, P = pl.getD k zeroP := ⟨_, rfl⟩
      have hfp := HJ.out.prt.2.1 k
      rw [← hP] at p0 p1 hfp
      dsimp only at p0 p1
      have HP := hide hP
      have HFP := hide hfp
      have d0 := hR.d0
      have e0 := hR.e0
      have e1 := hR.e1
      have hsz := hR.size
      have hkn : (k : Int) < np := by omega
      have hn63 : np ≤ 2 ^ 63 - 1 := by omega
      clear hP hfp hR
      have uX : Hid (Up wr (wr.alloc (.cells #[.int .i64 f, .int .i64 q] 45))) := (Up.refl _).alloc _
      have x0 : (wr.alloc (.cells #[.int .i64 f, .int .i64 q] 45)).cell? ⟨wr.heap.size, 0, none⟩ = some (.int .i64 f) := by go_simp
      have x1 : (wr.alloc (.cells #[.int .i64 f, .int .i64 q] 45)).cell? ⟨wr.heap.size, 1, none⟩ = some (.int .i64 q) := by go_simp
      have hwX : wr.heap.size < (wr.alloc (.cells #[.int .i64 f, .int .i64 q] 45)).heap.size := by simp
      generalize hX : wr.alloc (.cells #[.int .i64 f, .int .i64 q] 45) = X at uX x0 x1 hwX
      replace d0 := uX.out.cell d0
      replace e0 := uX.out.cell e0
      replace e1 := uX.out.cell e1
      go_wp2_with fail
      clear hX p0 p1
      go_at_call 30
      refine (there_calls (f, q) ae ac va ne ce nc cc n vc X (by unfold maxLen; omega) (by unfold maxLen; omega)).mono ?_
      rintro _ y ⟨rfl, hu1⟩
      replace d0 := hu1.cell d0
      replace e0 := hu1.cell e0
      replace e1 := hu1.cell e1
      replace x0 := hu1.cell x0
      replace x1 := hu1.cell x1
      have hwy : wr.heap.size < y.heap.size := Nat.lt_of_lt_of_le hwX hu1.size
      have UY : Hid (Up wr y) := uX.out.trans hu1
      clear hu1 uX hwX
      cases hth : thereB ne n (f, q) with
      | false =>
        have HTH := hide hth
        clear hth
        go_wp2
        refine bodyPost_ret (v := .tuple #[.slice none 0 0, .iface 76 (.int .i64 60)]) (by simp [results, Tryd.results13, go_sem, *]) rfl ?_
        refine ⟨HR.out.chg.andUp UY.out, .inr (.inl ⟨k, by omega, HR.out.good, badP_there (by rw [← HP.out, hml]; exact HTH.out), rfl, HR.out.met.up UY.out⟩)⟩
      | true =>
        have HTH := hide hth
        clear hth
        go_wp2_with fail
        go_at_call 31
        by_cases hf : f = -1
        · subst hf
          obtain ⟨hq0, hq1⟩ := thereB_hook HTH.out rfl
          obtain ⟨q, rfl⟩ : ∃ j : Nat, q = j := ⟨q.toNat, by dsimp only at hq0; omega⟩
          have hqe : q < ne := by dsimp only at hq1; omega
          have HY := hide (HI.out.chg (HR.out.chg.andUp UY.out))
          obtain ⟨mx, nx, hfv, hmx, hnx, nmx, nnx⟩ := HY.out.xtr q hqe
          have hcl := cntP_le pl k
          refine (told_hook s q ae ac va ne ce nc cc n vc l _ mp (cntP pl k) a h m y (by unfold maxLen; omega) hqe HY.out.fns hfv (fun g hg => Nat.lt_of_lt_of_le (HMB.out g hg) (Nat.le_trans (Nat.le_trans (Nat.le_add_right _ 2) hsz) (Nat.le_of_lt hwy))) (fun y1 hu => ext_step mp mx nx (q : Int) (cntP pl k) a h s va n vc m y1 hs (HY.out.tab.up hu) HY.out.tabm (by omega) (by omega) (by omega) HA.out n12 (HY.out.val.up hu) HY.out.short ((HR.out.met.up UY.out).up hu) (hu.cell hmx) (hu.cell hnx) nnx)).mono ?_
          rintro _ x2 ⟨⟨vk, vz, vt, vf⟩, ev, rfl, hc2, ho2⟩
          clear hmx hnx nmx nnx hfv hcl hq0 hq1
          have C2 : Hid (Chg (InM mp) wr x2) := Chg.trans (Chg.of_up UY.out) hc2 (fun g _ h => h)
          clear d0 e0 e1 x0 x1
          rcases ho2 with ⟨rfl, hve, hib, hca, hmt⟩ | ⟨b, s1, rfl, hcb, hbb, hfk, hmt⟩
          · have HMT := hide hmt
            have HV : Hid ((vk, vz, vt, vf) = partV m (pl.getD k zeroP)) := by
              show (vk, vz, vt, vf) = partV m (pl.getD k zeroP)
              rw [← HP.out, hve]
              unfold partV
              rw [if_pos rfl]
            have HB : Hid (badP ne a m pl k = 0) := badP_good (by rw [← HP.out, hml]; exact HTH.out) hca (by rw [← HP.out]; exact hib)
            have hsx := hc2.size
            clear hve hib hca hmt hc2
            have hx2 : wr.heap.size < x2.heap.size := Nat.lt_of_lt_of_le hwy hsx
            have uZ : Hid (Up x2 ((x2.alloc (.cells #[.int .i64 vk, .int .i64 vz, .string vt, .float .f64 vf] 49)).alloc (.cells #[.pointer none] 79))) := ((Up.refl _).alloc _).alloc _
            have z0 : ((x2.alloc (.cells #[.int .i64 vk, .int .i64 vz, .string vt, .float .f64 vf] 49)).alloc (.cells #[.pointer none] 79)).cell? ⟨x2.heap.size, 0, none⟩ = some (.int .i64 vk) := by go_simp
            have z1 : ((x2.alloc (.cells #[.int .i64 vk, .int .i64 vz, .string vt, .float .f64 vf] 49)).alloc (.cells #[.pointer none] 79)).cell? ⟨x2.heap.size, 1, none⟩ = some (.int .i64 vz) := by go_simp
            have z2 : ((x2.alloc (.cells #[.int .i64 vk, .int .i64 vz, .string vt, .float .f64 vf] 49)).alloc (.cells #[.pointer none] 79)).cell? ⟨x2.heap.size, 2, none⟩ = some (.string vt) := by go_simp
            have z3 : ((x2.alloc (.cells #[.int .i64 vk, .int .i64 vz, .string vt, .float .f64 vf] 49)).alloc (.cells #[.pointer none] 79)).cell? ⟨x2.heap.size, 3, none⟩ = some (.float .f64 vf) := by go_simp
            generalize hZ : (x2.alloc (.cells #[.int .i64 vk, .int .i64 vz, .string vt, .float .f64 vf] 49)).alloc (.cells #[.pointer none] 79) = Z at uZ z0 z1 z2 z3
            have oZ : Hid (OwnV Z (w.heap.size + 2) lv (keyP m pl k)) := (HR.out.own.chg C2.out (fun g hg hi => by have := HMB.out g hi; omega)).up uZ.out
            have hsZ : w.heap.size + 2 ≤ Z.heap.size := Nat.le_trans hsz (Nat.le_trans (Nat.le_of_lt hx2) uZ.out.size)
            go_wp2_with fail
            go_at_call 32
            refine (errAs_nil _ _).mono ?_
            rintro _ y3 ⟨rfl, hy3⟩
            obtain rfl : Z = y3 := hy3.symm
            clear hZ hy3
            have hkl := keyP_length m pl k (by omega)
            have HKL := hide hkl
            go_wp2_with (at_builtin; refine append_value rfl (.tmp 41) (.tmp 43) rfl (w.heap.size + 2) _ _ rfl (oZ.out.alloc _) _ 1 1 [(vk, vz, vt, vf)] rfl rfl (value_new (vk, vz, vt, vf)) (by have := HKL.out; omega) (Nat.le_trans hsZ (by simp)) ?_)
            intro g2 w2 ho3 hg3
            have G2 : Hid (Chg (fun g => w.heap.size + 2 ≤ g) Z w2) := Chg.trans (Chg.of_up ((Up.refl Z).alloc _)) (grown_chg (oZ.out.alloc _) hg3) (fun g _ h => h)
            have HO3 := hide ho3
            clear ho3 hg3 oZ z0 z1 z2 z3
            go_wp2
            go_roundw
            case rel =>
              refine ⟨k + 1, _, by omega, by go_num, rfl, HR.out.on HMB.out (C2.out.andUp uZ.out) (by omega) (vk, vz, vt, vf) HV.out HB.out HO3.out G2.out ?_⟩
              have hcc := cntP_succ pl k (by omega)
              rw [← HP.out, if_pos rfl] at hcc
              have hcc2 : (cntP pl (k + 1) : Int) = (cntP pl k : Int) + 1 := by omega
              rw [hcc2]
              exact HMT.out.up uZ.out
            case measure => simp [intOf]; omega
          · have HFK := hide hfk
            have HMT := hide hmt
            have HCB := hide hcb
            clear hfk hmt hcb hc2
            have hx2 : wr.heap.size < x2.heap.size := Nat.lt_of_lt_of_le hwy (Nat.le_trans (Nat.le_of_lt_succ (Nat.lt_succ_of_le hbb)) (Nat.le_of_lt HFK.out.lt))
            have uZ : Hid (Up x2 ((x2.alloc (.cells #[.int .i64 vk, .int .i64 vz, .string vt, .float .f64 vf] 49)).alloc (.cells #[.pointer none] 79))) := ((Up.refl _).alloc _).alloc _
            have z4 : ((x2.alloc (.cells #[.int .i64 vk, .int .i64 vz, .string vt, .float .f64 vf] 49)).alloc (.cells #[.pointer none] 79)).cell? ⟨x2.heap.size + 1, 0, none⟩ = some (.pointer none) := by go_simp
            have z5 : ((x2.alloc (.cells #[.int .i64 vk, .int .i64 vz, .string vt, .float .f64 vf] 49)).alloc (.cells #[.pointer none] 79)).frozen? ⟨x2.heap.size + 1, 0, none⟩ = false := by go_simp
            generalize hZ : (x2.alloc (.cells #[.int .i64 vk, .int .i64 vz, .string vt, .float .f64 vf] 49)).alloc (.cells #[.pointer none] 79) = Z at uZ z4 z5
            have TZ : Hid (TabE Z) := (HI.out.chg ((Chg.trans HR.out.chg C2.out (fun g _ h => h)).andUp uZ.out)).tab
            go_wp2_with fail
            go_at_call 32
            refine (As_hitF ⟨b, 0, none⟩ ⟨x2.heap.size + 1, 0, none⟩ (.pointer none) Z TZ.out z4 z5).mono ?_
            rintro _ y3 ⟨rfl, y2, hu2, hy3⟩
            have k0 : y3.cell? ⟨x2.heap.size + 1, 0, none⟩ = some (.pointer (some ⟨b, 0, none⟩)) := by rw [hy3]; exact World.cell?_setCell_same _ _ _ (hu2.cell z4)
            have c3 : Hid (Chg (fun g => g = x2.heap.size + 1) x2 y3) := by rw [hy3]; exact Chg.set (C := fun g => g = x2.heap.size + 1) ((Chg.of_up uZ.out).andUp hu2) (p := ⟨x2.heap.size + 1, 0, none⟩) (fun _ => rfl) _
            clear hy3 hu2 hZ z4 z5
            go_wp2_with fail
            go_quiet (fail)
            go_wp2
            refine bodyPost_ret (v := .tuple #[.slice none 0 0, .iface 79 (.pointer (some ⟨b, 0, none⟩))]) (by simp [results, Tryd.results13, go_sem, *]) rfl ?_
            have hblt := HFK.out.lt
            refine ⟨(Chg.trans (Chg.trans HR.out.chg C2.out (fun g _ h => h)) c3.out (fun g hg e => by omega)).andUp ((Up.refl _).drewN _), .inr (.inr ⟨k, b, s1, by omega, HR.out.good, badP_fault (by rw [← HP.out, hml]; exact HTH.out) (by rw [← HP.out]) (by rw [← HP.out]; exact HCB.out), rfl, (HFK.out.chg c3.out (by show ¬ b = x2.heap.size + 1; omega)).up ((Up.refl _).drewN _), (HMT.out.chg c3.out (fun g hg e => by have := HMB.out g hg; omega)).up ((Up.refl _).drewN _)⟩)⟩
        · obtain ⟨hq0, hq1⟩ := thereB_field HTH.out hf
          obtain ⟨f, rfl⟩ : ∃ j : Nat, f = j := ⟨f.toNat, by dsimp only at hq0; omega⟩
          have hfn : f < n := by dsimp only at hq1; omega
          have HY := hide (HI.out.chg (HR.out.chg.andUp UY.out))
          refine (told_field s f q _ va n vc m y (by unfold maxLen; omega) hfn HY.out.val ⟨ae, ne, ce, ac, nc, cc, rfl⟩).mono ?_
          rintro _ x2 ⟨rfl, hu2⟩
          obtain ⟨⟨vk, vz, vt, vf⟩, hve⟩ : ∃ v, v = m.getD f zeroT := ⟨_, rfl⟩
          rw [← hve]
          dsimp only
          have C2 : Hid (Chg (InM mp) wr x2) := Chg.of_up (UY.out.trans hu2)
          have hmt : MetO x2 mp (cntP pl k) a h 0 := (HR.out.met.up UY.out).up hu2
          clear d0 e0 e1 x0 x1 hq0 hq1
          have HMT := hide hmt
          have HV : Hid ((vk, vz, vt, vf) = partV m (pl.getD k zeroP)) := by
            show (vk, vz, vt, vf) = partV m (pl.getD k zeroP)
            rw [← HP.out, hve]
            unfold partV
            rw [if_neg hf, Int.toNat_natCast]
          have HB : Hid (badP ne a m pl k = 0) := badP_field (by rw [← HP.out, hml]; exact HTH.out) (by rw [← HP.out]; exact hf)
          have hsx := hu2.size
          have HF' := hide hf
          clear hve hmt hu2 hf
          have hx2 : wr.heap.size < x2.heap.size := Nat.lt_of_lt_of_le hwy hsx
          have uZ : Hid (Up x2 ((x2.alloc (.cells #[.int .i64 vk, .int .i64 vz, .string vt, .float .f64 vf] 49)).alloc (.cells #[.pointer none] 79))) := ((Up.refl _).alloc _).alloc _
          have z0 : ((x2.alloc (.cells #[.int .i64 vk, .int .i64 vz, .string vt, .float .f64 vf] 49)).alloc (.cells #[.pointer none] 79)).cell? ⟨x2.heap.size, 0, none⟩ = some (.int .i64 vk) := by go_simp
          have z1 : ((x2.alloc (.cells #[.int .i64 vk, .int .i64 vz, .string vt, .float .f64 vf] 49)).alloc (.cells #[.pointer none] 79)).cell? ⟨x2.heap.size, 1, none⟩ = some (.int .i64 vz) := by go_simp
          have z2 : ((x2.alloc (.cells #[.int .i64 vk, .int .i64 vz, .string vt, .float .f64 vf] 49)).alloc (.cells #[.pointer none] 79)).cell? ⟨x2.heap.size, 2, none⟩ = some (.string vt) := by go_simp
          have z3 : ((x2.alloc (.cells #[.int .i64 vk, .int .i64 vz, .string vt, .float .f64 vf] 49)).alloc (.cells #[.pointer none] 79)).cell? ⟨x2.heap.size, 3, none⟩ = some (.float .f64 vf) := by go_simp
          generalize hZ : (x2.alloc (.cells #[.int .i64 vk, .int .i64 vz, .string vt, .float .f64 vf] 49)).alloc (.cells #[.pointer none] 79) = Z at uZ z0 z1 z2 z3
          have oZ : Hid (OwnV Z (w.heap.size + 2) lv (keyP m pl k)) := (HR.out.own.chg C2.out (fun g hg hi => by have := HMB.out g hi; omega)).up uZ.out
          have hsZ : w.heap.size + 2 ≤ Z.heap.size := Nat.le_trans hsz (Nat.le_trans (Nat.le_of_lt hx2) uZ.out.size)
          go_wp2_with fail
          go_at_call 32
          refine (errAs_nil _ _).mono ?_
          rintro _ y3 ⟨rfl, hy3⟩
          obtain rfl : Z = y3 := hy3.symm
          clear hZ hy3
          have hkl := keyP_length m pl k (by omega)
          have HKL := hide hkl
          go_wp2_with (at_builtin; refine append_value rfl (.tmp 41) (.tmp 43) rfl (w.heap.size + 2) _ _ rfl (oZ.out.alloc _) _ 1 1 [(vk, vz, vt, vf)] rfl rfl (value_new (vk, vz, vt, vf)) (by have := HKL.out; omega) (Nat.le_trans hsZ (by simp)) ?_)
          intro g2 w2 ho3 hg3
          have G2 : Hid (Chg (fun g => w.heap.size + 2 ≤ g) Z w2) := Chg.trans (Chg.of_up ((Up.refl Z).alloc _)) (grown_chg (oZ.out.alloc _) hg3) (fun g _ h => h)
          have HO3 := hide ho3
          clear ho3 hg3 oZ z0 z1 z2 z3
          go_wp2
          go_roundw
          case rel =>
            refine ⟨k + 1, _, by omega, by go_num, rfl, HR.out.on HMB.out (C2.out.andUp uZ.out) (by omega) (vk, vz, vt, vf) HV.out HB.out HO3.out G2.out ?_⟩
            have hcc := cntP_succ pl k (by omega)
            rw [← HP.out, if_neg HF'.out] at hcc
            rw [hcc]
            exact HMT.out.up uZ.out
          case measure => simp [intOf]; omega
    · obtain rfl : k = np := by omega
      have t0 : decide ((k : Int) < k) = false := decide_eq_false (by omega)
      obtain rfl : pl.length = k := hpl
      obtain ⟨ra, rc, rfl, HV⟩ := ownV_row HR.out.own (fun i => keyP_get m pl _ i Fits fits_zero (fun p => partV_fits m p HI.out.val.2.1 HI.out.short)) (keyP_length m pl _ (Nat.le_refl _))
      have HV := hide HV
      clear hR
      go_wp2_with fail
      go_at_call 33
      refine (scopy_calls ra pl.length rc (keyP m pl pl.length) wr (by omega) HV.out (fun i => keyP_get m pl _ i (fun v => v.2.2.1.size ≤ 200) (by decide) (fun p => partV_s m p HI.out.short))).mono ?_
      rintro _ y ⟨ra', rfl, hnr, hu⟩
      have HN := hide hnr
      have HU := hide hu
      clear hnr hu
      go_wp2
      refine bodyPost_ret (v := .tuple #[.slice ra' pl.length pl.length, .nilIface]) (by simp [results, Tryd.results13, go_sem, *]) rfl ?_
      exact ⟨HR.out.chg.andUp HU.out, .inl ⟨HR.out.good, ra', rfl, HN.out.1, HR.out.met.up HU.out⟩⟩

end Go.Proofs.YtnnbcpopjnlnoaaDoor
