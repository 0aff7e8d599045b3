/-
  A comparator of rialtoplay that doesn't strike, hook.Compare of it, key.Compare and ordidx's order by it, as their texts run.
-/
import Derived.Test.YtnokokhbcfkifaaGreatDoorHookCmp
import Derived.Test.YtnokokhbcfkifaaGreatDoorHookCpr
import Derived.Test.YtnokokhbcfkifaaGreatDoorKeyUse
import Derived.Test.YtnokokhbcfkifaaGreatDoorOxOrw
import Derived.Test.YtnokokhbcfkifaaGreatDoorRowsOrd
import Derived.Deep.RegionLaw
namespace Go.Proofs.YtnokokhbcfkifaaGreatDoor
open Go.ChangeShapes Go.WideShapes Go.ChangeAt Go.RowKit
set_option linter.unusedVariables false
set_option maxRecDepth 100000
attribute [local go_sem ↓] Go.wp_at_zero Go.wp_at_succ

set_option maxHeartbeats 4000000 in
theorem cprO_ok (mx nx : Nat) (mp : Option Addr) (q c t h s : Int) (a b : Option Addr) (n p : Nat) (m l : List VT) (x : World) (hq : q = 0 ∨ q = 1 ∨ q = 2) (hn : n ≤ 12) (hp : p ≤ 12) (hv : Vals x a n m) (hw : Vals x b p l) (ha : ∀ g, RowB a g → ¬ InM mp g) (hb : ∀ g, RowB b g → ¬ InM mp g) (hsh : ∀ i, (m.getD i zeroT).2.2.1.size ≤ 200) (hsl : ∀ i, (l.getD i zeroT).2.2.1.size ≤ 200) (hne : ¬ InM mp nx) (k0 : x.cell? ⟨mx, 0, none⟩ = some (.pointer mp)) (k1 : x.cell? ⟨nx, 0, none⟩ = some (.int .i64 q)) (hc0 : 0 ≤ c) (hc1 : c ≤ 1000000) (ht : t = 0 ∨ ¬ c + 1 = t) (hm : MetO x mp c t h s) :
    Calls Tryz.prog 53 (#[.slice a n n, .slice b p p] ++ #[.pointer (some ⟨mx, 0, none⟩), .pointer (some ⟨nx, 0, none⟩)]) x fun e x' => e = .returned (.tuple #[.int .i64 (wrap64 (7 * cxV q m l)), .nilIface]) ∧ Chg (InM mp) x x' ∧ MetO x' mp (c + 1) t h s := by
  show Calls Tryz.prog 53 #[.slice a n n, .slice b p p, .pointer (some ⟨mx, 0, none⟩), .pointer (some ⟨nx, 0, none⟩)] x _
  have HR : Hid (∀ y, Vals y a n m → Vals y b p l → Calls Tryz.prog 34 #[.int .i64 q, .slice a n n, .slice b p p] y fun e w' => e = .returned (.int .i64 (cxV q m l)) ∧ Up y w') := fun y h1 h2 => rcx_calls q a b n p m l y hq hn hp h1 h2 hsh hsl
  obtain ⟨r, hr⟩ : ∃ r, r = cxV q m l := ⟨_, rfl⟩
  rw [← hr] at HR ⊢
  have HM := hide (tickO mp c t h s x hc0 hc1 ht hm)
  have HV := hide hv
  have HW := hide hw
  have HNA := hide ha
  have HNB := hide hb
  clear hr hm hv hw ha hb hsh hsl hq ht
  go_enter Tryz.func53, Tryz.ntmps53
  go_wp2_with fail
  go_at_call 51
  refine HM.out.mono ?_
  rintro _ x1 ⟨rfl, hm1, hc1⟩
  have j1 := hc1.cell k1 hne
  have HV1 : Hid (Vals x1 a n m) := HV.out.chg hc1 HNA.out
  have HW1 : Hid (Vals x1 b p l) := HW.out.chg hc1 HNB.out
  have HM1 := hide hm1
  have HC1 := hide hc1
  clear hm1 hc1 k0 k1
  go_wp2_with fail
  go_at_call 34
  refine (HR.out x1 HV1.out HW1.out).mono ?_
  rintro _ x2 ⟨rfl, hu⟩
  have HH : Hid (Chg (InM mp) x x2 ∧ MetO x2 mp (c + 1) t h s) := ⟨HC1.out.andUp hu, HM1.out.up hu⟩
  clear hu HR
  go_wp2
  go_ret2
  exact ⟨rfl, HH.out⟩

/-- Whether a number is one of a row's. -/
def knumB (x : Int) (n : Nat) : Bool := decide (0 ≤ x) && decide (x < n)
theorem knum_calls (x : Int) (n : Nat) (w : World) : Calls Tryz.prog 102 #[.int .i64 x, .int .i64 (n : Int)] w fun e w' => e = .returned (.bool (knumB x n)) ∧ w' = w := by
  go_enter Tryz.func102, Tryz.ntmps102
  go_wp2
  all_goals (go_ret; refine ⟨congrArg (fun b => Ending.returned (Value.bool b)) ?_, rfl⟩; unfold knumB; rw [Bool.eq_iff_iff]; simp only [Bool.and_eq_true, decide_eq_true_eq, Bool.false_eq_true, false_iff]; omega)

theorem cxV_small (q : Int) (m l : List VT) : -1 ≤ cxV q m l ∧ cxV q m l ≤ 1 := by
  have h0 := rowsV_small m l
  have h1 := rowsV_small (m.take 1) (l.take 1)
  unfold cxV
  split
  · unfold wrap64
    omega
  · split
    · exact h1
    · split
      · exact h0
      · split
        · decide
        · decide
theorem cxV_seven (q : Int) (m l : List VT) : cmpI (wrap64 (7 * cxV q m l)) 0 = cxV q m l := by
  have h := cxV_small q m l
  generalize cxV q m l = c at h
  have hc : c = -1 ∨ c = 0 ∨ c = 1 := by omega
  rcases hc with rfl | rfl | rfl
  · have e : wrap64 (7 * -1) = -7 := by unfold wrap64; omega
    rw [e]; unfold cmpI; rw [if_pos (by decide)]
  · have e : wrap64 (7 * 0) = 0 := by unfold wrap64; omega
    rw [e, cmpI_self]
  · have e : wrap64 (7 * 1) = 7 := by unfold wrap64; omega
    rw [e]; unfold cmpI; rw [if_neg (by decide), if_pos (by decide)]

set_option maxRecDepth 20000 in
set_option maxHeartbeats 8000000 in
/-- key.Compare by a comparator. -/
theorem kcmp_hook (s : ByteArray) (kd : Int) (q : Nat) (pa ae ac : Option Addr) (np pc ne ce nc cc : Nat) (av bv : Value) (L : List Value) (fv : Value) (Q : World → Int → Value → World → Prop) (w : World) (hnc : nc ≤ 1000) (hq : q < nc) (hf : FnsH w ac nc L) (hl : L.getD q .nilFunc = fv)
    (hX : ∀ w1, Up w w1 → Calls Tryz.prog 103 #[.string s, fv, av, bv] w1 fun e w' => ∃ r ev, e = .returned (.tuple #[.int .i64 r, ev]) ∧ Q w1 r ev w') :
    Calls Tryz.prog 86 #[.agg #[.string s, .int .i64 kd, .slice pa np pc, .int .i64 (q : Int)], .agg #[.slice ae ne ce, .slice ac nc cc], av, bv] w fun e w' => ∃ w1 r ev, Up w w1 ∧ e = .returned (.tuple #[.int .i64 r, ev]) ∧ Q w1 r ev w' := by
  have t0 : ((q : Int) == -1) = false := by rw [beq_eq_false_iff_ne]; omega
  have hb : Hid (knumB (q : Int) nc = true) := by
    show knumB (q : Int) nc = true
    unfold knumB
    rw [Bool.and_eq_true, decide_eq_true_eq, decide_eq_true_eq]
    omega
  obtain ⟨b, off, rfl, c0⟩ := hf.fnH hq
  rw [hl] at c0
  have hbw : b < w.heap.size := World.block_lt_of_cell? w _ c0
  have HX := hide hX
  clear hX hf hl
  have uW : Hid (Up w ((w.alloc (.cells #[.string s, .int .i64 kd, .slice pa np pc, .int .i64 (q : Int)] 162)).alloc (.cells #[.slice ae ne ce, .slice (some ⟨b, off, none⟩) nc cc] 34))) := ((Up.refl _).alloc _).alloc _
  have d0 : ((w.alloc (.cells #[.string s, .int .i64 kd, .slice pa np pc, .int .i64 (q : Int)] 162)).alloc (.cells #[.slice ae ne ce, .slice (some ⟨b, off, none⟩) nc cc] 34)).cell? ⟨w.heap.size, 0, none⟩ = some (.string s) := by go_simp
  have d3 : ((w.alloc (.cells #[.string s, .int .i64 kd, .slice pa np pc, .int .i64 (q : Int)] 162)).alloc (.cells #[.slice ae ne ce, .slice (some ⟨b, off, none⟩) nc cc] 34)).cell? ⟨w.heap.size, 3, none⟩ = some (.int .i64 (q : Int)) := by go_simp
  have e1 : ((w.alloc (.cells #[.string s, .int .i64 kd, .slice pa np pc, .int .i64 (q : Int)] 162)).alloc (.cells #[.slice ae ne ce, .slice (some ⟨b, off, none⟩) nc cc] 34)).cell? ⟨w.heap.size + 1, 1, none⟩ = some (.slice (some ⟨b, off, none⟩) nc cc) := by go_simp
  generalize hW : (w.alloc (.cells #[.string s, .int .i64 kd, .slice pa np pc, .int .i64 (q : Int)] 162)).alloc (.cells #[.slice ae ne ce, .slice (some ⟨b, off, none⟩) nc cc] 34) = W at uW d0 d3 e1
  replace c0 := uW.out.cell c0
  have hq63 : (q : Int) < nc := by omega
  go_enter Tryz.func86, Tryz.ntmps86
  go_wp2_with fail
  clear hW
  go_at_call 102
  refine (knum_calls (q : Int) nc W).mono ?_
  rintro _ x ⟨rfl, hx⟩
  obtain rfl : W = x := hx.symm
  clear hx
  rw [hb.out]
  go_wp2_with fail
  go_region_law
    (go_simp; go_at_call 103; refine (HX.out _ ((uW.out.drew))).mono ?_; rintro _ y ⟨r, ev, rfl, hQ⟩; have HQ := hide hQ; clear hQ; dsimp only)
  all_goals (
    go_wp2
    refine bodyPost_ret (v := .tuple #[.int .i64 r, ev]) (by simp [results, Tryz.results86, go_sem, *]) rfl ?_
    exact ⟨_, r, ev, uW.out.drew, rfl, HQ.out⟩)


/-- A comparator, and the meter that it counts by. -/
structure CpW (mp : Option Addr) (q : Nat) (mx nx : Nat) (c t h s : Int) (w : World) : Prop where
  tab : TabE w
  tabn : ¬ InM mp 0
  met : MetO w mp c t h s
  k0 : w.cell? ⟨mx, 0, none⟩ = some (.pointer mp)
  k1 : w.cell? ⟨nx, 0, none⟩ = some (.int .i64 (q : Int))
  n0 : ¬ InM mp mx
  n1 : ¬ InM mp nx
theorem CpW.up {mp : Option Addr} {q mx nx : Nat} {c t h s : Int} {w w' : World} (p : CpW mp q mx nx c t h s w) (hu : Up w w') : CpW mp q mx nx c t h s w' :=
  ⟨p.tab.up hu, p.tabn, p.met.up hu, hu.cell p.k0, hu.cell p.k1, p.n0, p.n1⟩
theorem CpW.chg {mp : Option Addr} {q mx nx : Nat} {c t h s : Int} {C : Nat → Prop} {w w' : World} (p : CpW mp q mx nx c t h s w) (hc : Chg C w w') (h1 : ∀ g, InM mp g → ¬ C g) (h2 : ¬ C mx) (h3 : ¬ C nx) (h4 : ¬ C 0) : CpW mp q mx nx c t h s w' :=
  ⟨hc.cell p.tab h4, p.tabn, p.met.chg hc h1, hc.cell p.k0 h2, hc.cell p.k1 h3, p.n0, p.n1⟩
/-- The meter was told something. -/
theorem CpW.met' {mp : Option Addr} {q mx nx : Nat} {c t h s c' t' h' s' : Int} {w w' : World} (p : CpW mp q mx nx c t h s w) (hc : Chg (InM mp) w w') (hm : MetO w' mp c' t' h' s') : CpW mp q mx nx c' t' h' s' w' :=
  ⟨hc.cell p.tab p.tabn, p.tabn, hm, hc.cell p.k0 p.n0, hc.cell p.k1 p.n1, p.n0, p.n1⟩
/-- A comparator of rialtoplay. -/
def cpF (mx nx : Nat) : Value := .func (.func 53) #[] #[.pointer (some ⟨mx, 0, none⟩), .pointer (some ⟨nx, 0, none⟩)]
theorem Handed.ge {B : Nat} {w : World} {a : Option Addr} {n : Nat} {m : List VT} (h : Handed B w a n m) {b : Nat} (hb : RowB a b) : B ≤ b := by
  rcases Nat.lt_or_ge b B with h' | h'
  · exact absurd hb (h.not (.inl h'))
  · exact h'
theorem left_o {w w' : World} {C : Nat → Prop} {T : World → World → Prop} (h : Left w (fun x x' => Chg (fun g => C g ∨ w.heap.size ≤ g) x x' ∧ T x x') w') : Chg C w w' ∧ ∃ x x', Up w x ∧ T x x' ∧ Chg (Mid w.heap.size x.heap.size) x' w' := by
  obtain ⟨x, x', h1, ⟨h2, h3⟩, h4, h5⟩ := h
  refine ⟨Chg.trans (Chg.trans (Chg.of_up h1) h2 (fun g hg h => h.resolve_right (by omega))) h5 (fun g hg h => by have := h.1; omega), x, x', h1, h3, h5⟩
/-- A key: its values, few of them. -/
structure KeyK (w : World) (a : Option Addr) (n : Nat) (m : List VT) : Prop where
  few : n ≤ 12
  vals : Vals w a n m
  sh : ∀ i, (m.getD i zeroT).2.2.1.size ≤ 200
theorem KeyK.up {w w' : World} {a : Option Addr} {n : Nat} {m : List VT} (k : KeyK w a n m) (hu : Up w w') : KeyK w' a n m := ⟨k.few, k.vals.up hu, k.sh⟩
theorem cmpO_ok (s0 : ByteArray) (mp : Option Addr) (q mx nx : Nat) (c t h s : Int) (av bv : Option Addr) (n cc p d : Nat) (m l : List VT) (w : World) (hs : s0.size ≤ 60) (cw : CpW mp q mx nx c t h s w) (hq : q ≤ 2) (hc0 : 0 ≤ c) (hc1 : c ≤ 1000000) (ht : t = 0 ∨ ¬ c + 1 = t) (ka : KeyK w av n m) (kb : KeyK w bv p l) :
    Calls Tryz.prog 103 #[.string s0, cpF mx nx, .slice av n cc, .slice bv p d] w fun e w' => e = .returned (.tuple #[.int .i64 (cxV q m l), .nilIface]) ∧ Chg (InM mp) w w' ∧ MetO w' mp (c + 1) t h s := by
  obtain ⟨hT, hTm, hm, hx, hy, hn0, hn1⟩ := cw
  have hs' : s0.size ≤ 281474976710656 := by omega
  have hq' : (q : Int) = 0 ∨ (q : Int) = 1 ∨ (q : Int) = 2 := by omega
  have htab : ∀ x x' : World, Up w x → Chg (fun g => InM mp g ∨ w.heap.size ≤ g) x x' → TabE x' := fun x x' h1 h2 => h2.cell (hT.up h1) (fun e => e.elim (fun e => hTm e) (fun e => by have e' : w.heap.size ≤ 0 := e; have := World.block_lt_of_cell? w _ hT; simp at this; omega))
  refine (cmp_ok s0 53 #[.pointer (some ⟨mx, 0, none⟩), .pointer (some ⟨nx, 0, none⟩)] av bv n cc p d m l (wrap64 (7 * cxV q m l)) (InM mp) (fun x x' => Chg (fun g => InM mp g ∨ w.heap.size ≤ g) x x' ∧ MetO x' mp (c + 1) t h s) w hs' hT (fun b e => hm.lt e) ka.few ka.vals ka.sh kb.few kb.vals kb.sh (fun v v' w' => cpr_enter v v' _ w') (fun x a' b' hx' h1 h2 => (cprO_ok mx nx mp q c t h s a' b' n p m l x hq' ka.few kb.few h1.1 h2.1 (fun g hr hi => by have := h1.ge hr; have := hm.lt hi; omega) (fun g hr hi => by have := h2.ge hr; have := hm.lt hi; omega) ka.sh kb.sh hn1 (hx'.cell hx) (hx'.cell hy) hc0 hc1 ht (hm.up hx')).mono ?_)).mono ?_
  · rintro _ x' ⟨rfl, g1, g2⟩
    have h5 : Chg (fun g => InM mp g ∨ w.heap.size ≤ g) x x' := g1.mono (fun g _ h => Or.inl h)
    exact ⟨rfl, g1.mono (fun g _ h => Or.inl h), htab x x' hx' h5, h5, g2⟩
  · rintro _ w' ⟨rfl, hl⟩
    obtain ⟨hc, x, x', h1, h2, h3⟩ := left_o hl
    exact ⟨by rw [cxV_seven], hc, h2.chg h3 (fun g hg hm' => by have := hm'.1; have := hm.lt hg; omega)⟩
/-- order, where the comparator doesn't strike. -/
theorem order_ok (X : Nat) (mp : Option Addr) (q mx nx : Nat) (c t h s : Int) (av bv : Option Addr) (n cc p d : Nat) (m l : List VT) (w : World) (x1 : w.cell? ⟨X, 1, none⟩ = some (cpF mx nx)) (cw : CpW mp q mx nx c t h s w) (hq : q ≤ 2) (hc0 : 0 ≤ c) (hc1 : c ≤ 1000000) (ht : t = 0 ∨ ¬ c + 1 = t) (ka : KeyK w av n m) (kb : KeyK w bv p l) :
    Calls Tryz.prog 66 #[.pointer (some ⟨X, 0, none⟩), .slice av n cc, .slice bv p d] w fun e w' => e = .returned (.tuple #[.int .i64 (cxV q m l), .nilIface]) ∧ Chg (InM mp) w w' ∧ MetO w' mp (c + 1) t h s := by
  refine order_walk X _ _ _ _ _ (cxV q m l) (fun w' => Chg (InM mp) w w' ∧ MetO w' mp (c + 1) t h s) w x1 (fun g w1 hu hg => ?_) (fun w1 w2 h hu => ⟨h.1.andUp hu, h.2.up hu⟩)
  refine (kcmp_hook ⟨#[]⟩ 0 0 none none (some ⟨g, 0, none⟩) 0 0 0 0 1 1 _ _ [cpF mx nx] (cpF mx nx) (fun w1 r ev w' => r = cxV q m l ∧ ev = .nilIface ∧ Chg (InM mp) w1 w' ∧ MetO w' mp (c + 1) t h s) w1 (by decide) (by decide) ?_ rfl (fun w2 hu2 => (cmpO_ok ⟨#[]⟩ mp q mx nx c t h s av bv n cc p d m l w2 (by decide) (cw.up (hu.trans hu2)) hq hc0 hc1 ht (ka.up (hu.trans hu2)) (kb.up (hu.trans hu2))).mono ?_)).mono ?_
  · refine ⟨rfl, fun i => ?_, .inr ⟨g, 0, rfl, fun i hi j v hv => ?_⟩⟩
    · cases i with
      | zero => exact .inr ⟨_, _, _, rfl⟩
      | succ i => exact .inl rfl
    · obtain rfl : i = 0 := by omega
      cases j with
      | zero => cases hv; rw [show 0 + 0 * 1 + 0 = 0 from rfl]; exact hg
      | succ j => simp at hv
  · rintro _ w' ⟨rfl, g1, g2⟩
    exact ⟨_, _, rfl, rfl, rfl, g1, g2⟩
  · rintro _ w' ⟨w2, r, ev, hu2, rfl, rfl, rfl, g1, g2⟩
    exact ⟨rfl, (Chg.of_up (hu.trans hu2)).trans g1 (fun _ _ h => h), g2⟩
end Go.Proofs.YtnokokhbcfkifaaGreatDoor
