/-
  What the landed package key's Compare does, what rialtoref7's Keys and the law's good answer, as their texts run.
-/
import Derived.Test.YtnnbcpopjnlnoaaDoorKeyRof
import Derived.Test.YtnnbcpopjnlnoaaDoorRowsOrd
import Derived.Test.YtnnbcpopjnlnoaaDoorHookCpr
import Derived.Test.YtnnbcpopjnlnoaaDoorHookCmpE
namespace Go.Proofs.YtnnbcpopjnlnoaaDoor
open Go.ChangeShapes Go.WideShapes Go.ChangeAt Go.RowKit
set_option linter.unusedVariables false
attribute [local go_sem ↓] Go.wp_at_zero Go.wp_at_succ

theorem cxV_small (q : Int) (m l : List VT) : -1 ≤ cxV q m l ∧ cxV q m l ≤ 1 := by
  have h0 := rowsV_small m l
  have h1 := rowsV_small (m.take 1) (l.take 1)
  unfold cxV
  split
  · unfold wrap64
    omega
  · split
    · exact h1
    · split
      · exact h0
      · split
        · decide
        · decide
theorem cxV_seven (q : Int) (m l : List VT) : cmpI (wrap64 (7 * cxV q m l)) 0 = cxV q m l := by
  have h := cxV_small q m l
  generalize cxV q m l = c at h
  have hc : c = -1 ∨ c = 0 ∨ c = 1 := by omega
  rcases hc with rfl | rfl | rfl
  · have e : wrap64 (7 * -1) = -7 := by unfold wrap64; omega
    rw [e]; unfold cmpI; rw [if_pos (by decide)]
  · have e : wrap64 (7 * 0) = 0 := by unfold wrap64; omega
    rw [e, cmpI_self]
  · have e : wrap64 (7 * 1) = 7 := by unfold wrap64; omega
    rw [e]; unfold cmpI; rw [if_neg (by decide), if_pos (by decide)]

/-- What came of a comparator. -/
def CmpOut (B mb : Nat) (a h : Int) (s : ByteArray) (q : Int) (m l : List VT) (r : Int) (ev : Value) (w' : World) : Prop :=
  (a = 0 ∧ ev = .nilIface ∧ r = cxV q m l ∧ Met w' mb 1 0 h 0) ∨
  (a = 1 ∧ r = 0 ∧ ∃ b k, ev = .iface 79 (.pointer (some ⟨b, 0, none⟩)) ∧ B ≤ b ∧ B ≤ k ∧ Met w' mb 1 1 h 1 ∧ FaultAt w' b 0 s (.iface 96 (.pointer (some ⟨k, 0, none⟩))) .nilIface ∧ w'.cell? ⟨k, 0, none⟩ = some (.int .i64 1001))

theorem left_mb7 {w w' : World} {mb : Nat} {T : World → World → Prop} (hmb : mb < w.heap.size) (h : Left w (fun x x' => Chg (fun g => g = mb ∨ w.heap.size ≤ g) x x' ∧ T x x') w') : Chg (fun g => g = mb) w w' ∧ ∃ x x', Up w x ∧ T x x' ∧ Chg (Mid w.heap.size x.heap.size) x' w' := by
  obtain ⟨x, x', h1, ⟨h2, h3⟩, h4, h5⟩ := h
  refine ⟨Chg.trans (Chg.trans (Chg.of_up h1) h2 (fun g hg h => h.resolve_right (by omega))) h5 (fun g hg h => by have := h.1; omega), x, x', h1, h3, h5⟩

theorem cmp_step (mb mx nx : Nat) (q a h : Int) (s : ByteArray) (av bv : Option Addr) (n c p d : Nat) (m l : List VT) (w : World) (hs : s.size ≤ 60) (hT : TabE w) (hTm : ¬ 0 = mb) (hq : q = 0 ∨ q = 1 ∨ q = 2) (ha : a = 0 ∨ a = 1) (hn : n ≤ 12) (hv : Vals w av n m) (hsh : ∀ i, (m.getD i zeroT).2.2.1.size ≤ 200) (hp : p ≤ 12) (hw : Vals w bv p l) (hsl : ∀ i, (l.getD i zeroT).2.2.1.size ≤ 200) (hm : Met w mb 0 a h 0) (hx : w.cell? ⟨mx, 0, none⟩ = some (.pointer (some ⟨mb, 0, none⟩))) (hy : w.cell? ⟨nx, 0, none⟩ = some (.int .i64 q)) (hne : ¬ nx = mb) :
    Calls Tryd.prog 40 #[.string s, .func (.func 48) #[] #[.pointer (some ⟨mx, 0, none⟩), .pointer (some ⟨nx, 0, none⟩)], .slice av n c, .slice bv p d] w fun e w' =>
      ∃ r ev, e = .returned (.tuple #[.int .i64 r, ev]) ∧ Chg (fun g => g = mb) w w' ∧ CmpOut w.heap.size mb a h s q m l r ev w' := by
  have hmb : mb < w.heap.size := World.block_lt_of_cell? w _ hm.1.1
  have hs' : s.size ≤ 281474976710656 := by omega
  have htab : ∀ x x' : World, Up w x → Chg (fun g => g = mb ∨ w.heap.size ≤ g) x x' → TabE x' := fun x x' h1 h2 => h2.cell (hT.up h1) (fun e => e.elim (fun e => hTm e) (fun e => by have e' : w.heap.size ≤ 0 := e; have := World.block_lt_of_cell? w _ hT; simp at this; omega))
  rcases ha with rfl | rfl
  · refine (cmp_ok s 48 #[.pointer (some ⟨mx, 0, none⟩), .pointer (some ⟨nx, 0, none⟩)] av bv n c p d m l (wrap64 (7 * cxV q m l)) (fun b => b = mb) (fun x x' => Chg (fun g => g = mb ∨ w.heap.size ≤ g) x x' ∧ Met x' mb 1 0 h 0) w hs' hT (fun b e => by omega) hn hv hsh hp hw hsl (fun v v' w' => cpr_enter v v' _ w') (fun x a' b' hx' h1 h2 => (cpr_ok mx nx mb q h a' b' n p m l x hq hn hp h1.1 h2.1 (fun hr => by have := h1.ge hr; omega) (fun hr => by have := h2.ge hr; omega) hsh hsl hne (hx'.cell hx) (hx'.cell hy) (hm.up hx')).mono ?_)).mono ?_
    · rintro _ x' ⟨rfl, g1, g2⟩
      have h5 : Chg (fun g => g = mb ∨ w.heap.size ≤ g) x x' := g1.mono (fun g _ h => Or.inl h)
      exact ⟨rfl, g1.mono (fun g _ h => Or.inl h), htab x x' hx' h5, h5, g2⟩
    · rintro _ w' ⟨rfl, hl⟩
      obtain ⟨hc, x, x', h1, h2, h3⟩ := left_mb7 hmb hl
      exact ⟨_, _, rfl, hc, .inl ⟨rfl, rfl, cxV_seven q m l, h2.chg h3 (fun hm => by have := hm.1; omega)⟩⟩
  · refine (cmp_errV s 48 #[.pointer (some ⟨mx, 0, none⟩), .pointer (some ⟨nx, 0, none⟩)] av bv n c p d m l 0 96 (fun b => b = mb) (fun x x' ev => Chg (fun g => g = mb ∨ w.heap.size ≤ g) x x' ∧ (Met x' mb 1 1 h 1 ∧ ∃ k, ev = .pointer (some ⟨k, 0, none⟩) ∧ x.heap.size ≤ k ∧ x'.cell? ⟨k, 0, none⟩ = some (.int .i64 1001))) w hs' hT (fun b e => by omega) hn hv hsh hp hw hsl (fun v v' w' => cpr_enter v v' _ w') (fun x a' b' hx' h1 h2 => (cpr_err mx nx mb h _ _ x (hx'.cell hx) (hm.up hx')).mono ?_)).mono ?_
    · rintro _ x' ⟨k, rfl, g1, g2, g3, g4⟩
      have h5 : Chg (fun g => g = mb ∨ w.heap.size ≤ g) x x' := g1.mono (fun g _ h => Or.inl h)
      exact ⟨_, rfl, g1.mono (fun g _ h => Or.inl h), htab x x' hx' h5, h5, g2, k, rfl, g3, g4⟩
    · rintro _ w' ⟨ev, b, rfl, hl⟩
      obtain ⟨hc, x, x', h1, ⟨h2, k, rfl, h6, h7⟩, h3⟩ := left_mb7 hmb hl.leftS
      obtain ⟨y, y', g1, _, g3, g4, _⟩ := hl.left
      have gb : w.heap.size ≤ b := Nat.le_trans g1.size (Nat.le_trans g3 g4)
      exact ⟨0, _, rfl, hc, .inr ⟨rfl, rfl, b, k, rfl, gb, Nat.le_trans h1.size h6, h2.chg h3 (fun hm => by have := hm.1; omega), hl.at', h3.cell h7 (fun hm => by have h8 : k < x.heap.size := hm.2; omega)⟩⟩

/-- key.Compare in the order of values. -/
theorem kcmp_rows (s : ByteArray) (kd : Int) (pa av bv : Option Addr) (np pc n c p d : Nat) (hv : Value) (m l : List VT) (w : World) (hh : ∃ ae ne ce ac nc cc, hv = .agg #[.slice ae ne ce, .slice ac nc cc]) (hn : n ≤ maxLen) (hp : p ≤ maxLen) (v0 : Vals w av n m) (v1 : Vals w bv p l) :
    Calls Tryd.prog 21 #[.agg #[.string s, .int .i64 kd, .slice pa np pc, .int .i64 (-1)], hv, .slice av n c, .slice bv p d] w fun e w' => e = .returned (.tuple #[.int .i64 (rowsV m l), .nilIface]) ∧ Up w w' := by
  obtain ⟨ae, ne, ce, ac, nc, cc, rfl⟩ := hh
  have H0 := hide v0
  have H1 := hide v1
  clear v0 v1
  go_enter Tryd.func21, Tryd.ntmps21
  go_wp2_with fail
  go_at_call 38
  refine (vrows_calls av bv n p c d m l _ hn hp (H0.out.up (((Up.refl _).alloc _).alloc _)) (H1.out.up (((Up.refl _).alloc _).alloc _))).mono ?_
  rintro _ x ⟨rfl, hu⟩
  have U : Hid (Up w x) := (((Up.refl _).alloc _).alloc _).trans hu
  clear hu
  go_wp2
  refine bodyPost_ret (v := .tuple #[.int .i64 (rowsV m l), .nilIface]) (by simp [results, Tryd.results21, go_sem, *]) rfl ?_
  exact ⟨rfl, U.out⟩

/-- key.Compare where there is no such comparator. -/
theorem kcmp_key (s : ByteArray) (kd cd : Int) (pa ae ac : Option Addr) (np pc ne ce nc cc : Nat) (av bv : Value) (w : World) (hc : ¬ cd = -1) (hnc : nc ≤ 1000) (hb : knumB cd nc = false) :
    Calls Tryd.prog 21 #[.agg #[.string s, .int .i64 kd, .slice pa np pc, .int .i64 cd], .agg #[.slice ae ne ce, .slice ac nc cc], av, bv] w fun e w' => e = .returned (.tuple #[.int .i64 0, .iface 76 (.int .i64 60)]) ∧ Up w w' := by
  have t0 : (cd == -1) = false := by rw [beq_eq_false_iff_ne]; exact hc
  have HB := hide hb
  clear hc hb
  go_enter Tryd.func21, Tryd.ntmps21
  go_wp2_with fail
  go_at_call 39
  refine (knum_calls cd nc _).mono ?_
  rintro _ x ⟨rfl, hx⟩
  have U : Hid (Up w x) := by rw [hx]; exact ((Up.refl _).alloc _).alloc _
  clear hx
  rw [HB.out]
  go_wp2
  refine bodyPost_ret (v := .tuple #[.int .i64 0, .iface 76 (.int .i64 60)]) (by simp [results, Tryd.results21, go_sem, *]) rfl ?_
  exact ⟨rfl, U.out⟩

set_option maxRecDepth 20000 in
set_option maxHeartbeats 8000000 in
/-- key.Compare by a comparator. -/
theorem kcmp_hook (s : ByteArray) (kd : Int) (q : Nat) (pa ae ac : Option Addr) (np pc ne ce nc cc : Nat) (av bv : Value) (L : List Value) (fv : Value) (Q : World → Int → Value → World → Prop) (w : World) (hnc : nc ≤ 1000) (hq : q < nc) (hf : FnsH w ac nc L) (hl : L.getD q .nilFunc = fv)
    (hX : ∀ w1, Up w w1 → Calls Tryd.prog 40 #[.string s, fv, av, bv] w1 fun e w' => ∃ r ev, e = .returned (.tuple #[.int .i64 r, ev]) ∧ Q w1 r ev w') :
    Calls Tryd.prog 21 #[.agg #[.string s, .int .i64 kd, .slice pa np pc, .int .i64 (q : Int)], .agg #[.slice ae ne ce, .slice ac nc cc], av, bv] w fun e w' => ∃ w1 r ev, Up w w1 ∧ e = .returned (.tuple #[.int .i64 r, ev]) ∧ Q w1 r ev w' := by
  have t0 : ((q : Int) == -1) = false := by rw [beq_eq_false_iff_ne]; omega
  have hb : Hid (knumB (q : Int) nc = true) := by
    show knumB (q : Int) nc = true
    unfold knumB
    rw [Bool.and_eq_true, decide_eq_true_eq, decide_eq_true_eq]
    omega
  obtain ⟨b, off, rfl, c0⟩ := hf.fnH hq
  rw [hl] at c0
  have hbw : b < w.heap.size := World.block_lt_of_cell? w _ c0
  have HX := hide hX
  clear hX hf hl
  have uW : Hid (Up w ((w.alloc (.cells #[.string s, .int .i64 kd, .slice pa np pc, .int .i64 (q : Int)] 24)).alloc (.cells #[.slice ae ne ce, .slice (some ⟨b, off, none⟩) nc cc] 35))) := ((Up.refl _).alloc _).alloc _
  have d0 : ((w.alloc (.cells #[.string s, .int .i64 kd, .slice pa np pc, .int .i64 (q : Int)] 24)).alloc (.cells #[.slice ae ne ce, .slice (some ⟨b, off, none⟩) nc cc] 35)).cell? ⟨w.heap.size, 0, none⟩ = some (.string s) := by go_simp
  have d3 : ((w.alloc (.cells #[.string s, .int .i64 kd, .slice pa np pc, .int .i64 (q : Int)] 24)).alloc (.cells #[.slice ae ne ce, .slice (some ⟨b, off, none⟩) nc cc] 35)).cell? ⟨w.heap.size, 3, none⟩ = some (.int .i64 (q : Int)) := by go_simp
  have e1 : ((w.alloc (.cells #[.string s, .int .i64 kd, .slice pa np pc, .int .i64 (q : Int)] 24)).alloc (.cells #[.slice ae ne ce, .slice (some ⟨b, off, none⟩) nc cc] 35)).cell? ⟨w.heap.size + 1, 1, none⟩ = some (.slice (some ⟨b, off, none⟩) nc cc) := by go_simp
  generalize hW : (w.alloc (.cells #[.string s, .int .i64 kd, .slice pa np pc, .int .i64 (q : Int)] 24)).alloc (.cells #[.slice ae ne ce, .slice (some ⟨b, off, none⟩) nc cc] 35) = W at uW d0 d3 e1
  replace c0 := uW.out.cell c0
  have hq63 : (q : Int) < nc := by omega
  go_enter Tryd.func21, Tryd.ntmps21
  go_wp2_with fail
  clear hW
  go_at_call 39
  refine (knum_calls (q : Int) nc W).mono ?_
  rintro _ x ⟨rfl, hx⟩
  obtain rfl : W = x := hx.symm
  clear hx
  rw [hb.out]
  go_wp2_with fail
  go_region_law
    (go_simp; go_at_call 40; refine (HX.out _ ((uW.out.drew))).mono ?_; rintro _ y ⟨r, ev, rfl, hQ⟩; have HQ := hide hQ; clear hQ; dsimp only)
  all_goals (
    go_wp2
    refine bodyPost_ret (v := .tuple #[.int .i64 r, ev]) (by simp [results, Tryd.results21, go_sem, *]) rfl ?_
    exact ⟨_, r, ev, uW.out.drew, rfl, HQ.out⟩)

/-- What rialtoref7's Keys tells. -/
def keysV (cd : Int) (m l : List VT) : Int := if cd = -1 then rowsV m l else cxV cd m l
set_option maxRecDepth 20000 in
theorem rkeys_calls (s : ByteArray) (kd cd : Int) (pa av bv : Option Addr) (np pc n p : Nat) (m l : List VT) (w : World) (hcd : cd = -1 ∨ cd = 0 ∨ cd = 1 ∨ cd = 2) (hn : n ≤ 12) (hp : p ≤ 12) (v0 : Vals w av n m) (v1 : Vals w bv p l) (hsh : ∀ i, (m.getD i zeroT).2.2.1.size ≤ 200) (hsl : ∀ i, (l.getD i zeroT).2.2.1.size ≤ 200) (c d : Nat) (hcc : n ≤ c) (hdd : p ≤ d) (hcm : c ≤ maxLen) (hdm : d ≤ maxLen) :
    Calls Tryd.prog 24 #[.agg #[.string s, .int .i64 kd, .slice pa np pc, .int .i64 cd], .slice av n c, .slice bv p d] w fun e w' => e = .returned (.int .i64 (keysV cd m l)) ∧ Up w w' := by
  have H0 := hide v0
  have H1 := hide v1
  have HS := hide hsh
  have HL := hide hsl
  clear v0 v1 hsh hsl
  by_cases h : cd = -1
  · subst h
    have e : keysV (-1) m l = rowsV m l := by unfold keysV; rw [if_pos rfl]
    rw [e]
    clear e hcd
    go_enter Tryd.func24, Tryd.ntmps24
    go_wp2_with fail
    go_at_call 25
    refine (rvrows_calls av bv n p c d m l _ (by unfold maxLen; omega) (by unfold maxLen; omega) (H0.out.up ((Up.refl _).alloc _)) (H1.out.up ((Up.refl _).alloc _))).mono ?_
    rintro _ x ⟨rfl, hu⟩
    have U : Hid (Up w x) := ((Up.refl _).alloc _).trans hu
    clear hu
    go_wp2
    go_ret
    exact ⟨rfl, U.out⟩
  · have hc3 : cd = 0 ∨ cd = 1 ∨ cd = 2 := hcd.resolve_left h
    have e : keysV cd m l = cxV cd m l := by unfold keysV; rw [if_neg h]
    rw [e]
    have t0 : decide (cd < 0) = false := decide_eq_false (by omega)
    have HC := hide hc3
    clear e h hcd hc3
    go_enter Tryd.func24, Tryd.ntmps24
    go_wp2_with fail
    go_at_call 41
    refine (rcxC_calls cd av bv n c p d m l _ HC.out hn hp hcc hdd hcm hdm (H0.out.up ((Up.refl _).alloc _)) (H1.out.up ((Up.refl _).alloc _)) HS.out HL.out).mono ?_
    rintro _ x ⟨rfl, hu⟩
    have U : Hid (Up w x) := ((Up.refl _).alloc _).trans hu
    clear hu
    go_wp2
    go_ret
    exact ⟨rfl, U.out⟩

def goodB (cd : Int) : Bool := decide (-1 ≤ cd) && decide (cd < 3)
set_option maxRecDepth 20000 in
theorem good_calls (cd : Int) (w : World) : Calls Tryd.prog 20 #[.agg #[.string ⟨#[]⟩, .int .i64 0, .slice none 0 0, .int .i64 cd], .int .i64 0] w fun e w' => e = .returned (.bool (goodB cd)) ∧ Up w w' := by
  go_enter Tryd.func20, Tryd.ntmps20
  go_wp2_with fail
  refine wp_loop_rounds 1 ?_
  rw [rounds_succ]
  go_wp2
  all_goals (go_ret; refine ⟨congrArg (fun b => Ending.returned (Value.bool b)) (Eq.symm ?_), (Up.refl _).alloc _⟩; unfold goodB; rw [Bool.eq_iff_iff]; simp only [Bool.and_eq_true, decide_eq_true_eq, Bool.false_eq_true, iff_false]; omega)

end Go.Proofs.YtnnbcpopjnlnoaaDoor
