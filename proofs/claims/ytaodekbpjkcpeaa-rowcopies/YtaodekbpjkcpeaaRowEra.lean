/-
  The landed store's Erase of a row that is there, Put, Len, Next, Writes, as their text runs.
-/
import Derived.Test.YtaodekbpjkcpeaaRowAct
namespace Go.Proofs.Ytaodekbpjkcpeaa
open Go.ChangeShapes Go.WideShapes Go.ChangeAt Go.RowKit
set_option linter.unusedVariables false
attribute [local go_sem ↓] Go.wp_at_zero Go.wp_at_succ
attribute [local go_sem] run_store_float

set_option maxRecDepth 20000 in
set_option maxHeartbeats 8000000 in
theorem erase_ok (p n cnt : Nat) (O : Nat → Prop) (next wr x : Int) (d : RD) (R : Int → Option RD) (w : World) (h : Sto p O w n next wr R cnt) (hw : wf64 x) (hx : R x = some d) (hwr : 0 ≤ wr ∧ wr ≤ 1000000) :
    Calls Try.prog 21 #[.pointer (some ⟨p, 0, none⟩), .int .i64 x] w fun e w' => e = .returned (.int .i64 0) ∧ 0 < cnt ∧ ∃ O', Sto p O' w' n next (wr + 1) (upd R x none) (cnt - 1) ∧ Chg O w w' ∧ ∀ y, O' y → O y ∨ w.heap.size ≤ y := by
  obtain ⟨h0, V, S, M, b, f, xs, h1, h2, h3, h4⟩ := h
  obtain ⟨s, hf⟩ : ∃ s, f x = some s := by
    cases hf : f x with
    | none => rw [(h3.non x).1 hf] at hx; cases hx
    | some s => exact ⟨s, rfl⟩
  have c1 := h1.c1
  have hrun := h1.map.look_some hw hf
  have hsn := (h3.slots x s hf).1
  have hn2 := h3.most
  have H0 := hide h0
  have H1 := hide h1
  have H2 := hide h2
  have H3 := hide h3
  have H4 := hide h4
  have HF := hide hf
  clear h0 h1 h2 h3 h4 hf
  go_enter Try.func21, Try.ntmps21
  go_wp2_with fail
  go_at_call 41
  refine (write_calls p S n s 0 0 wr 0 0 none [] w hn2 hsn H1.out.pS H1.out.c0 H1.out.c4 H1.out.fs (H1.out.free.frozen 4) H1.out.room hwr ⟨rfl, fun i => by simpa using fits_zero, .inl rfl⟩ small_nil).mono ?_
  rintro _ w4 ⟨rfl, w3, a', hu3, hn3, e4⟩
  obtain ⟨G1, G2, G3, G4⟩ := wrote H1.out H2.out hsn hu3 hn3 e4
  clear hu3 hn3 e4 c1 hrun
  have c1 := G1.c1
  obtain ⟨w5, hrun, hm5, hc5, h0c⟩ := G1.map.drop hw HF.out 0
  have HG1 := hide (G1.remap hm5 hc5)
  have HG2 := hide (fun y s' hy hne => (G2 y s' hy hne))
  have HG4 := hide (G4.mono (D := O) (fun y _ e => H4.out y (e.elim (fun e => .inr (.inl e)) (fun e => .inr (.inr (.inl e))))))
  have HA := hide G1.apart
  have HSM := hide G1.SM
  have HC5 := hide hc5
  clear G1 G2 G3 G4 hm5 hc5
  go_wp2_with fail
  go_at_call 34
  have hxs : xs.length < 100000 := by have := H3.out.many; omega
  refine (hpush_calls _ p b xs s w5 hxs HG1.out.free).mono ?_
  rintro _ w6 ⟨rfl, b', hf6, hc6, hb6⟩
  have hl6 : 0 < (pushL 0 ahN xs (s : Int)).length := by rw [pushL_length]; omega
  have HK := hide (HG1.out.refree hf6 hc6 (hb6.imp id (fun h => ⟨h, hl6⟩)))
  have HC6 := hide hc6
  have HB6 := hide hb6
  clear hf6 hc6 hb6 c1 hrun
  go_wp2
  go_ret
  have hsz : w.heap.size ≤ w5.heap.size := Nat.le_trans HG4.out.size HC5.out.size
  refine ⟨rfl, h0c, fun y => (V y ∨ (w.heap.size ≤ y ∧ y < w4.heap.size)) ∨ core p S M b' y, ⟨fun y hy => HK.out.lt y hy, _, S, M, b', _, _, HK.out, fun y s' hy => ?_, H3.out.erase (d := d) h0c HF.out, fun y hy => hy⟩, (HG4.out.trans HC5.out (fun y _ e => H4.out y (.inr (.inr (.inr (.inl e)))))).trans HC6.out (fun y _ e => H4.out y (e.elim (fun e => .inr (.inl e)) (fun e => .inr (.inr (.inr (.inr e)))))), fun y hy => ?_⟩
  · have e1 : y ≠ x := fun e => by subst e; rw [upd_same] at hy; cases hy
    rw [upd_other _ _ e1] at hy
    rw [upd_other _ _ e1]
    obtain ⟨d2, q1, q2, q3⟩ := HG2.out y s' hy (fun q => e1 (H3.out.inj y x s (by rw [← q]; exact hy) HF.out))
    exact ⟨d2, q1, q2, (q3.chg HC5.out HSM.out (fun z hz e => HA.out z hz (.inr (.inr (.inl e))))).chg HC6.out (fun e => e.elim (fun e => H1.out.pS e.symm) (fun e => H1.out.bS e.symm)) (fun z hz e => HA.out z hz (e.elim (fun e => .inl e) (fun e => .inr (.inr (.inr e)))))⟩
  · rcases hy with (hy | hy) | rfl | rfl | rfl | rfl
    · exact .inl (H4.out y (.inl hy))
    · exact .inr hy.1
    · exact .inl (H4.out _ (.inr (.inl rfl)))
    · exact .inl (H4.out _ (.inr (.inr (.inl rfl))))
    · exact .inl (H4.out _ (.inr (.inr (.inr (.inl rfl)))))
    · rcases HB6.out with rfl | hb
      · exact .inl (H4.out _ (.inr (.inr (.inr (.inr rfl)))))
      · exact .inr (by omega)

theorem StoL.drew {p : Nat} {O : Nat → Prop} {w : World} {n : Nat} {next lim wr : Int} {R : Int → Option RD} {cnt : Nat} (h : StoL p O w n next lim wr R cnt) : StoL p O w.drew n next lim wr R cnt := h.up (Up.refl _).drew

set_option maxRecDepth 20000 in
set_option maxHeartbeats 8000000 in
theorem put_in (p n cnt c k : Nat) (O : Nat → Prop) (next wr x ver : Int) (d : RD) (R : Int → Option RD) (a : Option Addr) (w : World) (h : Sto p O w n next wr R cnt) (hw : wf64 x) (hx : R x = some d) :
    Calls Try.prog 23 #[.pointer (some ⟨p, 0, none⟩), .agg #[.int .i64 x, .int .i64 ver, .slice a k c]] w fun e w' => e = .returned (.int .i64 72) ∧ Up w w' := by
  have hu0 : Up w (w.alloc (.cells #[.int .i64 x, .int .i64 ver, .slice a k c] 35)) := (Up.refl _).alloc _
  obtain ⟨S, M, s, _, _, _, c0, c1, hM, hrun, _⟩ := (h.up hu0).drew.found hx hw
  have b0 : (w.alloc (.cells #[.int .i64 x, .int .i64 ver, .slice a k c] 35)).cell? ⟨w.heap.size, 0, none⟩ = some (.int .i64 x) := by go_simp
  have HU := hide hu0
  clear h hu0
  generalize hW : w.alloc (.cells #[.int .i64 x, .int .i64 ver, .slice a k c] 35) = W at *
  replace c1 : W.cell? ⟨p, 1, none⟩ = some (.map (some M)) := c1
  go_enter Try.func23, Try.ntmps23
  go_wp2
  go_region
  all_goals go_wp2
  all_goals go_quiet (fail)
  all_goals go_wp2
  all_goals go_ret
  all_goals exact ⟨rfl, HU.out.drew.drewN _⟩

set_option maxRecDepth 20000 in
set_option maxHeartbeats 8000000 in
theorem put_out (p n cnt c k : Nat) (O : Nat → Prop) (next wr x ver : Int) (R : Int → Option RD) (a : Option Addr) (w : World) (h : Sto p O w n next wr R cnt) (hw : wf64 x) (hx : x < 1 ∨ next ≤ x) :
    Calls Try.prog 23 #[.pointer (some ⟨p, 0, none⟩), .agg #[.int .i64 x, .int .i64 ver, .slice a k c]] w fun e w' => e = .returned (.int .i64 72) ∧ Up w w' := by
  have hu0 : Up w (w.alloc (.cells #[.int .i64 x, .int .i64 ver, .slice a k c] 35)) := (Up.refl _).alloc _
  have hR : R x = none := by
    cases hr : R x with
    | none => rfl
    | some d => have := h.ids.1 x d hr; omega
  obtain ⟨M, c1, hM, hrun⟩ := (h.up hu0).drew.look hR hw
  obtain ⟨c3, _⟩ := (h.up hu0).next
  have b0 : (w.alloc (.cells #[.int .i64 x, .int .i64 ver, .slice a k c] 35)).cell? ⟨w.heap.size, 0, none⟩ = some (.int .i64 x) := by go_simp
  have HU := hide hu0
  clear h hu0
  generalize hW : w.alloc (.cells #[.int .i64 x, .int .i64 ver, .slice a k c] 35) = W at *
  replace c1 : W.cell? ⟨p, 1, none⟩ = some (.map (some M)) := c1
  by_cases h1 : x < 1
  · have t1 : decide (x < 1) = true := decide_eq_true h1
    go_enter Try.func23, Try.ntmps23
    go_wp2
    go_region
    all_goals go_wp2
    all_goals go_quiet (fail)
    all_goals go_wp2
    all_goals go_ret
    all_goals exact ⟨rfl, HU.out.drew.drewN _⟩
  · have t1 : decide (x < 1) = false := decide_eq_false h1
    have t2 : decide (x ≥ next) = true := decide_eq_true (by omega)
    go_enter Try.func23, Try.ntmps23
    go_wp2
    go_region
    all_goals go_wp2
    all_goals go_quiet (fail)
    all_goals go_wp2
    all_goals go_ret
    all_goals exact ⟨rfl, HU.out.drew.drewN _⟩

set_option maxRecDepth 20000 in
set_option maxHeartbeats 8000000 in
theorem put_full (p n c k : Nat) (O : Nat → Prop) (next wr x ver : Int) (R : Int → Option RD) (a : Option Addr) (w : World) (h : Sto p O w n next wr R n) (hR : R x = none) (hx : 1 ≤ x) (hx2 : x < next) :
    Calls Try.prog 23 #[.pointer (some ⟨p, 0, none⟩), .agg #[.int .i64 x, .int .i64 ver, .slice a k c]] w fun e w' => e = .returned (.int .i64 70) ∧ Up w w' := by
  have hu0 : Up w (w.alloc (.cells #[.int .i64 x, .int .i64 ver, .slice a k c] 35)) := (Up.refl _).alloc _
  have hb := h.ids.2.2.1
  obtain ⟨M, c1, hM, hrun⟩ := (h.up hu0).drew.look hR (wf64_of (by omega) (by omega))
  obtain ⟨c3, _⟩ := (h.up hu0).next
  have b0 : (w.alloc (.cells #[.int .i64 x, .int .i64 ver, .slice a k c] 35)).cell? ⟨w.heap.size, 0, none⟩ = some (.int .i64 x) := by go_simp
  have b1 : (w.alloc (.cells #[.int .i64 x, .int .i64 ver, .slice a k c] 35)).cell? ⟨w.heap.size, 1, none⟩ = some (.int .i64 ver) := by go_simp
  have b2 : (w.alloc (.cells #[.int .i64 x, .int .i64 ver, .slice a k c] 35)).cell? ⟨w.heap.size, 2, none⟩ = some (.slice a k c) := by go_simp
  have HU := hide hu0
  have H := hide (h.up hu0)
  clear h hu0
  generalize hW : w.alloc (.cells #[.int .i64 x, .int .i64 ver, .slice a k c] 35) = W at *
  replace c1 : W.cell? ⟨p, 1, none⟩ = some (.map (some M)) := c1
  have t1 : decide (x < 1) = false := decide_eq_false (by omega)
  have t2 : decide (x ≥ next) = false := decide_eq_false (by omega)
  go_enter Try.func23, Try.ntmps23
  go_wp2
  go_region
  all_goals go_wp2
  all_goals go_quiet (fail)
  all_goals go_wp2_with fail
  all_goals
    go_at_call 35
    refine (place_full p n c k O next next wr x ver R a _ (H.out.up ((Up.refl _).drewN _))).mono ?_
    rintro _ w1 ⟨rfl, hu1⟩
    have HU1 := hide ((HU.out.drewN _).trans hu1)
    clear hu1
    go_wp2
    go_ret
    exact ⟨rfl, HU1.out⟩

set_option maxRecDepth 20000 in
set_option maxHeartbeats 8000000 in
theorem put_ok (p n c k cnt : Nat) (O : Nat → Prop) (next wr x ver : Int) (R : Int → Option RD) (a : Option Addr) (m : List VT) (w : World) (h : Sto p O w n next wr R cnt) (hc : cnt < n) (hR : R x = none) (hx : 1 ≤ x) (hx2 : x < next) (hwr : 0 ≤ wr ∧ wr ≤ 1000000) (hv : ValsO (fun g => ¬ O g) w a k m) (hsm : Small m) :
    Calls Try.prog 23 #[.pointer (some ⟨p, 0, none⟩), .agg #[.int .i64 x, .int .i64 ver, .slice a k c]] w fun e w' => e = .returned (.int .i64 0) ∧ ∃ O', Sto p O' w' n next (wr + 1) (upd R x (some (ver, m))) (cnt + 1) ∧ Chg O w w' ∧ ∀ y, O' y → O y ∨ w.heap.size ≤ y := by
  have hu0 : Up w (w.alloc (.cells #[.int .i64 x, .int .i64 ver, .slice a k c] 35)) := (Up.refl _).alloc _
  have hb := h.ids.2.2.1
  obtain ⟨M, c1, hM, hrun⟩ := (h.up hu0).drew.look hR (wf64_of (by omega) (by omega))
  obtain ⟨c3, _⟩ := (h.up hu0).next
  have b0 : (w.alloc (.cells #[.int .i64 x, .int .i64 ver, .slice a k c] 35)).cell? ⟨w.heap.size, 0, none⟩ = some (.int .i64 x) := by go_simp
  have b1 : (w.alloc (.cells #[.int .i64 x, .int .i64 ver, .slice a k c] 35)).cell? ⟨w.heap.size, 1, none⟩ = some (.int .i64 ver) := by go_simp
  have b2 : (w.alloc (.cells #[.int .i64 x, .int .i64 ver, .slice a k c] 35)).cell? ⟨w.heap.size, 2, none⟩ = some (.slice a k c) := by go_simp
  have HU := hide hu0
  have H := hide (h.up hu0)
  have HV := hide hv
  have HS := hide hsm
  clear h hu0 hv hsm
  generalize hW : w.alloc (.cells #[.int .i64 x, .int .i64 ver, .slice a k c] 35) = W at *
  replace c1 : W.cell? ⟨p, 1, none⟩ = some (.map (some M)) := c1
  have t1 : decide (x < 1) = false := decide_eq_false (by omega)
  have t2 : decide (x ≥ next) = false := decide_eq_false (by omega)
  go_enter Try.func23, Try.ntmps23
  go_wp2
  go_region
  all_goals go_wp2
  all_goals go_quiet (fail)
  all_goals go_wp2_with fail
  all_goals
    go_at_call 35
    refine (place_ok p n c k cnt O next next next wr x ver R a m _ (H.out.up ((Up.refl _).drewN _)) hc hR hx hx2 (Int.le_refl _) hb hwr (HV.out.chg (Chg.of_up (C := fun _ => False) (HU.out.drewN _)) (fun _ _ h => h)) HS.out).mono ?_
    rintro _ w1 ⟨rfl, O', hs1, hc1, ho1⟩
    have HS1 := hide hs1
    have HC1 := hide ((Chg.of_up (C := O) (HU.out.drewN _)).trans hc1 (fun _ _ h => h))
    have HO1 := hide (fun y hy => (ho1 y hy).imp id (fun h => Nat.le_trans (HU.out.drewN _).size h))
    clear hs1 hc1 ho1
    go_wp2
    go_ret
    exact ⟨rfl, O', HS1.out, HC1.out, HO1.out⟩

theorem slen_calls (p n cnt : Nat) (O : Nat → Prop) (next wr : Int) (R : Int → Option RD) (w : World) (h : Sto p O w n next wr R cnt) :
    Calls Try.prog 28 #[.pointer (some ⟨p, 0, none⟩)] w fun e w' => e = .returned (.int .i64 cnt) ∧ w' = w := by
  obtain ⟨h0, V, S, M, b, f, xs, h1, h2, h3, h4⟩ := h
  have c1 := h1.c1
  have hl := fun ty => h1.map.len ty
  clear h0 h1 h2 h3 h4
  go_enter Try.func28, Try.ntmps28
  go_wp2
  go_ret
  exact ⟨rfl, rfl⟩

theorem snext_calls (p n cnt : Nat) (O : Nat → Prop) (next wr : Int) (R : Int → Option RD) (w : World) (h : Sto p O w n next wr R cnt) :
    Calls Try.prog 29 #[.pointer (some ⟨p, 0, none⟩)] w fun e w' => e = .returned (.int .i64 next) ∧ w' = w := by
  obtain ⟨c3, _⟩ := h.next
  clear h
  go_enter Try.func29, Try.ntmps29
  go_wp2
  go_ret
  exact ⟨rfl, rfl⟩

theorem swrites_calls (p n cnt : Nat) (O : Nat → Prop) (next wr : Int) (R : Int → Option RD) (w : World) (h : Sto p O w n next wr R cnt) :
    Calls Try.prog 18 #[.pointer (some ⟨p, 0, none⟩)] w fun e w' => e = .returned (.int .i64 wr) ∧ w' = w := by
  obtain ⟨h0, V, S, M, b, f, xs, h1, h2, h3, h4⟩ := h
  have c4 := h1.c4
  clear h0 h1 h2 h3 h4
  go_enter Try.func18, Try.ntmps18
  go_wp2
  go_ret
  exact ⟨rfl, rfl⟩

end Go.Proofs.Ytaodekbpjkcpeaa
