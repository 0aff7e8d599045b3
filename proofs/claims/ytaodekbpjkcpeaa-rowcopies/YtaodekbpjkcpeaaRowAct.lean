/-
  The landed store's calls, as their text runs: Insert, Get, Replace, Erase, Put, Len, Next, Writes.
-/
import Derived.Test.YtaodekbpjkcpeaaRowPlc
namespace Go.Proofs.Ytaodekbpjkcpeaa
open Go.ChangeShapes Go.WideShapes Go.ChangeAt Go.RowKit
set_option linter.unusedVariables false
attribute [local go_sem ↓] Go.wp_at_zero Go.wp_at_succ
attribute [local go_sem] run_store_float

theorem StoL.next {p : Nat} {O : Nat → Prop} {w : World} {n : Nat} {next lim wr : Int} {R : Int → Option RD} {cnt : Nat} (h : StoL p O w n next lim wr R cnt) : w.cell? ⟨p, 3, none⟩ = some (.int .i64 next) ∧ w.frozen? ⟨p, 3, none⟩ = false := by
  obtain ⟨h0, V, S, M, b, f, xs, h1, h2, h3, h4⟩ := h
  exact ⟨h1.c3, h1.free.frozen 3⟩
theorem StoL.none_lim {p : Nat} {O : Nat → Prop} {w : World} {n : Nat} {next lim wr : Int} {R : Int → Option RD} {cnt : Nat} (h : StoL p O w n next lim wr R cnt) (x : Int) (hx : lim ≤ x) : R x = none := by
  obtain ⟨h0, V, S, M, b, f, xs, h1, h2, h3, h4⟩ := h
  cases hr : R x with
  | none => rfl
  | some d => have := h3.ids x d hr; omega
theorem StoL.ids {p : Nat} {O : Nat → Prop} {w : World} {n : Nat} {next lim wr : Int} {R : Int → Option RD} {cnt : Nat} (h : StoL p O w n next lim wr R cnt) : (∀ x d, R x = some d → 1 ≤ x ∧ x < lim) ∧ 1 ≤ lim ∧ lim ≤ 4611686018428387904 ∧ cnt ≤ n ∧ n ≤ 200 := by
  obtain ⟨h0, V, S, M, b, f, xs, h1, h2, h3, h4⟩ := h
  exact ⟨h3.ids, h3.nx.1, h3.nx.2, by have := h3.many; omega, h3.most⟩
/-- The next number is laid. -/
theorem StoL.renext {p : Nat} {O : Nat → Prop} {w : World} {n : Nat} {next lim wr : Int} {R : Int → Option RD} {cnt : Nat} (h : StoL p O w n next lim wr R cnt) (nx' : Int) (h1 : ∀ x d, R x = some d → x < nx') (h2 : 1 ≤ nx' ∧ nx' ≤ 4611686018428387904) : Sto p O (w.setCell ⟨p, 3, none⟩ (.int .i64 nx')) n nx' wr R cnt ∧ Chg O w (w.setCell ⟨p, 3, none⟩ (.int .i64 nx')) := by
  obtain ⟨h0, V, S, M, b, f, xs, c1, c2, c3, h4⟩ := h
  have hc : Chg (fun y => y = p) w (w.setCell ⟨p, 3, none⟩ (.int .i64 nx')) := (Chg.refl _ w).set (C := fun y => y = p) (p := ⟨p, 3, none⟩) (fun _ => rfl) _
  refine ⟨⟨fun x hx => Nat.lt_of_lt_of_le (h0 x hx) hc.size, V, S, M, b, f, xs, c1.renext nx', c2.chg hc (fun e => c1.pS e.symm) (fun y hy e => c1.apart y hy (.inl e)), ⟨c3.many, c3.most, c3.nodup, c3.inn, c3.non, c3.slots, c3.inj, fun x d hx => ⟨(c3.ids x d hx).1, h1 x d hx⟩, h2⟩, h4⟩, hc.mono (fun y _ e => h4 y (.inr (.inl e)))⟩

set_option maxRecDepth 20000 in
set_option maxHeartbeats 8000000 in
theorem insert_full (p n c k : Nat) (O : Nat → Prop) (next wr : Int) (R : Int → Option RD) (a : Option Addr) (w : World) (h : Sto p O w n next wr R n) :
    Calls Try.prog 12 #[.pointer (some ⟨p, 0, none⟩), .slice a k c] w fun e w' => e = .returned (.tuple #[.int .i64 0, .int .i64 70]) ∧ Up w w' := by
  obtain ⟨c3, f3⟩ := h.next
  have H := hide h
  clear h
  go_enter Try.func12, Try.ntmps12
  go_wp2_with fail
  go_at_call 35
  refine (place_full p n c k O next next wr next 1 R a w H.out).mono ?_
  rintro _ w1 ⟨rfl, hu1⟩
  replace hu1 := hide hu1
  go_wp2
  go_ret2
  exact ⟨rfl, hu1.out⟩

set_option maxRecDepth 20000 in
set_option maxHeartbeats 8000000 in
theorem insert_ok (p n c k cnt : Nat) (O : Nat → Prop) (next wr : Int) (R : Int → Option RD) (a : Option Addr) (m : List VT) (w : World) (h : Sto p O w n next wr R cnt) (hc : cnt < n) (hnx : next ≤ 4611686018428387903) (hwr : 0 ≤ wr ∧ wr ≤ 1000000) (hv : ValsO (fun g => ¬ O g) w a k m) (hsm : Small m) :
    Calls Try.prog 12 #[.pointer (some ⟨p, 0, none⟩), .slice a k c] w fun e w' => e = .returned (.tuple #[.int .i64 next, .int .i64 0]) ∧ ∃ O', Sto p O' w' n (next + 1) (wr + 1) (upd R next (some (1, m))) (cnt + 1) ∧ Chg O w w' ∧ ∀ y, O' y → O y ∨ w.heap.size ≤ y := by
  obtain ⟨c3, f3⟩ := h.next
  obtain ⟨hi, h1, h2, h3, h4⟩ := h.ids
  have ew : IntKind.i64.wrap (next + 1) = next + 1 := by simp [IntKind.wrap, IntKind.bits, IntKind.signed]; omega
  have H := hide h
  have HV := hide hv
  have HS := hide hsm
  clear h hv hsm hi
  go_enter Try.func12, Try.ntmps12
  go_wp2_with fail
  go_at_call 35
  refine (place_ok p n c k cnt O next next (next + 1) wr next 1 R a m w H.out hc (H.out.none_lim next (Int.le_refl _)) h1 (by omega) (by omega) (by omega) hwr HV.out HS.out).mono ?_
  rintro _ w1 ⟨rfl, O', hs1, hc1, ho1⟩
  clear c3 f3
  obtain ⟨c3, f3⟩ := hs1.next
  obtain ⟨q1, q2⟩ := hs1.renext (next + 1) (fun x d hx => (hs1.ids.1 x d hx).2) (by omega)
  have Q1 := hide q1
  have Q2 := hide (hc1.trans q2 (fun y hy e => (ho1 y e).elim id (fun h => by omega)))
  have HO := hide ho1
  clear q1 q2 hs1 hc1 ho1
  go_wp2
  go_ret2
  exact ⟨rfl, O', Q1.out, Q2.out, HO.out⟩

theorem StoL.look {p : Nat} {O : Nat → Prop} {w : World} {n : Nat} {next lim wr : Int} {R : Int → Option RD} {cnt : Nat} (h : StoL p O w n next lim wr R cnt) {x : Int} (hx : R x = none) (hw : wf64 x) : ∃ M, w.cell? ⟨p, 1, none⟩ = some (.map (some M)) ∧ M < w.heap.size ∧ (Instr.lookup 70 (.map (some M)) (.int .i64 x) true).run Try.prog w = .ok (.tuple #[.int .i64 0, .bool false]) w := by
  obtain ⟨h0, V, S, M, b, f, xs, h1, h2, h3, h4⟩ := h
  exact ⟨M, h1.c1, h1.map.lt, h1.map.look_none hw ((h3.non x).2 hx)⟩

set_option maxRecDepth 20000 in
set_option maxHeartbeats 8000000 in
theorem get_none (p n cnt : Nat) (O : Nat → Prop) (next wr x : Int) (R : Int → Option RD) (w : World) (h : Sto p O w n next wr R cnt) (hw : wf64 x) (hx : R x = none) :
    Calls Try.prog 13 #[.pointer (some ⟨p, 0, none⟩), .int .i64 x] w fun e w' => e = .returned (.tuple #[.agg #[.int .i64 0, .int .i64 0, .slice none 0 0], .bool false]) ∧ Up w w' := by
  have hu0 : Up w (w.alloc (.cells #[.int .i64 0, .int .i64 0, .slice none 0 0] 35)) := (Up.refl _).alloc _
  obtain ⟨M, c1, hM, hrun⟩ := (h.up hu0).look hx hw
  have HU := hide hu0
  clear h hu0
  go_enter Try.func13, Try.ntmps13
  have d0 : (w.alloc (.cells #[.int .i64 0, .int .i64 0, .slice none 0 0] 35)).cell? ⟨w.heap.size, 0, none⟩ = some (.int .i64 0) := by go_simp
  have d1 : (w.alloc (.cells #[.int .i64 0, .int .i64 0, .slice none 0 0] 35)).cell? ⟨w.heap.size, 1, none⟩ = some (.int .i64 0) := by go_simp
  have d2 : (w.alloc (.cells #[.int .i64 0, .int .i64 0, .slice none 0 0] 35)).cell? ⟨w.heap.size, 2, none⟩ = some (.slice none 0 0) := by go_simp
  have g0 : ∀ o, (w.alloc (.cells #[.int .i64 0, .int .i64 0, .slice none 0 0] 35)).frozen? ⟨w.heap.size, o, none⟩ = false := by intro o; go_simp
  have f0 := g0 0
  have f1 := g0 1
  have f2 := g0 2
  clear g0
  generalize hW : w.alloc (.cells #[.int .i64 0, .int .i64 0, .slice none 0 0] 35) = W at *
  go_wp2
  (try simp only [Exit.inBlock, Exit.then])
  refine bodyPost_ret (v := .tuple #[.agg #[.int .i64 0, .int .i64 0, .slice none 0 0], .bool false]) (by simp [results, Try.results13, go_sem, d0, d1, d2]) rfl ⟨rfl, ?_⟩
  exact ((HU.out.setCell (p := ⟨w.heap.size, 0, none⟩) (Nat.le_refl _) _).setCell (p := ⟨w.heap.size, 1, none⟩) (Nat.le_refl _) _).setCell (p := ⟨w.heap.size, 2, none⟩) (Nat.le_refl _) _

theorem StoL.found {p : Nat} {O : Nat → Prop} {w : World} {n : Nat} {next lim wr : Int} {R : Int → Option RD} {cnt : Nat} (h : StoL p O w n next lim wr R cnt) {x : Int} {d : RD} (hx : R x = some d) (hw : wf64 x) :
    ∃ (S M s : Nat) (a : Option Addr) (k c : Nat), w.cell? ⟨p, 0, none⟩ = some (.slice (some ⟨S, 0, none⟩) n n) ∧ w.cell? ⟨p, 1, none⟩ = some (.map (some M)) ∧ M < w.heap.size ∧ (Instr.lookup 70 (.map (some M)) (.int .i64 x) true).run Try.prog w = .ok (.tuple #[.int .i64 s, .bool true]) w ∧ s < n ∧ n ≤ 200 ∧
      w.cell? ⟨S, s * 3, none⟩ = some (.int .i64 x) ∧ w.cell? ⟨S, s * 3 + 1, none⟩ = some (.int .i64 d.1) ∧ w.cell? ⟨S, s * 3 + 2, none⟩ = some (.slice a k c) ∧ Vals w a k d.2 ∧ Small d.2 := by
  obtain ⟨h0, V, S, M, b, f, xs, h1, h2, h3, h4⟩ := h
  cases hf : f x with
  | none => rw [(h3.non x).1 hf] at hx; cases hx
  | some s =>
    obtain ⟨d', e, hs, hr⟩ := h2 x s hf
    rw [hx] at e
    cases e
    obtain ⟨r1, r2, a, k, c, r3, r4⟩ := hr
    exact ⟨S, M, s, a, k, c, h1.c0, h1.c1, h1.map.lt, h1.map.look_some hw hf, (h3.slots x s hf).1, h3.most, r1, r2, r3, r4.1, hs⟩

set_option maxRecDepth 20000 in
set_option maxHeartbeats 8000000 in
theorem get_some (p n cnt : Nat) (O : Nat → Prop) (next wr x : Int) (d : RD) (R : Int → Option RD) (w : World) (h : Sto p O w n next wr R cnt) (hw : wf64 x) (hx : R x = some d) :
    Calls Try.prog 13 #[.pointer (some ⟨p, 0, none⟩), .int .i64 x] w fun e w' => ∃ a', e = .returned (.tuple #[.agg #[.int .i64 x, .int .i64 d.1, .slice a' d.2.length d.2.length], .bool true]) ∧ NewRow w.heap.size w' a' d.2.length d.2 ∧ Up w w' := by
  have hu0 : Up w (w.alloc (.cells #[.int .i64 0, .int .i64 0, .slice none 0 0] 35)) := (Up.refl _).alloc _
  obtain ⟨S, M, s, a, k, c, c0, c1, hM, hrun, hs, hn, r0, r1, r2, hv, hsm⟩ := (h.up hu0).found hx hw
  have HU := hide hu0
  obtain rfl : d.2.length = k := hv.1
  have HV := hide hv
  have HS := hide hsm
  clear h hu0 hv hsm
  have d0 : (w.alloc (.cells #[.int .i64 0, .int .i64 0, .slice none 0 0] 35)).cell? ⟨w.heap.size, 0, none⟩ = some (.int .i64 0) := by go_simp
  have d1 : (w.alloc (.cells #[.int .i64 0, .int .i64 0, .slice none 0 0] 35)).cell? ⟨w.heap.size, 1, none⟩ = some (.int .i64 0) := by go_simp
  have d2 : (w.alloc (.cells #[.int .i64 0, .int .i64 0, .slice none 0 0] 35)).cell? ⟨w.heap.size, 2, none⟩ = some (.slice none 0 0) := by go_simp
  have g0 : ∀ o, (w.alloc (.cells #[.int .i64 0, .int .i64 0, .slice none 0 0] 35)).frozen? ⟨w.heap.size, o, none⟩ = false := by intro o; go_simp
  have hlt : w.heap.size < (w.alloc (.cells #[.int .i64 0, .int .i64 0, .slice none 0 0] 35)).heap.size := by simp
  have e3 : (s : Int) < n := by omega
  obtain ⟨ver, m⟩ := d
  dsimp only at *
  generalize m.length = k at *
  generalize hW : w.alloc (.cells #[.int .i64 0, .int .i64 0, .slice none 0 0] 35) = W at *
  go_enter Try.func13, Try.ntmps13
  go_wp2_with fail
  go_at_call 36
  refine (copied_calls x ver a k c m W HV.out HS.out).mono ?_
  rintro _ w1 ⟨a', rfl, hn1, hu1⟩
  replace d0 := hu1.cell d0
  replace d1 := hu1.cell d1
  replace d2 := hu1.cell d2
  have f0 := (hu1.frozen (p := ⟨w.heap.size, 0, none⟩) hlt).trans (g0 0)
  have f1 := (hu1.frozen (p := ⟨w.heap.size, 1, none⟩) hlt).trans (g0 1)
  have f2 := (hu1.frozen (p := ⟨w.heap.size, 2, none⟩) hlt).trans (g0 2)
  have HN := hide hn1
  have HU1 := hide (HU.out.trans hu1)
  have HLT := hide hlt
  clear hn1 hu1 hrun c0 c1 r0 r1 r2 g0 hlt hW
  go_wp2
  (try simp only [Exit.inBlock, Exit.then])
  refine bodyPost_ret (v := .tuple #[.agg #[.int .i64 x, .int .i64 ver, .slice a' k k], .bool true]) (by simp [results, Try.results13, go_sem, d0, d1, d2]) rfl ⟨a', rfl, ?_, ?_⟩
  · have hl := HLT.out
    have hc : Chg (fun y => y = w.heap.size) w1 _ := (((Chg.refl _ w1).set (C := fun y => y = w.heap.size) (p := ⟨w.heap.size, 0, none⟩) (fun _ => rfl) (.int .i64 x)).set (p := ⟨w.heap.size, 1, none⟩) (fun _ => rfl) (.int .i64 ver)).set (p := ⟨w.heap.size, 2, none⟩) (fun _ => rfl) (.slice a' k k)
    exact (HN.out.chg hc (fun y h1 h2 => by omega)).mono (by omega)
  · exact ((HU1.out.setCell (p := ⟨w.heap.size, 0, none⟩) (Nat.le_refl _) _).setCell (p := ⟨w.heap.size, 1, none⟩) (Nat.le_refl _) _).setCell (p := ⟨w.heap.size, 2, none⟩) (Nat.le_refl _) _

set_option maxRecDepth 20000 in
set_option maxHeartbeats 8000000 in
theorem replace_none (p n cnt c k : Nat) (O : Nat → Prop) (next wr x : Int) (R : Int → Option RD) (a : Option Addr) (w : World) (h : Sto p O w n next wr R cnt) (hw : wf64 x) (hx : R x = none) :
    Calls Try.prog 16 #[.pointer (some ⟨p, 0, none⟩), .int .i64 x, .slice a k c] w fun e w' => e = .returned (.int .i64 71) ∧ w' = w := by
  obtain ⟨M, c1, hM, hrun⟩ := h.look hx hw
  clear h
  go_enter Try.func16, Try.ntmps16
  go_wp2
  go_ret
  exact ⟨rfl, rfl⟩

theorem StoP.same {n cnt : Nat} {lim x : Int} {d' d : RD} {R : Int → Option RD} {f : Int → Option Nat} {xs : List Int} (h : StoP n lim R cnt f xs) (hx : R x = some d) : StoP n lim (upd R x (some d')) cnt f xs := by
  refine ⟨h.many, h.most, h.nodup, h.inn, fun y => ?_, h.slots, h.inj, fun y d2 hy => ?_, h.nx⟩
  · by_cases e : y = x
    · subst e
      rw [upd_same, h.non y, hx]
      simp
    · rw [upd_other _ _ e]; exact h.non y
  · by_cases e : y = x
    · subst e; exact h.ids y d hx
    · rw [upd_other _ _ e] at hy; exact h.ids y d2 hy

set_option maxRecDepth 20000 in
set_option maxHeartbeats 8000000 in
theorem replace_ok (p n cnt c k : Nat) (O : Nat → Prop) (next wr x : Int) (d : RD) (R : Int → Option RD) (a : Option Addr) (m : List VT) (w : World) (h : Sto p O w n next wr R cnt) (hw : wf64 x) (hx : R x = some d) (hwr : 0 ≤ wr ∧ wr ≤ 1000000) (hv : ValsO (fun g => ¬ O g) w a k m) (hsm : Small m) :
    Calls Try.prog 16 #[.pointer (some ⟨p, 0, none⟩), .int .i64 x, .slice a k c] w fun e w' => e = .returned (.int .i64 0) ∧ ∃ O', Sto p O' w' n next (wr + 1) (upd R x (some (IntKind.i64.wrap (d.1 + 1), m))) cnt ∧ Chg O w w' ∧ ∀ y, O' y → O y ∨ w.heap.size ≤ y := by
  obtain ⟨h0, V, S, M, b, f, xs, h1, h2, h3, h4⟩ := h
  obtain ⟨s, hf⟩ : ∃ s, f x = some s := by
    cases hf : f x with
    | none => rw [(h3.non x).1 hf] at hx; cases hx
    | some s => exact ⟨s, rfl⟩
  obtain ⟨d', e, hs, hr⟩ := h2 x s hf
  rw [hx] at e
  cases e
  have r1 := hr.ver
  have c0 := h1.c0
  have c1 := h1.c1
  have hrun := h1.map.look_some hw hf
  have hsn := (h3.slots x s hf).1
  have hn2 := h3.most
  have e3 : (s : Int) < n := by omega
  obtain ⟨ver, m0⟩ := d
  dsimp only at r1 ⊢
  generalize hV : IntKind.i64.wrap (ver + 1) = ver' at *
  have H0 := hide h0
  have H1 := hide h1
  have H2 := hide h2
  have H3 := hide h3
  have H4 := hide h4
  have HV := hide hv
  have HS := hide hsm
  have HX := hide hx
  have HF := hide hf
  clear h0 h1 h2 h3 h4 hv hsm hx hf hr hs
  go_enter Try.func16, Try.ntmps16
  go_wp2_with fail
  go_at_call 41
  refine (write_calls p S n s c k wr x ver' a m w hn2 hsn H1.out.pS H1.out.c0 H1.out.c4 H1.out.fs (H1.out.free.frozen 4) H1.out.room hwr HV.out.1 HS.out).mono ?_
  rintro _ w4 ⟨rfl, w3, a', hu3, hn3, e4⟩
  obtain ⟨G1, G2, G3, G4⟩ := wrote H1.out H2.out hsn hu3 hn3 e4
  have HG1 := hide G1
  have HG2 := hide G2
  have HG3 := hide G3
  have HG4 := hide G4
  clear G1 G2 G3 G4 hu3 hn3 e4 c0 c1 r1 hrun
  go_wp2
  go_ret
  refine ⟨rfl, fun y => (V y ∨ (w.heap.size ≤ y ∧ y < w4.heap.size)) ∨ core p S M b y, ⟨fun y hy => HG1.out.lt y hy, _, S, M, b, _, _, HG1.out, fun y s' hy => ?_, H3.out.same HX.out, fun y hy => hy⟩, HG4.out.mono (fun y _ e => H4.out y (e.elim (fun e => .inr (.inl e)) (fun e => .inr (.inr (.inl e))))), fun y hy => ?_⟩
  · by_cases e : y = x
    · subst e
      obtain rfl : s = s' := by have := HF.out; rw [hy] at this; cases this; rfl
      exact ⟨(ver', m), upd_same _ _ _, HS.out, HG3.out⟩
    · rw [upd_other _ _ e]
      exact HG2.out y s' hy (fun q => e (H3.out.inj y x s (by rw [← q]; exact hy) HF.out))
  · rcases hy with (hy | hy) | hy
    · exact .inl (H4.out y (.inl hy))
    · exact .inr hy.1
    · exact .inl (H4.out y (.inr hy))

set_option maxRecDepth 20000 in
set_option maxHeartbeats 8000000 in
theorem erase_none (p n cnt : Nat) (O : Nat → Prop) (next wr x : Int) (R : Int → Option RD) (w : World) (h : Sto p O w n next wr R cnt) (hw : wf64 x) (hx : R x = none) :
    Calls Try.prog 21 #[.pointer (some ⟨p, 0, none⟩), .int .i64 x] w fun e w' => e = .returned (.int .i64 71) ∧ w' = w := by
  obtain ⟨M, c1, hM, hrun⟩ := h.look hx hw
  clear h
  go_enter Try.func21, Try.ntmps21
  go_wp2
  go_ret
  exact ⟨rfl, rfl⟩

theorem StoP.erase {n cnt : Nat} {lim x : Int} {d : RD} {R : Int → Option RD} {f : Int → Option Nat} {xs : List Int} {s : Nat} (h : StoP n lim R cnt f xs) (hc : 0 < cnt) (hf : f x = some s) : StoP n lim (upd R x none) (cnt - 1) (upd f x none) (pushL 0 ahN xs s) := by
  have hp := pushL_perm 0 ahN xs (s : Int)
  obtain ⟨hs1, hs2⟩ := h.slots x s hf
  refine ⟨?_, h.most, hp.nodup_iff.2 (List.nodup_cons.2 ⟨hs2, h.nodup⟩), fun t ht => ?_, fun y => ?_, fun y t hy => ?_, fun y z t hy hz => ?_, fun y d hy => ?_, h.nx⟩
  · rw [hp.length_eq]
    have := h.many
    simp
    omega
  · rcases List.mem_cons.1 (hp.mem_iff.1 ht) with rfl | ht
    · omega
    · exact h.inn t ht
  · by_cases e : y = x
    · subst e; rw [upd_same, upd_same]; simp
    · rw [upd_other _ _ e, upd_other _ _ e]; exact h.non y
  · by_cases e : y = x
    · subst e; rw [upd_same] at hy; cases hy
    · rw [upd_other _ _ e] at hy
      obtain ⟨h1, h2⟩ := h.slots y t hy
      refine ⟨h1, fun hm => ?_⟩
      rcases List.mem_cons.1 (hp.mem_iff.1 hm) with q | hm
      · exact e (h.inj y x t hy (by have : t = s := by omega
                                    rw [this]; exact hf))
      · exact h2 hm
  · have e1 : y ≠ x := fun e => by subst e; rw [upd_same] at hy; cases hy
    have e2 : z ≠ x := fun e => by subst e; rw [upd_same] at hz; cases hz
    rw [upd_other _ _ e1] at hy
    rw [upd_other _ _ e2] at hz
    exact h.inj y z t hy hz
  · have e1 : y ≠ x := fun e => by subst e; rw [upd_same] at hy; cases hy
    rw [upd_other _ _ e1] at hy
    exact h.ids y d hy

end Go.Proofs.Ytaodekbpjkcpeaa
