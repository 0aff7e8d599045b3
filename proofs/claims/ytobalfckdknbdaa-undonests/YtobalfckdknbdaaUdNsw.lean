/-
  UndoNests: what its outer Do calls, and the law.
-/
import Derived.Test.YtobalfckdknbdaaUdNst
import Derived.Test.YtobalfckdknbdaaTrRow
import Derived.Deep.QuietTactic
import Derived.BigQuiet
namespace Go.Proofs.Ytobalfckdknbdaa
open Go.RowKit
set_option linter.unusedVariables false
set_option maxRecDepth 20000
attribute [local go_sem ↓] Go.wp_at_zero Go.wp_at_succ

/-- The blocks that the outer call turns. -/
def TW (T bn bw : Nat) : Nat → Prop := fun y => TB T bn y ∨ y = bw

/-- The law while the outer call runs: X is the world in which it began, with k0 in the log. -/
structure NsO (X : World) (T bl bn ba bw bi bo : Nat) (k0 : Bk) (sl : Value) (bs : List Bool) (outer : Bool) (l : List Bk) (W : World) : Prop where
  ns : NsL T bl bn ba l W
  tail : ∃ p, l = p ++ [k0] ∧ ∀ q ∈ p, X.heap.size ≤ q.blk
  two : 2 ≤ l.length
  k0 : k0.blk < X.heap.size ∧ k0.blk ≠ bw
  cw : W.cell? ⟨bw, 0, none⟩ = some (.int .i64 ((l.length - 1 : Nat) : Int))
  fw : W.frozen? ⟨bw, 0, none⟩ = false
  rd : Rd Value.bool (TW T bn bw) W sl bs
  ci : W.cell? ⟨bi, 0, none⟩ = some sl
  co : W.cell? ⟨bo, 0, none⟩ = some (.bool outer)
  chg : Chg (TW T bn bw) X W
  wX : bw < X.heap.size
  ne : ¬ TB T bn bw ∧ bw ≠ bl ∧ bw ≠ ba ∧ ¬ TW T bn bw bi ∧ ¬ TW T bn bw bo

/-- A step that turns T and n alone. -/
theorem NsO.step {X : World} {T bl bn ba bw bi bo : Nat} {k0 : Bk} {sl : Value} {bs : List Bool} {outer : Bool} {l l' : List Bk} {W W' : World} (h : NsO X T bl bn ba bw bi bo k0 sl bs outer l W) (hn : NsL T bl bn ba l' W') (hc : Chg (TB T bn) W W') :
    Rd Value.bool (TW T bn bw) W' sl bs ∧ W'.cell? ⟨bi, 0, none⟩ = some sl ∧ W'.cell? ⟨bo, 0, none⟩ = some (.bool outer) ∧ Chg (TW T bn bw) X W' ∧ W'.cell? ⟨bw, 0, none⟩ = some (.int .i64 ((l.length - 1 : Nat) : Int)) ∧ W'.frozen? ⟨bw, 0, none⟩ = false :=
  ⟨h.rd.chg (hc.mono (fun _ _ h => .inl h)), hc.cell (p := ⟨bi, 0, none⟩) h.ci (fun e => h.ne.2.2.2.1 (.inl e)), hc.cell (p := ⟨bo, 0, none⟩) h.co (fun e => h.ne.2.2.2.2 (.inl e)), h.chg.trans hc (fun _ _ h => .inl h),
    hc.cell (p := ⟨bw, 0, none⟩) h.cw h.ne.1, (hc.frozen (p := ⟨bw, 0, none⟩) (World.block_lt_of_cell? _ _ h.cw) h.ne.1).trans h.fw⟩
theorem NsO.same {X : World} {T bl bn ba bw bi bo : Nat} {k0 : Bk} {sl : Value} {bs : List Bool} {outer : Bool} {l : List Bk} {W W' : World} (h : NsO X T bl bn ba bw bi bo k0 sl bs outer l W) (hn : NsL T bl bn ba l W') (hc : Chg (TB T bn) W W') : NsO X T bl bn ba bw bi bo k0 sl bs outer l W' := by
  obtain ⟨a1, a2, a3, a4, a5, a6⟩ := h.step hn hc
  exact ⟨hn, h.tail, h.two, h.k0, a5, a6, a1, a2, a3, a4, h.wX, h.ne⟩
theorem NsO.up {X : World} {T bl bn ba bw bi bo : Nat} {k0 : Bk} {sl : Value} {bs : List Bool} {outer : Bool} {l : List Bk} {W W' : World} (h : NsO X T bl bn ba bw bi bo k0 sl bs outer l W) (hu : Up W W') : NsO X T bl bn ba bw bi bo k0 sl bs outer l W' :=
  h.same (h.ns.up hu) (Chg.of_up hu)
/-- Two more steps, and want two greater. -/
theorem NsO.more {X : World} {T bl bn ba bw bi bo : Nat} {k0 : Bk} {sl : Value} {bs : List Bool} {outer : Bool} {l : List Bk} {W W' : World} {k1 k2 : Bk} (h : NsO X T bl bn ba bw bi bo k0 sl bs outer l W) (hn : NsL T bl bn ba (k2 :: k1 :: l) W') (hc : Chg (TB T bn) W W') (h1 : W.heap.size ≤ k1.blk) (h2 : W.heap.size ≤ k2.blk) :
    NsO X T bl bn ba bw bi bo k0 sl bs outer (k2 :: k1 :: l) (W'.setCell ⟨bw, 0, none⟩ (.int .i64 (((k2 :: k1 :: l).length - 1 : Nat) : Int))) := by
  obtain ⟨a1, a2, a3, a4, a5, a6⟩ := h.step hn hc
  have hcw : Chg (fun y => y = bw) W' (W'.setCell ⟨bw, 0, none⟩ (.int .i64 (((k2 :: k1 :: l).length - 1 : Nat) : Int))) := Chg.chT (Chg.refl _ W') 0 _
  obtain ⟨p, hp, hq⟩ := h.tail
  have hsz := h.chg.size
  have hwX := h.wX
  refine ⟨hn.chg hcw ⟨fun e => h.ne.1 (.inl e.symm), fun e => h.ne.2.1 e.symm, fun e => h.ne.1 (.inr e.symm), fun e => h.ne.2.2.1 e.symm⟩ ?_, ⟨k2 :: k1 :: p, by rw [hp]; rfl, ?_⟩, by simp, h.k0, World.cell?_setCell_same _ _ _ a5, by rw [World.frozen?_setCell]; exact a6, a1.chg (hcw.mono (fun _ _ h => .inr h)), hcw.cell (p := ⟨bi, 0, none⟩) a2 (fun e => h.ne.2.2.2.1 (.inr e)), hcw.cell (p := ⟨bo, 0, none⟩) a3 (fun e => h.ne.2.2.2.2 (.inr e)), a4.trans hcw (fun _ _ h => .inr h), h.wX, h.ne⟩
  · intro k hk e
    rcases List.mem_cons.1 hk with rfl | hk
    · omega
    rcases List.mem_cons.1 hk with rfl | hk
    · omega
    rw [hp] at hk
    rcases List.mem_append.1 hk with hk | hk
    · have := hq k hk; omega
    · rw [List.mem_singleton.1 hk] at e; exact h.k0.2 e
  · intro q hk
    rcases List.mem_cons.1 hk with rfl | hk
    · omega
    rcases List.mem_cons.1 hk with rfl | hk
    · omega
    exact hq q hk

theorem ns_wr (wa : Nat) (h : wa < 1000) : wrap64 ((wa : Int) + 2) = (wa : Int) + 2 ∧ wrap64 ((wa : Int) + 2 + 1) = (wa : Int) + 3 ∧ wrap64 ((wa : Int) + 1) = (wa : Int) + 1 := by
  refine ⟨IntWalk.wrap64_in _ (by omega), ?_, IntWalk.wrap64_in _ (by omega)⟩
  rw [IntWalk.wrap64_in _ (by omega)]; omega
theorem ns_l3 {wa : Nat} {l : List Bk} {k1 k2 : Bk} (h : l.length = wa + 1) : (some (.int .i64 (((k2 :: k1 :: l).length : Nat) : Int)) : Option Value) = some (.int .i64 ((wa : Int) + 3)) := by
  simp [h]; omega

theorem ns_l4 {wa : Nat} {l : List Bk} {k1 k2 : Bk} (h : l.length = wa + 1) : (((k2 :: k1 :: l).length - 1 : Nat) : Int) = (wa : Int) + 2 := by
  simp [h]
theorem ns_l5 {wa : Nat} {l : List Bk} (h : l.length = wa + 1) : (some (.int .i64 ((l.length : Nat) : Int)) : Option Value) = some (.int .i64 ((wa : Int) + 1)) := by
  simp [h]

set_option maxHeartbeats 8000000 in
theorem ns_outer {X : World} {T bl bn ba bw bi bo : Nat} {k0 : Bk} {a : Option Addr} {len cap : Nat} {bs : List Bool} (outer : Bool) (h : NsL T bl bn ba [k0] X) (hlen : bs.length = len) (hfew : len ≤ 12) (hcw : X.cell? ⟨bw, 0, none⟩ = some (.int .i64 1)) (hfw : X.frozen? ⟨bw, 0, none⟩ = false) (hrd : Rd Value.bool (TW T bn bw) X (.slice a len cap) bs)
    (hci : X.cell? ⟨bi, 0, none⟩ = some (.slice a len cap)) (hco : X.cell? ⟨bo, 0, none⟩ = some (.bool outer)) (hk0 : k0.blk ≠ bw) (hne : ¬ TB T bn bw ∧ bw ≠ bl ∧ bw ≠ ba ∧ ¬ TW T bn bw bi ∧ ¬ TW T bn bw bo) :
    Calls Try.prog 18 #[.pointer (some ⟨ba, 0, none⟩), .pointer (some ⟨bi, 0, none⟩), .pointer (some ⟨bl, 0, none⟩), .pointer (some ⟨bw, 0, none⟩), .pointer (some ⟨bn, 0, none⟩), .pointer (some ⟨bo, 0, none⟩)] X fun e W' => e = .returned (if outer then .iface 37 (.int .i64 70) else .nilIface) ∧ ∃ l, l.length ≤ 26 ∧ NsO X T bl bn ba bw bi bo k0 (.slice a len cap) bs outer l W' := by
  have hmf : ∀ (fn : Fn) (first cap : Array Value) (w : World), (Instr.makeFunc fn first cap).run Try.prog w = .ok (.func fn first cap) w := fun _ _ _ _ => rfl
  have H := hide h
  have ca := h.ca
  have HF := hide (⟨hcw, hfw, hrd, hci, hco, hk0, hne⟩ : _ ∧ _ ∧ _ ∧ _ ∧ _ ∧ _ ∧ _)
  have HL := hide hlen
  clear h hcw hfw hrd hci hco hk0 hne hlen
  go_enter Try.func18, Try.ntmps18
  go_wp2_with fail
  refine (ns_add H.out (by simp)).mono ?_
  rintro _ W1 ⟨rfl, k1, hk1, h1, hc1⟩
  have HO : Hid (NsO X T bl bn ba bw bi bo k0 (.slice a len cap) bs outer [k1, k0] W1) := by
    obtain ⟨hcw, hfw, hrd, hci, hco, hk0, hne⟩ := HF.out
    have hw : bw < X.heap.size := World.block_lt_of_cell? _ _ hcw
    exact hide ⟨h1, ⟨[k1], rfl, fun q hq => by rw [List.mem_singleton.1 hq]; omega⟩, Nat.le_refl 2, ⟨H.out.old.2 k0 (List.mem_cons_self ..), hk0⟩, hc1.cell (p := ⟨bw, 0, none⟩) hcw hne.1, (hc1.frozen (p := ⟨bw, 0, none⟩) hw hne.1).trans hfw, hrd.chg (hc1.mono (fun _ _ h => .inl h)),
      hc1.cell (p := ⟨bi, 0, none⟩) hci (fun e => hne.2.2.2.1 (.inl e)), hc1.cell (p := ⟨bo, 0, none⟩) hco (fun e => hne.2.2.2.2 (.inl e)), hc1.mono (fun _ _ h => .inl h), hw, hne⟩
  clear H HF ca hk1 h1 hc1
  dsimp only
  go_wp2_with fail
  go_loopw [7] (fun iv wr => ∃ (i : Nat) (l : List Bk), iv = .int .i64 i ∧ i ≤ bs.length ∧ l.length ≤ 2 + 2 * i ∧ Hid (NsO X T bl bn ba bw bi bo k0 (.slice a len cap) bs outer l wr)) (fun iv _ => bs.length - (intOf iv).toNat)
  case atStart => exact ⟨0, _, rfl, Nat.zero_le _, by simp, HO⟩
  case round =>
    obtain ⟨i, l, rfl, hi, hll, ho⟩ := hrel
    have ci := ho.out.ci
    have el := HL.out
    by_cases hlt : i < bs.length
    · obtain ⟨g, off, rfl, hg⟩ := ho.out.rd.get hlt
      obtain ⟨bad, hbad⟩ : ∃ b, b = bs[i] := ⟨_, rfl⟩
      rw [← hbad] at hg
      have z1 : (i : Int) < (len : Int) := by omega
      have cl := ho.out.ns.cl
      have ei : IntKind.i64.wrap ((i : Int) + 1) = (i : Int) + 1 := by rw [IntKind.wrap_i64]; omega
      have hua : Up wr (wr.alloc (.cells #[.bool bad] 4)) := (Up.refl _).alloc _
      have cl2 := hua.cell cl
      have cb2 : (wr.alloc (.cells #[.bool bad] 4)).cell? ⟨wr.heap.size, 0, none⟩ = some (.bool bad) := by go_simp
      clear hbad HO cl
      go_wp2_with fail
      have hoW : Hid (NsO X T bl bn ba bw bi bo k0 (.slice (some ⟨g, off, none⟩) len cap) bs outer l (wr.alloc (.cells #[.bool bad] 4))) := hide (ho.out.up hua)
      have hBB : ¬ TB T bn wr.heap.size ∧ bw ≠ wr.heap.size := by
        obtain ⟨b1, b2, b3, b4⟩ := ho.out.ns.old.1
        have b5 : bw < wr.heap.size := World.block_lt_of_cell? _ _ ho.out.cw
        exact ⟨fun e => e.elim (fun e => by omega) (fun e => by omega), by omega⟩
      generalize wr.alloc (.cells #[.bool bad] 4) = W at *
      generalize wr.heap.size = BB at *
      have hl9 : l.length < 900 := by omega
      obtain ⟨wa, hwa⟩ : ∃ k, k = l.length - 1 := ⟨_, rfl⟩
      have hla : l.length = wa + 1 := by have := hoW.out.two; omega
      clear ho ci hg cl2 hua
      cases bad
      · refine (ns_do_ok hoW.out.ns cb2 hBB.1 hl9).mono ?_
        rintro _ W2 ⟨rfl, k1, k2, q1, q2, q3, q4⟩
        obtain ⟨t1, t2, t3, t4, t5, t6⟩ := hoW.out.step q3 q4
        rw [← hwa] at t5
        have t7 := q4.cell (p := ⟨BB, 0, none⟩) cb2 hBB.1
        have t8 := q3.cn
        have t8' : W2.cell? ⟨bn, 0, none⟩ = some (.int .i64 ((wa : Int) + 3)) := by rw [t8]; exact ns_l3 hla
        have hwl : wa < 1000 := by omega
        obtain ⟨ew1, ew2, -⟩ := ns_wr wa hwl
        have HA := hide hla
        have HO2 := hoW
        have HQ := hide (⟨q1, q2, q3, q4⟩ : _ ∧ _ ∧ _ ∧ _)
        have nbw : ¬ bn = bw := fun e => hoW.out.ne.1 (.inr e.symm)
        have nbw' : ¬ bw = bn := fun e => nbw e.symm
        have nBB : ¬ BB = bw := fun e => hBB.2 e.symm
        clear t1 t2 t3 t4 t8 q1 q2 q3 q4 cb2 hwa hla hBB hoW
        have b6 : bw < W2.heap.size := World.block_lt_of_cell? W2 ⟨bw, 0, none⟩ t5
        dsimp only
        go_wp2_with fail
        go_quiet (fail)
        have hu3 : Up W2 (W2.drewN nq) := (Up.refl _).drewN nq
        generalize W2.drewN nq = W3 at *
        replace t5 := hu3.cell t5
        replace t6 := (hu3.frozen (p := ⟨bw, 0, none⟩) b6).trans t6
        replace t7 := hu3.cell t7
        replace t8' := hu3.cell t8'
        have hM := hide (HO2.out.more (HQ.out.2.2.1.up hu3) (HQ.out.2.2.2.andUp hu3) (Nat.le_trans (Nat.le_add_right _ 4) HQ.out.1) (Nat.le_trans (Nat.le_add_right _ 4) HQ.out.2.1))
        have t9 : (W3.setCell ⟨bw, 0, none⟩ (.int .i64 ((wa : Int) + 2))).cell? ⟨bn, 0, none⟩ = some (.int .i64 ((wa : Int) + 3)) := (World.cell?_setCell_other _ _ _ _ (fun e => nbw' (congrArg Addr.block e))).trans t8'
        have t10 : (W3.setCell ⟨bw, 0, none⟩ (.int .i64 ((wa : Int) + 2))).cell? ⟨bw, 0, none⟩ = some (.int .i64 ((wa : Int) + 2)) := World.cell?_setCell_same _ _ _ t5
        clear hu3 t8' b6
        go_wp2
        go_roundw
        case rel => 
          have e5 : (((k2 :: k1 :: l).length - 1 : Nat) : Int) = (wa : Int) + 2 := ns_l4 HA.out
          rw [e5] at hM
          exact ⟨i + 1, k2 :: k1 :: l, by simp, by omega, by simp; omega, hM⟩
        case measure => simp [intOf]; omega
      · refine (ns_do_bad hoW.out.ns cb2 hBB.1 hl9).mono ?_
        rintro _ W2 ⟨rfl, q3, q4⟩
        have hO2 := hide (hoW.out.same q3 q4)
        have t5 := hO2.out.cw
        rw [← hwa] at t5
        have t7 := q4.cell (p := ⟨BB, 0, none⟩) cb2 hBB.1
        have t8 := hO2.out.ns.cn
        have t8' : W2.cell? ⟨bn, 0, none⟩ = some (.int .i64 ((wa : Int) + 1)) := by rw [t8]; exact ns_l5 hla
        have hwl : wa < 1000 := by omega
        obtain ⟨-, -, ew3⟩ := ns_wr wa hwl
        clear t8 q3 q4 cb2 hwa hla hBB hoW
        dsimp only
        go_wp2_with fail
        go_quiet (fail)
        have hu3 : Up W2 (W2.drewN nq) := (Up.refl _).drewN nq
        generalize W2.drewN nq = W3 at *
        replace t5 := hu3.cell t5
        replace t7 := hu3.cell t7
        replace t8' := hu3.cell t8'
        have hM := hide (hO2.out.up hu3)
        clear hu3 hO2
        go_wp2
        go_roundw
        case rel => exact ⟨i + 1, l, by simp, by omega, by omega, hM⟩
        case measure => simp [intOf]; omega
    · obtain rfl : i = bs.length := by omega
      have z1 : ¬ ((bs.length : Nat) : Int) < (len : Int) := by omega
      have co := ho.out.co
      have hR := hide (⟨l, by omega, ho.out⟩ : ∃ l : List Bk, l.length ≤ 26 ∧ NsO X T bl bn ba bw bi bo k0 (.slice a len cap) bs outer l wr)
      clear ho
      cases outer
      · go_wp2
        go_ret
        exact ⟨rfl, hR.out⟩
      · go_wp2
        go_ret
        exact ⟨rfl, hR.out⟩

end Go.Proofs.Ytobalfckdknbdaa
