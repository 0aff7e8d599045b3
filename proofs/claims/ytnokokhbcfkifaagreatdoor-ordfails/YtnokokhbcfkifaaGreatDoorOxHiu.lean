/-
  A comparator of rialtoplay that strikes, hook.Compare of it, and ordidx's order by it, as their texts run.
-/
import Derived.Test.YtnokokhbcfkifaaGreatDoorOxHit
import Derived.Test.YtnokokhbcfkifaaGreatDoorHookCmpE
namespace Go.Proofs.YtnokokhbcfkifaaGreatDoor
open Go.ChangeShapes Go.WideShapes Go.ChangeAt Go.RowKit
set_option linter.unusedVariables false
set_option maxRecDepth 100000
attribute [local go_sem ↓] Go.wp_at_zero Go.wp_at_succ

set_option maxHeartbeats 4000000 in
theorem cprO_hit (mx nx mb : Nat) (c h : Int) (a b : Value) (x : World) (k0 : x.cell? ⟨mx, 0, none⟩ = some (.pointer (some ⟨mb, 0, none⟩))) (hc0 : 0 ≤ c) (hc1 : c ≤ 1000) (hm : Met x mb c (c + 1) h 0) :
    Calls Tryz.prog 53 (#[a, b] ++ #[.pointer (some ⟨mx, 0, none⟩), .pointer (some ⟨nx, 0, none⟩)]) x fun e x' => ∃ k, e = .returned (.tuple #[.int .i64 0, .iface 147 (.pointer (some ⟨k, 0, none⟩))]) ∧ Chg (fun g => g = mb) x x' ∧ Met x' mb (c + 1) (c + 1) h 1 := by
  show Calls Tryz.prog 53 #[a, b, .pointer (some ⟨mx, 0, none⟩), .pointer (some ⟨nx, 0, none⟩)] x _
  have HM := hide (tick_hit mb c h x hc0 hc1 hm)
  clear hm
  go_enter Tryz.func53, Tryz.ntmps53
  go_wp2_with fail
  go_at_call 51
  refine HM.out.mono ?_
  rintro _ x1 ⟨k, rfl, hm1, hc1, -⟩
  have HH : Hid (Chg (fun g => g = mb) x x1 ∧ Met x1 mb (c + 1) (c + 1) h 1) := ⟨hc1, hm1⟩
  clear hm1 hc1
  go_wp2
  go_ret2
  exact ⟨k, rfl, HH.out⟩
/-- hook.Compare, where the comparator strikes. -/
theorem cmpO_hit (s0 : ByteArray) (mb q mx nx : Nat) (c h : Int) (av bv : Option Addr) (n cc p d : Nat) (m l : List VT) (w : World) (hs : s0.size ≤ 60) (cw : CpW (some ⟨mb, 0, none⟩) q mx nx c (c + 1) h 0 w) (hc0 : 0 ≤ c) (hc1 : c ≤ 1000) (ka : KeyK w av n m) (kb : KeyK w bv p l) :
    Calls Tryz.prog 103 #[.string s0, cpF mx nx, .slice av n cc, .slice bv p d] w fun e w' => ∃ b k, e = .returned (.tuple #[.int .i64 0, .iface 106 (.pointer (some ⟨b, 0, none⟩))]) ∧ FaultAt w' b 0 s0 (.iface 147 (.pointer (some ⟨k, 0, none⟩))) .nilIface ∧ Chg (InM (some ⟨mb, 0, none⟩)) w w' ∧ MetO w' (some ⟨mb, 0, none⟩) (c + 1) (c + 1) h 1 := by
  obtain ⟨hT, hTm, hmO, hx, hy, hn0, hn1⟩ := cw
  obtain ⟨-, hm⟩ := hmO _ rfl
  have hmb : mb < w.heap.size := World.block_lt_of_cell? w _ hm.1.1
  have hs' : s0.size ≤ 281474976710656 := by omega
  have hTm' : ¬ 0 = mb := fun e => hTm ⟨_, rfl, e⟩
  have htab : ∀ x x' : World, Up w x → Chg (fun g => g = mb ∨ w.heap.size ≤ g) x x' → TabE x' := fun x x' h1 h2 => h2.cell (hT.up h1) (fun e => e.elim (fun e => hTm' e) (fun e => by have e' : w.heap.size ≤ 0 := e; have := World.block_lt_of_cell? w _ hT; simp at this; omega))
  refine (cmp_errV s0 53 #[.pointer (some ⟨mx, 0, none⟩), .pointer (some ⟨nx, 0, none⟩)] av bv n cc p d m l 0 147 (fun b => b = mb) (fun x x' ev => Chg (fun g => g = mb ∨ w.heap.size ≤ g) x x' ∧ (Met x' mb (c + 1) (c + 1) h 1 ∧ ∃ k, ev = .pointer (some ⟨k, 0, none⟩))) w hs' hT (fun b e => by omega) ka.few ka.vals ka.sh kb.few kb.vals kb.sh (fun v v' w' => cpr_enter v v' _ w') (fun x a' b' hx' h1 h2 => (cprO_hit mx nx mb c h _ _ x (hx'.cell hx) hc0 hc1 (hm.up hx')).mono ?_)).mono ?_
  · rintro _ x' ⟨k, rfl, g1, g2⟩
    have h5 : Chg (fun g => g = mb ∨ w.heap.size ≤ g) x x' := g1.mono (fun g _ h => Or.inl h)
    exact ⟨_, rfl, g1.mono (fun g _ h => Or.inl h), htab x x' hx' h5, h5, g2, k, rfl⟩
  · rintro _ w' ⟨ev, b, rfl, hl⟩
    obtain ⟨hc, x, x', h1, ⟨h2, k, rfl⟩, h3⟩ := left_o hl.leftS
    exact ⟨b, k, rfl, hl.at', hc.mono (fun y _ e => ⟨_, rfl, e⟩), fun p hp => by
      cases hp
      exact ⟨rfl, h2.chg h3 (fun hm' => by have := hm'.1; omega)⟩⟩
/-- order, where the comparator strikes: its own error is told. -/
theorem order_hit (X mb q mx nx : Nat) (c h : Int) (av bv : Option Addr) (n cc p d : Nat) (m l : List VT) (w : World) (x1 : w.cell? ⟨X, 1, none⟩ = some (cpF mx nx)) (cw : CpW (some ⟨mb, 0, none⟩) q mx nx c (c + 1) h 0 w) (hc0 : 0 ≤ c) (hc1 : c ≤ 1000) (ka : KeyK w av n m) (kb : KeyK w bv p l) :
    Calls Tryz.prog 66 #[.pointer (some ⟨X, 0, none⟩), .slice av n cc, .slice bv p d] w fun e w' => ∃ k, e = .returned (.tuple #[.int .i64 0, .iface 147 (.pointer (some ⟨k, 0, none⟩))]) ∧ Chg (InM (some ⟨mb, 0, none⟩)) w w' ∧ MetO w' (some ⟨mb, 0, none⟩) (c + 1) (c + 1) h 1 := by
  refine (order_hits X _ _ _ _ _ (fun b k w' => Chg (InM (some ⟨mb, 0, none⟩)) w w' ∧ MetO w' (some ⟨mb, 0, none⟩) (c + 1) (c + 1) h 1) w x1 (fun g w1 hu hg => ?_) (fun b k w1 w2 h hu => ⟨h.1.andUp hu, h.2.up hu⟩)).mono (fun _ _ ⟨b, k, h1, h2⟩ => ⟨k, h1, h2⟩)
  refine (kcmp_hook ⟨#[]⟩ 0 0 none none (some ⟨g, 0, none⟩) 0 0 0 0 1 1 _ _ [cpF mx nx] (cpF mx nx) (fun w1 r ev w' => ∃ b k, r = 0 ∧ ev = .iface 106 (.pointer (some ⟨b, 0, none⟩)) ∧ FaultAt w' b 0 ⟨#[]⟩ (.iface 147 (.pointer (some ⟨k, 0, none⟩))) .nilIface ∧ Chg (InM (some ⟨mb, 0, none⟩)) w1 w' ∧ MetO w' (some ⟨mb, 0, none⟩) (c + 1) (c + 1) h 1) w1 (by decide) (by decide) ?_ rfl (fun w2 hu2 => (cmpO_hit ⟨#[]⟩ mb q mx nx c h av bv n cc p d m l w2 (by decide) (cw.up (hu.trans hu2)) hc0 hc1 (ka.up (hu.trans hu2)) (kb.up (hu.trans hu2))).mono ?_)).mono ?_
  · refine ⟨rfl, fun i => ?_, .inr ⟨g, 0, rfl, fun i hi j v hv => ?_⟩⟩
    · cases i with
      | zero => exact .inr ⟨_, _, _, rfl⟩
      | succ i => exact .inl rfl
    · obtain rfl : i = 0 := by omega
      cases j with
      | zero => cases hv; rw [show 0 + 0 * 1 + 0 = 0 from rfl]; exact hg
      | succ j => simp at hv
  · rintro _ w' ⟨b, k, rfl, g0, g1, g2⟩
    exact ⟨_, _, rfl, b, k, rfl, rfl, g0, g1, g2⟩
  · rintro _ w' ⟨w2, r, ev, hu2, rfl, b, k, rfl, rfl, g0, g1, g2⟩
    have hcw : Chg (InM (some ⟨mb, 0, none⟩)) w w' := (Chg.of_up (hu.trans hu2)).trans g1 (fun _ _ h => h)
    exact ⟨b, k, rfl, g0, hcw.cell cw.tab cw.tabn, hcw, g2⟩
end Go.Proofs.YtnokokhbcfkifaaGreatDoor
