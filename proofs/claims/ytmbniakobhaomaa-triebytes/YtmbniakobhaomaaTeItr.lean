/-
  maps.Values of a map from numbers to places, gone through by slices.Collect, as the library's text runs.
-/
import Derived.Test.YtmbniakobhaomaaTeWkE
import Derived.RangeFuncFrom
import Derived.RangeFuncBox
import Derived.RangeFuncBound
import Derived.RangeFuncCalls
import Derived.RangeFuncLeaves
import Derived.Shelf.Abstract
import Derived.Shelf.AbstractIn
import Derived.Sort.MapsRangeIn
import Derived.WalkKit
import Derived.OwnWalkIn
import Derived.TacticsInMore
import Derived.RegionIn
import Derived.LoopNIn
import Derived.LoopIn
import Derived.Maps.AppendAt
namespace Go.Proofs.Ytmbniakobhaomaa
open Go.RowKit Go.Maps Go.Shelf
set_option linter.unusedVariables false
attribute [local go_sem] Oper.semAt_some

/-- The places of these numbers. -/
def slotsB (f : UInt8 → Option Nat) (ks : List UInt8) : List Int := ks.map (fun x => (x.toNat : Int))
/-- All numbers of the table, each once. -/
def KeysB (f : UInt8 → Option Nat) (ks : List UInt8) : Prop := ks.Nodup ∧ (∀ x, x ∈ ks ↔ (f x).isSome = true) ∧ ks.length ≤ 1000
/-- Those that have come. -/
def CollB (f : UInt8 → Option Nat) (left : Lit → Bool) (ks : List UInt8) : Prop := ks.Nodup ∧ ∀ x, x ∈ ks ↔ ((f x).isSome = true ∧ left (kB x) = false)
theorem CollB.step {f : UInt8 → Option Nat} {left : Lit → Bool} {ks : List UInt8} {x : UInt8} (h : CollB f left ks) (hx : (f x).isSome = true) (hl : left (kB x) = true) : CollB f (fun z => left z && !z.sameKey (kB x)) (ks ++ [x]) := by
  refine ⟨?_, fun y => ?_⟩
  · rw [List.nodup_append]
    refine ⟨h.1, by simp, fun a ha b hb => ?_⟩
    simp only [List.mem_singleton] at hb
    subst hb
    intro e
    subst e
    have := ((h.2 a).1 ha).2
    rw [hl] at this
    cases this
  · rw [List.mem_append, List.mem_singleton, h.2 y]
    by_cases e : y = x
    · subst e
      have hs : (kB y).sameKey (kB y) = true := by simp [Lit.sameKey]
      simp [hx, hs]
    · have hne : kB y ≠ kB x := fun q => e (kB_inj q)
      simp [sameKey_ne hne, e]

set_option maxRecDepth 100000 in
set_option maxHeartbeats 2000000 in
theorem keysB_stops (F : Fence) (n : Nat) (hF : F.fn 50) (hro : F.round = none) (hn : 1 ≤ n) (Bm M c : Nat) (f : UInt8 → Option Nat) (w : World) (hBm : Bm < w.heap.size)
    (hm : w.cell? ⟨Bm, 0, none⟩ = some (.map (some M))) (hmap : MapB w M f c) (hc : c ≤ 1000) :
    SeqStopsK F n Try.prog 50 #[.pointer (some ⟨Bm, 0, none⟩)] (fun x : Int => #[Value.int .u8 x]) KeepsWalks (fun xs => ∃ ks, KeysB f ks ∧ xs = slotsB f ks) (fun _ => True) c w := fun l J Jx W hW hJ _ hY h0 => by
  obtain ⟨D, hown0, hsz, hat⟩ := hmap
  have hown : W.ownsMap Try.prog 5 heldN M c D := by
    have hbl := hown0.lt
    obtain ⟨es, clock, hb, Ft, hs, hD⟩ := hown0
    exact ⟨es, clock, (hW.block M hbl).trans hb, Ft, hs, hD⟩
  have hm' := (hW.cell (p := ⟨Bm, 0, none⟩) hBm).trans hm
  refine callsIn_of_wp Try.func50 rfl hF ?_ hro
  simp only [Try.ntmps50, List.size_toArray, List.length_cons, List.length_nil, Nat.reduceAdd, Nat.reduceSub, Array.replicate_succ, Array.replicate_zero, List.push_toArray, List.append_toArray, List.nil_append, List.cons_append]
  gi_wp2_with (first
    | (gi_at_range; refine wpListIn_range_own _ rfl _ 60 rfl 5 54 lawB Try.underlying60 _ M c _ rfl hown ?_; intro w0 hrg0 hg0 hs0)
    | gi_in)
  rw [hsz] at hrg0
  gi_loopw [3] (fun _ wr => ∃ (left : Lit → Bool) (cnt : Nat) (ks : List UInt8), wr.ranges Try.prog 5 heldN M W.heap.size c D left cnt ∧ ks.length + cnt ≤ c ∧ CollB f left ks ∧ J (slotsB f ks) wr)
    (fun _ wr => wr.rangeLeft M W.heap.size)
  case atStart =>
    exact ⟨_, _, [], hrg0, by simp, ⟨List.nodup_nil, fun x => by rw [(hat x).1]; cases f x <;> simp⟩, hJ [] W w0 none h0 hg0 (fun r e => by cases e)⟩
  case round =>
    obtain ⟨left, cnt, ks, hrg, hcs, hC, hJs⟩ := hrel
    gi_wp2_with (first
      | (gi_at_next; refine wpListIn_next_ranges _ rfl _ rfl 5 lawB heldN (Value.int .u8) oP (fun key kl hk => by obtain ⟨x, hx, _⟩ := Maps.keyOf_int_inv Try.underlying5 hk; exact ⟨x, hx⟩) (fun v y hv => ⟨npOf v, (heldN_inv hv).2⟩) M W.heap.size c _ _ _ rfl hrg ?_ ?_)
      | gi_in)
    · intro hc0 hl0
      gi_wp2
      go_end0
      exact ⟨⟨_, rfl⟩, .inl ⟨_, ⟨ks, ⟨hC.1, fun x => (by rw [hC.2 x]; simp [hl0]), by omega⟩, rfl⟩, hJs⟩⟩
    · intro x y kl yd yp w2 cnt2 hkey hlk hv hax hrg2 hlt hg2 hs2 hen
      obtain ⟨x', ex, rfl, hwf⟩ := Maps.keyOf_int_inv Try.underlying5 hkey
      cases ex
      obtain ⟨b, rfl⟩ := u8_of_wf hwf
      have hsome : (f b).isSome = true := by rw [← (hat b).1]; exact has_true_of_atKey hax
      have hJ2 : J (slotsB f ks) w2 := hJ _ wr w2 (some W.heap.size) hJs hg2 (fun r e => by cases e; exact ⟨Nat.le_refl _, hrg.iter_walk⟩)
      obtain ⟨fn, tmps, assign, body, hy, hR⟩ := hY _ (b.toNat : Int) w2 hJ2 (by simp [slotsB]; omega)
      clear hs2 hwf
      gi_wp2
      refine hR.mono ?_
      rintro e W3 (⟨rfl, hJ3, hk3⟩ | ⟨rfl, hJ3⟩)
      · gi_wp2
        have hrg3 := hrg2.of_walks hk3
        have hJ4 : J (slotsB f (ks ++ [b])) W3 := by
          have : slotsB f (ks ++ [b]) = slotsB f ks ++ [(b.toNat : Int)] := by simp [slotsB]
          rw [this]
          exact hJ3
        go_roundw
        case rel => exact ⟨_, cnt2, ks ++ [b], hrg3, by simp; omega, hC.step hsome hlk, hJ4⟩
        case measure => rw [hrg3.left_eq, hrg.left_eq]; exact hlt
      · gi_wp2
        (try simp only [Exit.inBlock, Exit.then])
        refine bodyPost_ret (results_none rfl _ _ _) rfl ?_
        exact ⟨⟨_, rfl⟩, .inr ⟨_, trivial, hJ3⟩⟩

theorem info_byte2 : (Try.prog.info? 5).map (fun i => (i.zero, i.size, i.bytes)) = some (some (.int .u8 0), 1, 1) := by kernel_rfl

set_option maxRecDepth 100000 in
set_option maxHeartbeats 2000000 in
theorem appendSeqB_in (F : Fence) (n : Nat) (hF : F.fn 54) (hG : F.fn 50) (hro : F.round = none) (hn : 3 ≤ n) (Bm M c : Nat) (f : UInt8 → Option Nat) (w : World) (hBm : Bm < w.heap.size)
    (hm : w.cell? ⟨Bm, 0, none⟩ = some (.map (some M))) (hmap : MapB w M f c) (hc : c ≤ 1000) :
    CallsIn F n Try.prog 54 #[.slice none 0 0, .func (.func 50) #[] #[.pointer (some ⟨Bm, 0, none⟩)]] w fun e w' => ∃ v ks, e = .returned v ∧ KeysB f ks ∧ w'.ownsRow w.heap.size 5 1 v ks.length ((slotsB f ks).map (Value.int .u8)) ∧ Below w.heap.size w w' := by
  have h1 : 1 ≤ n := by omega
  obtain ⟨i0, hi, hz0, hz1, hz2⟩ := info_parts info_byte2
  refine callsIn_of_wp_marks Try.func54 rfl hF ?_ hro
  simp only [Try.ntmps54, List.size_toArray, List.length_cons, List.length_nil, Nat.reduceAdd, Nat.reduceSub, Array.replicate_succ, Array.replicate_zero, List.push_toArray, List.append_toArray, List.nil_append, List.cons_append]
  gi_wp2
  have hbx : Boxed (w.alloc (.cells #[.slice none 0 0] 52)) w.heap.size 52 (.slice none 0 0) := Boxed.new w 52 _
  have hB0 : Below w.heap.size w (w.alloc (.cells #[.slice none 0 0] 52)) := (Below.refl _ w).alloc (Nat.le_refl _) _
  have hmap0 : MapB (w.alloc (.cells #[.slice none 0 0] 52)) M f c := hmap.chg (Chg.of_up (C := fun _ => False) hB0) (fun h => h)
  refine wpIn_rangeFunc_ownF hro h1 (gf := 50) (lb := #[.pointer (some ⟨Bm, 0, none⟩)]) rfl hG (enters_of Try.func50 (by kernel_rfl) rfl)
    (keysB_stops F (n - 1) hG hro (by omega) Bm M c f _ (by simp; omega) ((hB0.cell (p := ⟨Bm, 0, none⟩) hBm).trans hm) hmap0 hc) walksK_t walksK_b (Below.refl _ _) (fun _ => rfl)
    (fun pre W => (∃ v, Boxed W w.heap.size 52 v ∧ W.ownsRow w.heap.size 5 1 v pre.length (pre.map (Value.int .u8)) ∧ True) ∧ Below w.heap.size w W)
    (fun _ _ _ => False)
    (OwnFrom.and (Own.from (holdsRow_own w.heap.size w.heap.size 52 5 1 (fun pre : List Int => pre.length) (fun pre => pre.map (Value.int .u8)) (fun _ _ => True)) _) (ownFrom_below (Nat.le_refl _) (by simp)))
    (fun _ _ _ _ _ hs _ _ => hs)
    ⟨⟨_, hbx, World.ownsRow_nil _ _ _ _, trivial⟩, hB0⟩
    (fun x => { tmps := #[.slice none 0 0, .func (.func 50) #[] #[.pointer (some ⟨Bm, 0, none⟩)], .pointer (some ⟨w.heap.size, 0, none⟩), undef, .slice none 0 0, .int .u8 x, .func (.func 50) #[] #[.pointer (some ⟨Bm, 0, none⟩)], .int .u8 x, undef, undef, undef, undef, undef], defers := [] }) ?assign ?body ?done ?stop
  case assign =>
    intro l x W K hK
    gi_wp2
    exact hK
  case body =>
    rintro l pre x W ⟨⟨v, hv, hrow, _⟩, hB⟩ hlen
    have hvc := hv.cell
    gi_wp2_with (first
      | (gi_at_builtin; refine wpListIn_append_own _ rfl _ _ 52 rfl w.heap.size 5 i0 (.int .u8 0) 1 1 Try.underlying52 hi hz0 hz1 hz2 rfl (by decide) _ _ _ rfl (hrow.alloc _) ⟨W.heap.size, 0, none⟩ 1 1 [Value.int .u8 x] rfl rfl (cell_one_new _ _ _) (by simp [Value.oneCell']) (by unfold maxLen; omega) (by omega) (by have := hB.size; simp; omega) ?_; intro v' w1 hown' hgrow _; obtain ⟨g', cap', rfl⟩ := ownsRow_succ hown'; obtain ⟨hv1, hv2, hr2, hk2, hb2⟩ := hv.appended (by decide) hrow hB.size (Nat.le_refl _) hown' hgrow; have hc1 := hv1.cell; have hf1 := hv1.frozen)
      | gi_in)
    exact ⟨hk2, hk2.walks, ⟨⟨_, hv2, by simpa using hr2, trivial⟩, hB.trans hb2⟩⟩
  case done =>
    rintro D xs W hD ⟨ks, hks, rfl⟩ ⟨⟨v, hv, hrow, _⟩, hB⟩ hK
    have hvc := hv.cell
    gi_wp2
    refine ⟨by simp, .inl ⟨_, _, rfl, run_takeDeferred hK, ?_⟩⟩
    refine ⟨_, results_tmp rfl _ _ _, v, ks, rfl, hks, ?_, hB.trans (belowK_b (w := w) (Nat.le_refl _) W D _ _ (by simp at hD; omega) hK rfl rfl)⟩
    have := ownsRow_putObj hrow (.deferred none) hK rfl
    simpa [slotsB] using this
  case stop =>
    rintro D c pre W _ _ h _
    exact h.elim

set_option maxRecDepth 100000 in
set_option maxHeartbeats 2000000 in
theorem collectB_calls (Bm M c : Nat) (f : UInt8 → Option Nat) (w : World) (hBm : Bm < w.heap.size) (hm : w.cell? ⟨Bm, 0, none⟩ = some (.map (some M))) (hmap : MapB w M f c) (hc : c ≤ 1000) :
    Calls Try.prog 48 #[.func (.func 50) #[] #[.pointer (some ⟨Bm, 0, none⟩)]] w fun e w' => ∃ v ks, e = .returned v ∧ KeysB f ks ∧ w'.ownsRow w.heap.size 5 1 v ks.length ((slotsB f ks).map (Value.int .u8)) ∧ Up w w' := by
  have hap : Hid (Calls Try.prog 54 #[.slice none 0 0, .func (.func 50) #[] #[.pointer (some ⟨Bm, 0, none⟩)]] w fun e w' => ∃ v ks, e = .returned v ∧ KeysB f ks ∧ w'.ownsRow w.heap.size 5 1 v ks.length ((slotsB f ks).map (Value.int .u8)) ∧ Below w.heap.size w w') :=
    callsIn_wide.1 (appendSeqB_in Fence.wide 3 trivial trivial rfl (Nat.le_refl _) Bm M c f w hBm hm hmap hc)
  clear hm hmap
  go_enter Try.func48, Try.ntmps48
  go_wp2_with fail
  go_at_call 54
  refine hap.out.mono ?_
  rintro _ w1 ⟨v, ks, rfl, h1, h2, h3⟩
  have H1 := hide h1
  have H2 := hide h2
  have H3 : Hid (Up w w1) := h3
  clear h1 h2 h3
  go_wp2
  go_ret
  exact ⟨v, ks, rfl, H1.out, H2.out, H3.out⟩

theorem keysB_calls (M : Nat) (w : World) : Calls Try.prog 41 #[.map (some M)] w fun e w' => e = .returned (.func (.func 50) #[] #[.pointer (some ⟨w.heap.size, 0, none⟩)]) ∧ w' = w.alloc (.cells #[.map (some M)] 60) := by
  go_enter Try.func41, Try.ntmps41
  go_wp2
  go_ret
  exact ⟨rfl, rfl⟩

end Go.Proofs.Ytmbniakobhaomaa
