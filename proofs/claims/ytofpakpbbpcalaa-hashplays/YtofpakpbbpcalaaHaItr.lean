/-
  maps.Values of a map from bytes to groups, gone through by slices.Collect, as the library's text runs.
-/
import Derived.Test.YtofpakpbbpcalaaHaMap
import Derived.RangeFuncFrom
import Derived.RangeFuncNested
import Derived.RangeFuncBox
import Derived.RangeFuncBound
import Derived.RangeFuncCalls
import Derived.RangeFuncLeaves
import Derived.Shelf.Abstract
import Derived.Shelf.AbstractIn
import Derived.Sort.MapsRangeIn
import Derived.Sort.KeysCollected
import Derived.WalkKit
import Derived.OwnWalkIn
import Derived.TacticsInMore
import Derived.RegionIn
import Derived.LoopNIn
import Derived.LoopIn
import Derived.Maps.AppendAt
namespace Go.Proofs.Ytofpakpbbpcalaa
open Go.RowKit Go.Maps Go.Shelf
set_option linter.unusedVariables false
set_option maxRecDepth 100000
attribute [local go_sem] Oper.semAt_some

/-- A group as two slices. -/
structure GT where
  a : Option Addr
  n : Nat
  c : Nat
  b : Option Addr
  m : Nat
  d : Nat
def gCells (x : GT) : List Value := [.slice x.a x.n x.c, .slice x.b x.m x.d]
def gVal (x : GT) : Value := .agg #[.slice x.a x.n x.c, .slice x.b x.m x.d]
def zeroGT : GT := ⟨none, 0, 0, none, 0, 0⟩
def gOf : Value → GT
  | .agg cs => match cs.toList with
    | [.slice a n c, .slice b m d] => ⟨a, n, c, b, m, d⟩
    | _ => zeroGT
  | _ => zeroGT
theorem gOf_gVal (x : GT) : gOf (gVal x) = x := rfl
theorem grp_form {v : Value} (h : isGrp v = true) : v = gVal (gOf v) := by
  unfold isGrp at h
  split at h
  · rename_i cs
    split at h
    · rename_i a n c b m d e
      have : cs = #[.slice a n c, .slice b m d] := by
        apply Array.toList_inj.1
        rw [e]
      rw [this]
      rfl
    · cases h
  · cases h
theorem gCells_one (x : GT) : ∀ u ∈ gCells x, u.oneCell' = true := fun u hu => by
  simp only [gCells, List.mem_cons, List.not_mem_nil, or_false] at hu
  rcases hu with rfl | rfl <;> rfl
/-- The groups of these keys. -/
def grpsOf (f : List UInt8 → Option Value) (ks : List (List UInt8)) : List GT := ks.map (fun x => gOf ((f x).getD zeroG))
/-- All keys of the table, each once. -/
def KeysS (f : List UInt8 → Option Value) (ks : List (List UInt8)) : Prop := ks.Nodup ∧ (∀ x, x ∈ ks ↔ (f x).isSome = true) ∧ ks.length ≤ 1000
/-- Those that have come. -/
def CollS (f : List UInt8 → Option Value) (left : Lit → Bool) (ks : List (List UInt8)) : Prop := ks.Nodup ∧ ∀ x, x ∈ ks ↔ ((f x).isSome = true ∧ left (.string x) = false)
theorem CollS.step {f : List UInt8 → Option Value} {left : Lit → Bool} {ks : List (List UInt8)} {x : List UInt8} (h : CollS f left ks) (hx : (f x).isSome = true) (hl : left (.string x) = true) : CollS f (fun z => left z && !z.sameKey (.string x)) (ks ++ [x]) := by
  refine ⟨?_, fun y => ?_⟩
  · rw [List.nodup_append]
    refine ⟨h.1, by simp, fun a ha b hb => ?_⟩
    simp only [List.mem_singleton] at hb
    subst hb
    intro e
    subst e
    have := ((h.2 a).1 ha).2
    rw [hl] at this
    cases this
  · rw [List.mem_append, List.mem_singleton, h.2 y]
    by_cases e : y = x
    · subst e
      have hs : (Lit.string y).sameKey (.string y) = true := by simp [Lit.sameKey]
      simp [hx, hs]
    · have hne : Lit.string y ≠ Lit.string x := fun q => e (by cases q; rfl)
      simp [sameKey_ne hne, e]

set_option maxHeartbeats 2000000 in
theorem values_stops (F : Fence) (n : Nat) (hF : F.fn 45) (hro : F.round = none) (hn : 1 ≤ n) (Bm M c : Nat) (f : List UInt8 → Option Value) (w : World) (hBm : Bm < w.heap.size)
    (hm : w.cell? ⟨Bm, 0, none⟩ = some (.map (some M))) (hmap : MapS w M f c) (hc : c ≤ 1000) :
    SeqStopsK F n Try.prog 45 #[.pointer (some ⟨Bm, 0, none⟩)] (fun x : GT => #[gVal x]) KeepsWalks (fun xs => ∃ ks, KeysS f ks ∧ xs = grpsOf f ks) (fun _ => True) c w := fun l J Jx W hW hJ _ hY h0 => by
  obtain ⟨D, hown0, hsz, hat⟩ := hmap
  have hown : W.ownsMap Try.prog 9 heldE M c D := by
    have hbl := hown0.lt
    obtain ⟨es, clock, hb, Ft, hs, hD⟩ := hown0
    exact ⟨es, clock, (hW.block M hbl).trans hb, Ft, hs, hD⟩
  have hm' := (hW.cell (p := ⟨Bm, 0, none⟩) hBm).trans hm
  refine callsIn_of_wp Try.func45 rfl hF ?_ hro
  simp only [Try.ntmps45, List.size_toArray, List.length_cons, List.length_nil, Nat.reduceAdd, Nat.reduceSub, Array.replicate_succ, Array.replicate_zero, List.push_toArray, List.append_toArray, List.nil_append, List.cons_append]
  gi_wp2_with (first
    | (gi_at_range; refine wpListIn_range_own _ rfl _ 59 rfl 9 64 lawS Try.underlying59 _ M c _ rfl hown ?_; intro w0 hrg0 hg0 hs0)
    | gi_in)
  rw [hsz] at hrg0
  gi_loopw [4] (fun _ wr => ∃ (left : Lit → Bool) (cnt : Nat) (ks : List (List UInt8)), wr.ranges Try.prog 9 heldE M W.heap.size c D left cnt ∧ ks.length + cnt ≤ c ∧ CollS f left ks ∧ J (grpsOf f ks) wr)
    (fun _ wr => wr.rangeLeft M W.heap.size)
  case atStart =>
    exact ⟨_, _, [], hrg0, by simp, ⟨List.nodup_nil, fun x => by rw [(hat x).1]; cases f x <;> simp⟩, hJ [] W w0 none h0 hg0 (fun r e => by cases e)⟩
  case round =>
    obtain ⟨left, cnt, ks, hrg, hcs, hC, hJs⟩ := hrel
    --V1
    gi_wp2_with (first
      | (gi_at_next; refine wpListIn_next_ranges _ rfl _ rfl 9 lawS heldE encStr gVal (fun key kl hk => by obtain ⟨x, hx, _⟩ := Maps.keyOf_str Try.underlying9 hk; exact ⟨x, hx⟩) (fun v y hv => ⟨gOf v, grp_form (heldE_inv hv).2⟩) M W.heap.size c _ _ _ rfl hrg ?_ ?_)
      | gi_in)
    · intro hc0 hl0
      gi_wp2
      go_end0
      exact ⟨⟨_, rfl⟩, .inl ⟨_, ⟨ks, ⟨hC.1, fun x => (by rw [hC.2 x]; simp [hl0]), by omega⟩, rfl⟩, hJs⟩⟩
    · intro x y kl yd yp w2 cnt2 hkey hlk hv hax hrg2 hlt hg2 hs2 hen
      obtain ⟨x', ex, rfl, _⟩ := Maps.keyOf_str Try.underlying9 hkey
      obtain rfl := encStr_inj ex
      have hsome : (f x).isSome = true := by rw [← (hat x).1]; exact has_true_of_atKey hax
      have hyx : y = gOf ((f x).getD zeroG) := by
        cases hf : f x with
        | none => rw [hf] at hsome; cases hsome
        | some s =>
          have h1 := (hat x).2 s hf
          rw [hax] at h1
          have h2 := (heldE_inv hv).1
          simp only [Prod.mk.injEq] at h2
          rw [h2.1] at h1
          injection h1 with h1
          show y = gOf s
          rw [← h1, gOf_gVal]
      have hJ2 : J (grpsOf f ks) w2 := hJ _ wr w2 (some W.heap.size) hJs hg2 (fun r e => by cases e; exact ⟨Nat.le_refl _, hrg.iter_walk⟩)
      have hJ2a : J (grpsOf f ks) (w2.alloc (.cells #[.slice y.a y.n y.c, .slice y.b y.m y.d] 64)) := hJ _ w2 _ none hJ2 (World.grownBy_alloc w2 _ none) (fun r e => by cases e)
      have hrg2a := hrg2.alloc (.cells #[.slice y.a y.n y.c, .slice y.b y.m y.d] 64)
      obtain ⟨fn, tmps, assign, body, hy, hR⟩ := hY _ y _ hJ2a (by simp [grpsOf]; omega)
      have HYX := hide hyx
      obtain ⟨ya, yn, yc, yb, ym, yd⟩ := y
      simp only [gVal] at hy hR hen ⊢
      have q0 : (w2.alloc (.cells #[.slice ya yn yc, .slice yb ym yd] 64)).cell? ⟨w2.heap.size, 0, none⟩ = some (.slice ya yn yc) := by go_simp
      have q1 : (w2.alloc (.cells #[.slice ya yn yc, .slice yb ym yd] 64)).cell? ⟨w2.heap.size, 1, none⟩ = some (.slice yb ym yd) := by go_simp
      clear hs2 hyx hv hax hJ2a hJ2 hrg2
      --V2
      gi_wp2
      refine hR.mono ?_
      rintro e W3 (⟨rfl, hJ3, hk3⟩ | ⟨rfl, hJ3⟩)
      · gi_wp2
        have hrg3 := hrg2a.of_walks hk3
        have hJ4 : J (grpsOf f (ks ++ [x])) W3 := by
          have : grpsOf f (ks ++ [x]) = grpsOf f ks ++ [⟨ya, yn, yc, yb, ym, yd⟩] := by rw [HYX.out]; simp [grpsOf]
          rw [this]
          exact hJ3
        go_roundw
        case rel => exact ⟨_, cnt2, ks ++ [x], hrg3, by simp; omega, hC.step hsome hlk, hJ4⟩
        case measure => rw [hrg3.left_eq, hrg.left_eq]; exact hlt
      · gi_wp2
        (try simp only [Exit.inBlock, Exit.then])
        refine bodyPost_ret (results_none rfl _ _ _) rfl ?_
        exact ⟨⟨_, rfl⟩, .inr ⟨_, trivial, hJ3⟩⟩

theorem info_grp : (Try.prog.info? 64).map (fun i => (i.zero, i.size, i.bytes)) = some (some (.agg #[.slice none 0 0, .slice none 0 0]), 2, 48) := by kernel_rfl
theorem gflat_snoc (l : List GT) (x : GT) : (l ++ [x]).flatMap gCells = l.flatMap gCells ++ gCells x := by simp
theorem gflat_len (l : List GT) : (l.flatMap gCells).length = l.length * 2 := by
  induction l with
  | nil => rfl
  | cons a l ih => rw [List.flatMap_cons, List.length_append, ih]; simp [gCells]; omega
theorem cells_two_new {w : World} {t : TypeId} (x : GT) : ∀ j u, (gCells x)[j]? = some u → (w.alloc (.cells #[.slice x.a x.n x.c, .slice x.b x.m x.d] t)).cell? ((⟨w.heap.size, 0, none⟩ : Addr).add j) = some u := by
  intro j u hj
  match j with
  | 0 => simp [gCells] at hj; subst hj; simp [Addr.add]
  | 1 => simp [gCells] at hj; subst hj; simp [Addr.add]
  | j + 2 => simp [gCells] at hj

set_option maxHeartbeats 2000000 in
theorem appendSeq_in (F : Fence) (n : Nat) (hF : F.fn 53) (hG : F.fn 45) (hro : F.round = none) (hn : 3 ≤ n) (Bm M c : Nat) (f : List UInt8 → Option Value) (w : World) (hBm : Bm < w.heap.size)
    (hm : w.cell? ⟨Bm, 0, none⟩ = some (.map (some M))) (hmap : MapS w M f c) (hc : c ≤ 1000) :
    CallsIn F n Try.prog 53 #[.slice none 0 0, .func (.func 45) #[] #[.pointer (some ⟨Bm, 0, none⟩)]] w fun e w' => ∃ v ks, e = .returned v ∧ KeysS f ks ∧ w'.ownsRow w.heap.size 64 2 v ks.length ((grpsOf f ks).flatMap gCells) ∧ Below w.heap.size w w' := by
  have h1 : 1 ≤ n := by omega
  obtain ⟨i0, hi, hz0, hz1, hz2⟩ := info_parts info_grp
  refine callsIn_of_wp_marks Try.func53 rfl hF ?_ hro
  simp only [Try.ntmps53, List.size_toArray, List.length_cons, List.length_nil, Nat.reduceAdd, Nat.reduceSub, Array.replicate_succ, Array.replicate_zero, List.push_toArray, List.append_toArray, List.nil_append, List.cons_append]
  gi_wp2
  have hbx : Boxed (w.alloc (.cells #[.slice none 0 0] 73)) w.heap.size 73 (.slice none 0 0) := Boxed.new w 73 _
  have hB0 : Below w.heap.size w (w.alloc (.cells #[.slice none 0 0] 73)) := (Below.refl _ w).alloc (Nat.le_refl _) _
  have hmap0 : MapS (w.alloc (.cells #[.slice none 0 0] 73)) M f c := hmap.chg (Chg.of_up (C := fun _ => False) hB0) (fun h => h)
  --A1
  refine wpIn_rangeFunc_ownH hro h1 (gf := 45) (lb := #[.pointer (some ⟨Bm, 0, none⟩)]) rfl hG (enters_of Try.func45 (by kernel_rfl) rfl)
    (values_stops F (n - 1) hG hro (by omega) Bm M c f _ (by simp; omega) ((hB0.cell (p := ⟨Bm, 0, none⟩) hBm).trans hm) hmap0 hc) walksK_t walksK_b (Below.refl _ _) (fun _ => rfl)
    (fun pre W => (∃ v, Boxed W w.heap.size 73 v ∧ W.ownsRow w.heap.size 64 2 v pre.length (pre.flatMap gCells) ∧ True) ∧ Below w.heap.size w W)
    (fun _ _ _ => False)
    (OwnFrom.and (Own.from (holdsRow_own w.heap.size w.heap.size 73 64 2 (fun pre : List GT => pre.length) (fun pre => pre.flatMap gCells) (fun _ _ => True)) _) (ownFrom_below (Nat.le_refl _) (by simp)))
    (fun _ _ _ _ _ hs _ _ => hs)
    ⟨⟨_, hbx, World.ownsRow_nil _ _ _ _, trivial⟩, hB0⟩
    (fun x a' W => ∃ Bx, W.heap[Bx]? = some (.cells #[.slice x.a x.n x.c, .slice x.b x.m x.d] 64 (0, 0)) ∧ a' = { tmps := #[.slice none 0 0, .func (.func 45) #[] #[.pointer (some ⟨Bm, 0, none⟩)], .pointer (some ⟨w.heap.size, 0, none⟩), undef, .slice none 0 0, .pointer (some ⟨Bx, 0, none⟩), .func (.func 45) #[] #[.pointer (some ⟨Bm, 0, none⟩)], gVal x, undef, undef, undef, undef, undef], defers := [] })
    (fun x a' _ X Y row hs hg hr => by
      obtain ⟨Bx, h2, h3⟩ := hs
      refine ⟨Bx, (hg.block Bx ?_ (fun e => ?_)).trans h2, h3⟩
      · rcases Nat.lt_or_ge Bx X.heap.size with h' | h'
        · exact h'
        · rw [Array.getElem?_eq_none h'] at h2; cases h2
      · obtain ⟨_, o, ho, hc⟩ := hr Bx e.symm
        rw [h2] at ho; cases ho; cases hc)
    ?assign ?body ?done ?stop
  case assign =>
    rintro l pre x W K ⟨⟨v, hv, hrow, _⟩, hB⟩ hK
    obtain ⟨xa, xn, xc, xb, xm, xd⟩ := x
    simp only [gVal] at hK ⊢
    have hsB := hB.size
    gi_wp2
    exact hK _ _ ((KeepsOthers.alloc _ _).from _) (KeepsOthers.alloc _ _).walks ⟨⟨v, hv.alloc _, World.ownsRow.alloc hrow _, trivial⟩, hB.alloc hsB _⟩ ⟨W.heap.size, heap_alloc_new _ _, rfl⟩
  case body =>
    rintro l pre x a' W hl ⟨r, hr⟩ ⟨⟨v, hv, hrow, _⟩, hB⟩ ⟨Bx, hbx2, rfl⟩ hlen
    have hvc := hv.cell
    have s0 : W.cell? ⟨Bx, 0, none⟩ = some (.slice x.a x.n x.c) := by simp [World.cell?, hbx2]
    have s1 : W.cell? ⟨Bx, 1, none⟩ = some (.slice x.b x.m x.d) := by simp [World.cell?, hbx2]
    have hfl := gflat_snoc pre x
    --A3
    gi_wp2_with (first
      | (gi_at_builtin; refine wpListIn_append_own _ rfl _ _ 73 rfl w.heap.size 64 i0 (.agg #[.slice none 0 0, .slice none 0 0]) 2 48 Try.underlying73 hi hz0 hz1 hz2 rfl (by decide) _ _ _ rfl (hrow.alloc _) ⟨W.heap.size, 0, none⟩ 1 1 (gCells x) rfl rfl (cells_two_new x) (gCells_one x) (by unfold maxLen; omega) (by omega) (by have := hB.size; simp; omega) ?_; intro v' w1 hown' hgrow _; obtain ⟨g', cap', rfl⟩ := ownsRow_succ hown'; obtain ⟨hv1, hv2, hr2, hk2, hb2⟩ := hv.appended (by decide) hrow hB.size (Nat.le_refl _) hown' hgrow; have hc1 := hv1.cell; have hf1 := hv1.frozen)
      | gi_in)
    exact ⟨hk2.from _, hk2.walks, ⟨⟨_, hv2, by rw [hfl, List.length_append]; exact hr2, trivial⟩, hB.trans hb2⟩⟩
  case done =>
    rintro D xs W hD ⟨ks, hks, rfl⟩ ⟨⟨v, hv, hrow, _⟩, hB⟩ hK
    have hvc := hv.cell
    gi_wp2
    refine ⟨by simp, .inl ⟨_, _, rfl, run_takeDeferred hK, ?_⟩⟩
    refine ⟨_, results_tmp rfl _ _ _, v, ks, rfl, hks, ?_, hB.trans (belowK_b (w := w) (Nat.le_refl _) W D _ _ (by simp at hD; omega) hK rfl rfl)⟩
    have := ownsRow_putObj hrow (.deferred none) hK rfl
    simpa [grpsOf] using this
  case stop =>
    rintro D c pre W _ _ h _
    exact h.elim

set_option maxHeartbeats 2000000 in
theorem collect_calls (Bm M c : Nat) (f : List UInt8 → Option Value) (w : World) (hBm : Bm < w.heap.size) (hm : w.cell? ⟨Bm, 0, none⟩ = some (.map (some M))) (hmap : MapS w M f c) (hc : c ≤ 1000) :
    Calls Try.prog 43 #[.func (.func 45) #[] #[.pointer (some ⟨Bm, 0, none⟩)]] w fun e w' => ∃ v ks, e = .returned v ∧ KeysS f ks ∧ w'.ownsRow w.heap.size 64 2 v ks.length ((grpsOf f ks).flatMap gCells) ∧ Up w w' := by
  have hap : Hid (Calls Try.prog 53 #[.slice none 0 0, .func (.func 45) #[] #[.pointer (some ⟨Bm, 0, none⟩)]] w fun e w' => ∃ v ks, e = .returned v ∧ KeysS f ks ∧ w'.ownsRow w.heap.size 64 2 v ks.length ((grpsOf f ks).flatMap gCells) ∧ Below w.heap.size w w') :=
    callsIn_wide.1 (appendSeq_in Fence.wide 3 trivial trivial rfl (Nat.le_refl _) Bm M c f w hBm hm hmap hc)
  clear hm hmap
  go_enter Try.func43, Try.ntmps43
  go_wp2_with fail
  go_at_call 53
  refine hap.out.mono ?_
  rintro _ w1 ⟨v, ks, rfl, h1, h2, h3⟩
  have H1 := hide h1
  have H2 := hide h2
  have H3 : Hid (Up w w1) := h3
  clear h1 h2 h3
  go_wp2
  go_ret
  exact ⟨v, ks, rfl, H1.out, H2.out, H3.out⟩

theorem values_calls (M : Nat) (w : World) : Calls Try.prog 33 #[.map (some M)] w fun e w' => e = .returned (.func (.func 45) #[] #[.pointer (some ⟨w.heap.size, 0, none⟩)]) ∧ w' = w.alloc (.cells #[.map (some M)] 59) := by
  go_enter Try.func33, Try.ntmps33
  go_wp2
  go_ret
  exact ⟨rfl, rfl⟩

end Go.Proofs.Ytofpakpbbpcalaa
