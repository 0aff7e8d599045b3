/-
  slices.Backward of a row of int64, as the library's text runs: a row is gone through from its end, whatever the loop's body does to the blocks of C.
  slices.Index, Contains, IndexFunc and ContainsFunc of a row of int64, as the library's text runs.
  hasTwice of seqidx, as its text runs: it tells whether a row has a number twice.
  What a row is when numbers of it are moved, from the last one on, each right ahead of the one that was moved before: plain.
  Splice, as its text runs: the rows that are asked for go, one by one from the last one on, each right ahead of the one that was moved before.
  Splice where it is refused, as its text runs.
-/
import Derived.Test.YtbnkddnjfkagkaaSqMov
import Derived.RangeFuncWrites
import Derived.RangeFuncNested
import Derived.RangeFuncBound
import Derived.RangeFuncCalls
import Derived.RangeFuncLeaves
import Derived.Shelf.Abstract
import Derived.WalkKit
import Derived.OwnWalkIn
import Derived.TacticsInMore
import Derived.RegionIn
import Derived.LoopNIn
import Derived.LoopIn
namespace Go.Proofs.Ytbnkddnjfkagkaa
open Go.RowKit Go.Shelf
set_option linter.unusedVariables false
set_option maxRecDepth 100000
attribute [local go_sem] Oper.semAt_some

/-- A place of a row and what stands there. -/
abbrev BT (zs : List Int) := { x : Nat × Int // zs[x.1]? = some x.2 }
def bkE (zs : List Int) (j : Nat) : Nat × Int := (zs.length - 1 - j, zs.getD (zs.length - 1 - j) 0)
/-- The first k that come. -/
def bkL (zs : List Int) (k : Nat) : List (Nat × Int) := (List.range k).map (bkE zs)
theorem bkL_succ (zs : List Int) (k : Nat) : bkL zs (k + 1) = bkL zs k ++ [bkE zs k] := by simp [bkL, List.range_succ]
theorem bk_ok {zs : List Int} {k : Nat} (hk : k < zs.length) : zs[(bkE zs k).1]? = some (bkE zs k).2 := by
  have h : zs.length - 1 - k < zs.length := by omega
  show zs[zs.length - 1 - k]? = some (zs.getD (zs.length - 1 - k) 0)
  rw [getD_in zs h, List.getElem?_eq_getElem h]
theorem bkL_vals (zs : List Int) : (bkL zs zs.length).map Prod.snd = zs.reverse := by
  apply List.ext_getElem
  · simp [bkL]
  · intro i h1 h2
    have h3 : i < zs.length := by simpa using h2
    simp [bkL, bkE]
    rw [List.getElem?_eq_getElem (by omega)]
    rfl

set_option maxHeartbeats 2000000 in
theorem back_stops (F : Fence) (n : Nat) (hF : F.fn 64) (hro : F.round = none) (hn : 1 ≤ n) (C : Nat → Prop) (Bs : Nat) (sv : Value) (zs : List Int) (w : World) (hBs : ¬ C Bs) (hc : w.cell? ⟨Bs, 0, none⟩ = some sv) (hr : Rd (Value.int .i64) C w sv zs) (hz : zs.length ≤ 1000) :
    SeqStopsK F n Try.prog 64 #[.pointer (some ⟨Bs, 0, none⟩)] (fun x : BT zs => #[.int .i64 (x.1.1 : Nat), .int .i64 x.1.2]) (Chg C) (fun ys => ys.map Subtype.val = bkL zs zs.length) (fun _ => True) zs.length w := fun l J Jx W hW hJ _ hY h0 => by
  have hcW : Chg C w W := Chg.of_up hW
  have hc' := hcW.cell hc hBs
  have HR := hide (hr.chg hcW)
  obtain ⟨a, m, d, rfl, hm, -⟩ := hr.sliceN
  have HM := hide hm.out
  have HBS := hide hBs
  have hm1 : IntKind.i64.wrap ((m : Int) - 1) = (m : Int) - 1 := by rw [IntKind.wrap_i64]; have := hm.out; omega
  have hmz : m ≤ 1000 := by have := hm.out; omega
  clear hr hcW hm hBs hc hW
  refine callsIn_of_wp Try.func64 rfl hF ?_ hro
  simp only [Try.ntmps64, List.size_toArray, List.length_cons, List.length_nil, Nat.reduceAdd, Nat.reduceSub, Array.replicate_succ, Array.replicate_zero, List.push_toArray, List.append_toArray, List.nil_append, List.cons_append]
  gi_wp2
  gi_loopw [3] (fun i wr => ∃ (k : Nat) (pre : List (BT zs)), k ≤ m ∧ i = .int .i64 ((m : Int) - 1 - (k : Int)) ∧ Hid (pre.map Subtype.val = bkL zs k) ∧ J pre wr ∧ Hid (Chg C W wr)) (fun i _ => (intOf i + 1).toNat)
  case atStart => exact ⟨0, [], Nat.zero_le _, by simp, rfl, h0, Chg.refl _ _⟩
  case round =>
    obtain ⟨k, pre, hk, rfl, hpre, hJs, hch⟩ := hrel
    by_cases hlt : k < m
    · obtain ⟨j, hj⟩ : ∃ j : Nat, j + k + 1 = m := ⟨m - 1 - k, by omega⟩
      have ej : (m : Int) - 1 - (k : Int) = (j : Int) := by omega
      rw [ej]
      have hkz : k < zs.length := by rw [← HM.out]; exact hlt
      have hj1 : (bkE zs k).1 = j := by show zs.length - 1 - k = j; rw [← HM.out]; omega
      obtain ⟨v, hv⟩ : ∃ v, v = (bkE zs k).2 := ⟨_, rfl⟩
      have hjv : zs[j]? = some v := by rw [← hj1, hv]; exact bk_ok hkz
      have hbe : bkE zs k = (j, v) := by rw [← hj1, hv]
      obtain ⟨hjl, hjx⟩ := List.getElem?_eq_some_iff.1 hjv
      obtain ⟨g, o, rfl, hcj⟩ := (HR.out.chg hch.out).get (i := j) hjl
      rw [hjx] at hcj
      have hcs := hch.out.cell hc' HBS.out
      have hpl : pre.length = k := by
        have := congrArg List.length hpre.out
        simpa [bkL] using this
      obtain ⟨fn, tmps, assign, body, hy, hR⟩ := hY pre ⟨(j, v), hjv⟩ wr hJs (by rw [hpl]; exact hkz)
      dsimp only at hy
      have hpre' : Hid ((pre ++ [(⟨(j, v), hjv⟩ : BT zs)]).map Subtype.val = bkL zs (k + 1)) := by
        unfold Hid
        rw [bkL_succ, hbe, List.map_append, hpre.out]; rfl
      have hjm : (j : Int) < (m : Int) := by omega
      have hj0 : (0 : Int) ≤ (j : Int) := by omega
      have HEJ := hide ej
      have HJK := hide hj
      clear hpre hv hbe hjx hj1 ej hj hJs
      gi_wp2
      refine hR.mono ?_
      rintro e W3 (⟨rfl, hJ3, hk3⟩ | ⟨rfl, hJx3⟩)
      · have hch3 : Hid (Chg C W W3) := hch.out.trans hk3 (fun _ _ h => h)
        clear hch hk3 hcj hcs
        gi_wp2
        go_roundw
        case rel => exact ⟨k + 1, _, by omega, by have := HJK.out; simp <;> omega, hpre', hJ3, hch3⟩
        case measure => have := HJK.out; simp [intOf] <;> omega
      · gi_wp2
        (try simp only [Exit.inBlock, Exit.then])
        refine bodyPost_ret (results_none rfl _ _ _) rfl ?_
        exact ⟨⟨_, rfl⟩, .inr ⟨_, trivial, hJx3⟩⟩
    · obtain rfl : k = m := by omega
      have hneg : ¬ ((k : Int) - 1 - (k : Int) ≥ 0) := by omega
      have hneg' : (k : Int) - 1 - (k : Int) = -1 := by omega
      rw [hneg']
      clear hneg hneg'
      gi_wp2
      go_end0
      exact ⟨⟨_, rfl⟩, .inl ⟨pre, by rw [← HM.out]; exact hpre.out, hJs⟩⟩

theorem back_calls (a : Option Addr) (m d : Nat) (w : World) :
    Calls Try.prog 50 #[.slice a m d] w fun e w' => e = .returned (.func (.func 64) #[] #[.pointer (some ⟨w.heap.size, 0, none⟩)]) ∧ w' = w.alloc (.cells #[.slice a m d] 26) := by
  go_enter Try.func50, Try.ntmps50
  go_wp2
  go_ret
  exact ⟨rfl, rfl⟩
end Go.Proofs.Ytbnkddnjfkagkaa

namespace Go.Proofs.Ytbnkddnjfkagkaa
open Go.ChangeShapes Go.WideShapes Go.ChangeAt Go.RowKit
set_option linter.unusedVariables false
set_option maxRecDepth 100000
attribute [local go_sem ↓] Go.wp_at_zero Go.wp_at_succ

set_option maxHeartbeats 2000000 in
theorem index64_calls (v : Value) (zs : List Int) (id : Int) (X : Nat → Prop) (w : World) (h : Rd (Value.int .i64) X w v zs) (hx : zs.length ≤ 100000) (p : Nat) (hp : p ≤ zs.length) (hno : ∀ i, i < p → zs[i]? ≠ some id) (hyes : p < zs.length → zs[p]? = some id) (r : Int) (hr1 : p < zs.length → r = p) (hr2 : ¬ p < zs.length → r = -1) :
    Calls Try.prog 63 #[v, .int .i64 id] w fun e w' => e = .returned (.int .i64 r) ∧ w' = w := by
  obtain ⟨a, n, c, rfl, hn, -⟩ := h.sliceN
  have H := hide h
  have HN := hide hn.out
  clear h hn
  go_enter Try.func63, Try.ntmps63
  have hpn : p ≤ n := by rw [HN.out]; exact hp
  have hn6 : n ≤ 100000 := by rw [HN.out]; exact hx
  have HNO := hide hno
  have HYES := hide hyes
  have HR1 := hide hr1
  have HR2 := hide hr2
  clear hno hyes hp hx hr1 hr2
  go_wp2_with fail
  go_loopw [8] (fun iv wr => ∃ k : Nat, k ≤ p ∧ iv = .int .i64 k ∧ wr = w) (fun iv _ => n - (intOf iv).toNat)
  case atStart => exact ⟨0, Nat.zero_le _, rfl, rfl⟩
  case round =>
    obtain ⟨k, hk, rfl, hw⟩ := hrel
    subst hw
    by_cases hkn : k < n
    · have k0 : (0 : Int) ≤ (k : Int) := by omega
      have k1 : (k : Int) < (n : Int) := by omega
      have hkx : k < zs.length := by rw [← HN.out]; exact hkn
      obtain ⟨g, o, rfl, y0⟩ := H.out.get (i := k) hkx
      obtain ⟨x, hxe⟩ : ∃ x, x = zs[k] := ⟨_, rfl⟩
      have hxk : zs[k]? = some x := by rw [List.getElem?_eq_getElem hkx, hxe]
      rw [← hxe] at y0
      by_cases hkp : k < p
      · have e0 : ¬ id = x := fun e => HNO.out k hkp (by rw [hxk, e])
        clear hxe hxk hkx
        go_wp2
        go_roundw
        case rel => exact ⟨k + 1, by omega, by simp, by simp⟩
        case measure => simp [intOf]; omega
      · obtain rfl : k = p := by omega
        have e0 : id = x := by
          have := HYES.out hkx
          rw [hxk] at this
          injection this with this
          exact this.symm
        have ER := hide (HR1.out hkx)
        subst e0
        clear hxe hxk hkx
        go_wp2
        go_ret
        exact ⟨by rw [ER.out]; rfl, rfl⟩
    · obtain rfl : p = n := by omega
      obtain rfl : k = p := by omega
      have hkx : ¬ k < zs.length := by rw [← HN.out]; exact hkn
      have ER := hide (HR2.out hkx)
      have k1 : ¬ (k : Int) < (k : Int) := by omega
      clear hkx
      go_wp2
      go_ret
      exact ⟨by rw [ER.out]; rfl, rfl⟩
theorem contains64_calls (v : Value) (zs : List Int) (id : Int) (X : Nat → Prop) (w : World) (h : Rd (Value.int .i64) X w v zs) (hx : zs.length ≤ 100000) (b : Bool) (hb : b = decide (id ∈ zs)) :
    Calls Try.prog 48 #[v, .int .i64 id] w fun e w' => e = .returned (.bool b) ∧ w' = w := by
  have hex : ∃ (p : Nat) (r : Int), p ≤ zs.length ∧ (∀ i, i < p → zs[i]? ≠ some id) ∧ (p < zs.length → zs[p]? = some id) ∧ (p < zs.length → r = p) ∧ (¬ p < zs.length → r = -1) ∧ decide (r ≥ 0) = b := by
    subst hb
    by_cases hm : id ∈ zs
    · have hlt := List.idxOf_lt_length_of_mem hm
      refine ⟨zs.idxOf id, ((zs.idxOf id : Nat) : Int), Nat.le_of_lt hlt, fun i hi e => ?_, fun _ => ?_, fun _ => rfl, fun h => absurd hlt h, ?_⟩
      · obtain ⟨h1, h2⟩ := List.getElem?_eq_some_iff.1 e
        have := List.not_of_lt_findIdx (p := (· == id)) (xs := zs) (i := i) hi
        simp [h2] at this
      · rw [List.getElem?_eq_getElem hlt, List.getElem_idxOf]
      · simp [hm]
    · refine ⟨zs.length, -1, Nat.le_refl _, fun i hi e => ?_, fun h => absurd h (Nat.lt_irrefl _), fun h => absurd h (Nat.lt_irrefl _), fun _ => rfl, by simp [hm]⟩
      exact hm (List.mem_of_getElem? e)
  obtain ⟨p, r, h1, h2, h3, h4, h5, h6⟩ := hex
  have HI := hide (index64_calls v zs id X w h hx p h1 h2 h3 r h4 h5)
  obtain ⟨a, n, c, rfl, -, -⟩ := h.sliceN
  clear h h1 h2 h3 h4 h5 hb hx
  go_enter Try.func48, Try.ntmps48
  go_wp2_with fail
  refine HI.out.mono ?_
  rintro _ w1 ⟨rfl, hw1⟩
  subst hw1
  dsimp only
  go_wp2
  go_ret
  exact ⟨by simp, rfl⟩

variable {Y : Nat → Prop} {p0 T M : Nat} {xs : List Int} {h0 n0 : Nat} {f : Int → Option Nat} {w : World}

set_option maxHeartbeats 2000000 in
theorem indexLacks_calls (v : Value) (zs : List Int) (X : Nat → Prop) (ix : SqIx Y p0 T M xs h0 n0 f w) (h : Rd (Value.int .i64) X w v zs) (hwf : ∀ z ∈ zs, wf64 z) (hx : zs.length ≤ 100000) (p : Nat) (hp : p ≤ zs.length) (hno : ∀ i, i < p → ∀ z, zs[i]? = some z → z ∈ xs) (hyes : ∀ z, zs[p]? = some z → z ∉ xs) (r : Int) (hr1 : p < zs.length → r = p) (hr2 : ¬ p < zs.length → r = -1) :
    Calls Try.prog 61 #[v, .func (.func 47) #[.pointer (some ⟨p0, 0, none⟩)] #[]] w fun e w' => e = .returned (.int .i64 r) ∧ w' = w := by
  obtain ⟨a, n, c, rfl, hn, -⟩ := h.sliceN
  have H := hide h
  have HN := hide hn.out
  have IX := hide ix
  have HW := hide hwf
  clear h hn ix hwf
  go_enter Try.func61, Try.ntmps61
  have hpn : p ≤ n := by rw [HN.out]; exact hp
  have hn6 : n ≤ 100000 := by rw [HN.out]; exact hx
  have HNO := hide hno
  have HYES := hide hyes
  have HR1 := hide hr1
  have HR2 := hide hr2
  clear hno hyes hp hx hr1 hr2
  go_wp2_with fail
  go_loopw [8] (fun iv wr => ∃ k : Nat, k ≤ p ∧ iv = .int .i64 k ∧ wr = w) (fun iv _ => n - (intOf iv).toNat)
  case atStart => exact ⟨0, Nat.zero_le _, rfl, rfl⟩
  case round =>
    obtain ⟨k, hk, rfl, hw⟩ := hrel
    subst hw
    by_cases hkn : k < n
    · have k0 : (0 : Int) ≤ (k : Int) := by omega
      have k1 : (k : Int) < (n : Int) := by omega
      have hkx : k < zs.length := by rw [← HN.out]; exact hkn
      obtain ⟨g, o, rfl, y0⟩ := H.out.get (i := k) hkx
      obtain ⟨x, hxe⟩ : ∃ x, x = zs[k] := ⟨_, rfl⟩
      have hxk : zs[k]? = some x := by rw [List.getElem?_eq_getElem hkx, hxe]
      have hwx := HW.out x (by rw [hxe]; exact List.getElem_mem hkx)
      rw [← hxe] at y0
      by_cases hkp : k < p
      · have HC := hide (lacks_calls x IX.out hwx false (by simp [HNO.out k hkp x hxk]))
        clear hxe hxk hkx hwx
        go_wp2_with fail
        refine HC.out.mono ?_
        rintro _ w5 ⟨rfl, hw5⟩
        subst hw5
        dsimp only
        go_wp2
        go_roundw
        case rel => exact ⟨k + 1, by omega, by simp, by simp⟩
        case measure => simp [intOf]; omega
      · obtain rfl : k = p := by omega
        have HC := hide (lacks_calls x IX.out hwx true (by simp [HYES.out x hxk]))
        have ER := hide (HR1.out hkx)
        clear hxe hxk hkx hwx
        go_wp2_with fail
        refine HC.out.mono ?_
        rintro _ w5 ⟨rfl, hw5⟩
        subst hw5
        dsimp only
        go_wp2
        go_ret
        exact ⟨by rw [ER.out]; rfl, rfl⟩
    · obtain rfl : p = n := by omega
      obtain rfl : k = p := by omega
      have hkx : ¬ k < zs.length := by rw [← HN.out]; exact hkn
      have ER := hide (HR2.out hkx)
      have k1 : ¬ (k : Int) < (k : Int) := by omega
      clear hkx
      go_wp2
      go_ret
      exact ⟨by rw [ER.out]; rfl, rfl⟩
theorem first_not (zs xs : List Int) : ∃ p, p ≤ zs.length ∧ (∀ i, i < p → ∀ z, zs[i]? = some z → z ∈ xs) ∧ (∀ z, zs[p]? = some z → z ∉ xs) ∧ (p < zs.length ↔ ¬ ∀ z ∈ zs, z ∈ xs) := by
  induction zs with
  | nil => exact ⟨0, Nat.le_refl _, fun i hi => absurd hi (Nat.not_lt_zero _), fun z hz => by simp at hz, by simp⟩
  | cons y zs ih =>
    by_cases hy : y ∈ xs
    · obtain ⟨p, h1, h2, h3, h4⟩ := ih
      refine ⟨p + 1, by simp; omega, fun i hi z hz => ?_, fun z hz => h3 z (by simpa using hz), ?_⟩
      · cases i with
        | zero => simp at hz; rw [← hz]; exact hy
        | succ i => exact h2 i (by omega) z (by simpa using hz)
      · have : p + 1 < (y :: zs).length ↔ p < zs.length := by simp
        rw [this, h4]
        simp [hy]
    · exact ⟨0, Nat.zero_le _, fun i hi => absurd hi (Nat.not_lt_zero _), fun z hz => by simp at hz; rw [← hz]; exact hy, by simp [hy]⟩
theorem containsLacks_calls (v : Value) (zs : List Int) (X : Nat → Prop) (ix : SqIx Y p0 T M xs h0 n0 f w) (h : Rd (Value.int .i64) X w v zs) (hwf : ∀ z ∈ zs, wf64 z) (hx : zs.length ≤ 100000) (b : Bool) (hb : b = decide (¬ ∀ z ∈ zs, z ∈ xs)) :
    Calls Try.prog 46 #[v, .func (.func 47) #[.pointer (some ⟨p0, 0, none⟩)] #[]] w fun e w' => e = .returned (.bool b) ∧ w' = w := by
  obtain ⟨p, h1, h2, h3, h4⟩ := first_not zs xs
  obtain ⟨r, hr1, hr2⟩ : ∃ r : Int, (p < zs.length → r = p) ∧ (¬ p < zs.length → r = -1) := by
    by_cases hp : p < zs.length
    · exact ⟨p, fun _ => rfl, fun h => absurd hp h⟩
    · exact ⟨-1, fun h => absurd h hp, fun _ => rfl⟩
  have h6 : decide (r ≥ 0) = b := by
    subst hb
    by_cases hp : p < zs.length
    · rw [hr1 hp, decide_eq_true (h4.1 hp)]; simp
    · rw [hr2 hp, decide_eq_false (fun e => hp (h4.2 e))]; simp
  have HI := hide (indexLacks_calls v zs X ix h hwf hx p h1 h2 h3 r hr1 hr2)
  obtain ⟨a, n, c, rfl, -, -⟩ := h.sliceN
  clear h h1 h2 h3 h4 hr1 hr2 hb hx hwf ix
  go_enter Try.func46, Try.ntmps46
  go_wp2_with fail
  refine HI.out.mono ?_
  rintro _ w1 ⟨rfl, hw1⟩
  subst hw1
  dsimp only
  go_wp2
  go_ret
  exact ⟨by simp, rfl⟩
end Go.Proofs.Ytbnkddnjfkagkaa

namespace Go.Proofs.Ytbnkddnjfkagkaa
open Go.ChangeShapes Go.WideShapes Go.ChangeAt Go.RowKit Go.Maps
set_option linter.unusedVariables false
set_option maxRecDepth 100000
attribute [local go_sem ↓] Go.wp_at_zero Go.wp_at_succ

def isUnit : Value → Bool
  | .agg cs => cs.size == 0
  | _ => false
def unitE (v : Value) : Option (DataW Value × List MemPlace) := if isUnit v then some (.held v, []) else none
theorem unitE_unit : unitE (.agg #[]) = some (.held (.agg #[]), []) := rfl
/-- Block M is a map that has just the numbers of zs, c of them. -/
def MapE (w : World) (M : Nat) (zs : List Int) (c : Nat) : Prop :=
  ∃ D : DataW Value, w.ownsMap Try.prog 2 unitE M c D ∧ Maps.size D = c ∧ ∀ x, Maps.has D (.int .i64 x) = decide (x ∈ zs)
theorem MapE.made (w : World) : MapE (w.alloc (.map #[] 0)) w.heap.size [] 0 :=
  ⟨.map [], World.ownsMap_made _ _ _ _, rfl, fun x => by simp; rfl⟩
theorem MapE.store {w : World} {M c : Nat} {zs : List Int} (h : MapE w M zs c) {x : Int} (hw : wf64 x) (hc : c < 1000000) (c' : Nat) (hc' : c' = if x ∈ zs then c else c + 1) :
    ∃ w', (Instr.mapUpdate 86 (.map (some M)) (.int .i64 x) (.agg #[])).run Try.prog w = .ok () w' ∧ MapE w' M (zs ++ [x]) c' ∧ Chg (fun y => y = M) w w' := by
  obtain ⟨D, ho, hs, ha⟩ := h
  obtain ⟨w', hrun, ho', ht⟩ := ho.store law64 Try.underlying86 (by unfold maxLen; omega) (keyOf_int_mk Try.underlying2 hw) unitE_unit
  have h0 := ha x
  have hsz : Maps.size (D.put (.int .i64 x) (.held (.agg #[]))) = c' := by
    rw [size_put (ho.tidy law64), h0, hs, hc']
    by_cases hx : x ∈ zs <;> simp [hx]
  have ho2 : w'.ownsMap Try.prog 2 unitE M c' (D.put (.int .i64 x) (.held (.agg #[]))) := by
    obtain ⟨es, clock, hb, F, hle, e⟩ := ho'
    refine ⟨es, clock, hb, F, ?_, e⟩
    rw [← hsz, e]
    simp [Maps.size, length_sorted]
  refine ⟨w', hrun, ⟨_, ho2, hsz, fun y => ?_⟩, chg_turned ht⟩
  by_cases hy : y = x
  · subst hy
    rw [has_put_same ho.isMap (key_lit hw)]
    simp
  · have hne : Lit.int .i64 y ≠ Lit.int .i64 x := fun e => hy (by cases e; rfl)
    rw [has_put_other hne, ha y]
    simp [hy]
theorem MapE.len {w : World} {M c : Nat} {zs : List Int} (h : MapE w M zs c) (ty : TypeId) : (Builtin.len_ #[86] ty #[.map (some M)]).run Try.prog w = .ok (.int .i64 c) w := by
  obtain ⟨D, ho, hs, ha⟩ := h
  rw [ho.len Try.underlying86 ty, hs]
/-- How many of them are unlike one another, told by whether none is there twice. -/
def CntE (zs : List Int) (c : Nat) : Prop := c ≤ zs.length ∧ (c = zs.length ↔ zs.Nodup)
theorem CntE.step {zs : List Int} {c : Nat} (h : CntE zs c) (x : Int) : CntE (zs ++ [x]) (if x ∈ zs then c else c + 1) := by
  obtain ⟨h1, h2⟩ := h
  by_cases hx : x ∈ zs
  · rw [if_pos hx]
    refine ⟨by simp; omega, fun e => by simp at e; omega, fun e => ?_⟩
    rw [List.nodup_append] at e
    exact absurd rfl (e.2.2 x hx x (by simp))
  · rw [if_neg hx]
    refine ⟨by simp; omega, fun e => ?_, fun e => ?_⟩
    · have e1 : c = zs.length := by simpa using e
      rw [List.nodup_append]
      exact ⟨h2.1 e1, by simp, fun a ha b hb => by simp at hb; subst hb; exact fun e => hx (e ▸ ha)⟩
    · rw [List.nodup_append] at e
      simp [h2.2 e.1]
set_option maxHeartbeats 2000000 in
theorem hasTwice_calls (v : Value) (zs : List Int) (w : World) (h : Rd (Value.int .i64) (fun _ => False) w v zs) (hwf : ∀ z ∈ zs, wf64 z) (hx : zs.length ≤ 1000) (b : Bool) (hb : b = decide (¬ zs.Nodup)) :
    Calls Try.prog 49 #[v] w fun e w' => e = .returned (.bool b) ∧ Up w w' := by
  obtain ⟨a, n, c, rfl, hn, -⟩ := h.sliceN
  have H := hide h
  have HN := hide hn.out
  have HW := hide hwf
  have HB := hide hb
  have hn6 : n ≤ 1000 := by rw [HN.out]; exact hx
  obtain ⟨W, hW⟩ : ∃ W, W = w.alloc (.map #[] 0) := ⟨_, rfl⟩
  have HU : Hid (Up w W) := by rw [hW]; exact (Up.refl _).alloc _
  have HM : Hid (MapE W w.heap.size [] 0) := by rw [hW]; exact MapE.made w
  have hW' := hW.symm
  clear h hn hwf hb hx hW
  have hmm := @run_makeMap Try.prog
  go_enter Try.func49, Try.ntmps49
  go_wp2_with fail
  clear hmm hW'
  go_loopw [9] (fun iv wr => ∃ k c : Nat, k ≤ n ∧ iv = .int .i64 k ∧ Hid (MapE wr w.heap.size (zs.take k) c) ∧ Hid (CntE (zs.take k) c) ∧ Hid (Up w wr)) (fun iv _ => n - (intOf iv).toNat)
  case atStart => exact ⟨0, 0, Nat.zero_le _, rfl, by simpa using HM, by simp [CntE, Hid], HU⟩
  case round =>
    obtain ⟨k, m, hk, rfl, hme, hcn, hu⟩ := hrel
    by_cases hkn : k < n
    · have k0 : (0 : Int) ≤ (k : Int) := by omega
      have k1 : (k : Int) < (n : Int) := by omega
      have hkx : k < zs.length := by rw [← HN.out]; exact hkn
      obtain ⟨g, o, rfl, y0⟩ := (H.out.up hu.out).get (i := k) hkx
      obtain ⟨x, hxe⟩ : ∃ x, x = zs[k] := ⟨_, rfl⟩
      have hwx := HW.out x (by rw [hxe]; exact List.getElem_mem hkx)
      have htk : zs.take (k + 1) = zs.take k ++ [x] := by rw [List.take_add_one, List.getElem?_eq_getElem hkx, hxe]; rfl
      have hml : m < 1000000 := by
        have := hcn.out.1
        rw [List.length_take] at this
        omega
      obtain ⟨w6, hrun, hme', hch⟩ := hme.out.store hwx hml _ rfl
      have HME : Hid (MapE w6 w.heap.size (zs.take (k + 1)) (if x ∈ zs.take k then m else m + 1)) := by rw [htk]; exact hme'
      have HCN : Hid (CntE (zs.take (k + 1)) (if x ∈ zs.take k then m else m + 1)) := by rw [htk]; exact hcn.out.step x
      have HU6 : Hid (Up w w6) := (Chg.of_up (C := fun y => y = w.heap.size) hu.out |>.trans hch (fun _ _ h => h)).up (fun y hy e => by omega)
      rw [← hxe] at y0
      clear hxe hwx htk hml hme' hch hkx
      go_wp2
      go_roundw
      case rel => exact ⟨k + 1, _, by omega, by simp, HME, HCN, HU6⟩
      case measure => simp [intOf]; omega
    · obtain rfl : k = n := by omega
      have k1 : ¬ (k : Int) < (k : Int) := by omega
      have hlen := fun ty => hme.out.len ty
      have hfin : decide (m < k) = b := by
        rw [HB.out]
        have := hcn.out
        rw [show zs.take k = zs by rw [HN.out, List.take_length]] at this
        obtain ⟨h1, h2⟩ := this
        rw [← HN.out] at h1 h2
        by_cases hd : zs.Nodup
        · rw [decide_eq_false (by have := h2.2 hd; omega), decide_eq_false (fun e => e hd)]
        · have : m ≠ k := fun e => hd (h2.1 e)
          rw [decide_eq_true (by omega), decide_eq_true hd]
      have HF := hide hfin
      clear hfin
      go_wp2
      go_ret
      exact ⟨by rw [← HF.out]; rfl, hu.out⟩
end Go.Proofs.Ytbnkddnjfkagkaa

namespace Go.Proofs.Ytbnkddnjfkagkaa
set_option linter.unusedVariables false

theorem insL_mid (v : Int) (X Y : List Int) : insL v (X ++ Y) X.length = X ++ v :: Y := by unfold insL; rw [List.take_left, List.drop_left]
theorem delL_mid (z : Int) (X Y : List Int) : delL (X ++ z :: Y) X.length = X ++ Y := by
  unfold delL
  rw [List.take_left, List.drop_append]
  simp
/-- One move: the number z of the row A ++ S goes right ahead of S. -/
theorem shL_split {A S : List Int} {z : Int} {a : Nat} (hn : (A ++ S).Nodup) (ha : (A ++ S)[a]? = some z) :
    shL (A ++ S) a A.length = A.erase z ++ z :: S.erase z ∧ shN a A.length = (A.erase z).length := by
  obtain ⟨hl, hz⟩ := List.getElem?_eq_some_iff.1 ha
  have hd := List.nodup_append.1 hn
  have hxs : (A ++ S).getD a 0 = z := by rw [List.getD_eq_getElem?_getD, ha]; rfl
  by_cases h : a < A.length
  · have haz : A[a]? = some z := by rw [← ha, List.getElem?_append_left h]
    have hzA : z ∈ A := List.mem_of_getElem? haz
    have hzS : z ∉ S := fun e => hd.2.2 z hzA z e rfl
    obtain ⟨P, Q, rfl, hP⟩ : ∃ P Q, A = P ++ z :: Q ∧ P.length = a := by
      refine ⟨A.take a, A.drop (a + 1), ?_, by rw [List.length_take]; omega⟩
      have : A[a] = z := (List.getElem?_eq_some_iff.1 haz).2
      rw [← this, List.getElem_cons_drop, List.take_append_drop]
    have hzP : z ∉ P := fun e => (List.nodup_append.1 hd.1).2.2 z e z (by simp) rfl
    have e1 : (P ++ z :: Q).erase z = P ++ Q := by rw [List.erase_append_right _ hzP]; simp
    have e2 : S.erase z = S := List.erase_of_not_mem hzS
    have hs : shN a (P ++ z :: Q).length = (P ++ Q).length := by
      unfold shN; rw [if_pos h]; simp
    rw [e1, e2]
    refine ⟨?_, hs⟩
    have hdl : delL (P ++ z :: Q ++ S) a = P ++ Q ++ S := by
      rw [← hP, show P ++ z :: Q ++ S = P ++ z :: (Q ++ S) by simp, delL_mid]
      simp
    unfold shL
    rw [hxs, hs, hdl]
    split
    · rename_i hq
      have : Q = [] := by
        have : (P ++ Q).length = P.length := by rw [hq, hP]
        simpa using this
      subst this
      simp
    · rw [insL_mid]
  · have hla : a - A.length < S.length := by
      rw [List.length_append] at hl; omega
    have haz : S[a - A.length]? = some z := by rw [← ha, List.getElem?_append_right (by omega)]
    have hzS : z ∈ S := List.mem_of_getElem? haz
    have hzA : z ∉ A := fun e => hd.2.2 z e z hzS rfl
    obtain ⟨P, Q, rfl, hP⟩ : ∃ P Q, S = P ++ z :: Q ∧ P.length = a - A.length := by
      refine ⟨S.take (a - A.length), S.drop (a - A.length + 1), ?_, by rw [List.length_take]; omega⟩
      have : S[a - A.length] = z := (List.getElem?_eq_some_iff.1 haz).2
      rw [← this, List.getElem_cons_drop, List.take_append_drop]
    have hzP : z ∉ P := fun e => (List.nodup_append.1 hd.2.1).2.2 z e z (by simp) rfl
    have e1 : (P ++ z :: Q).erase z = P ++ Q := by rw [List.erase_append_right _ hzP]; simp
    have e2 : A.erase z = A := List.erase_of_not_mem hzA
    have hs : shN a A.length = A.length := by unfold shN; rw [if_neg h]
    rw [e1, e2]
    refine ⟨?_, hs⟩
    have hdl : delL (A ++ (P ++ z :: Q)) a = A ++ (P ++ Q) := by
      have : a = (A ++ P).length := by rw [List.length_append]; omega
      rw [this, show A ++ (P ++ z :: Q) = (A ++ P) ++ z :: Q by simp, delL_mid]
      simp
    unfold shL
    rw [hxs, hs, hdl]
    split
    · rename_i hq
      have : P = [] := by
        have : P.length = 0 := by omega
        exact List.length_eq_zero_iff.1 this
      subst this
      simp
    · rw [insL_mid]
/-- The row and the place behind one move. -/
def stp (s : List Int × Nat) (z : Int) : List Int × Nat := (shL s.1 (s.1.idxOf z) s.2, shN (s.1.idxOf z) s.2)
def offL (zs A : List Int) : List Int := A.filter (fun x => decide (x ∉ zs))
theorem offL_mem {zs A : List Int} {x : Int} : x ∈ offL zs A ↔ x ∈ A ∧ x ∉ zs := by unfold offL; rw [List.mem_filter]; simp
theorem offL_cons {zs A : List Int} {z : Int} (hn : A.Nodup) : (offL zs A).erase z = offL (z :: zs) A := by
  have h1 : (offL zs A).Nodup := hn.filter _
  rw [h1.erase_eq_filter]
  unfold offL
  rw [List.filter_filter]
  congr 1
  funext x
  by_cases h2 : x = z <;> by_cases h3 : x ∈ zs <;> simp [h2, h3]
theorem stp_all {A S zs : List Int} (hn : (A ++ S).Nodup) (hz : zs.Nodup) (hin : ∀ z ∈ zs, z ∈ A ++ S) :
    zs.reverse.foldl stp (A ++ S, A.length) = (offL zs A ++ (zs ++ offL zs S), (offL zs A).length) := by
  have hd := List.nodup_append.1 hn
  induction zs with
  | nil =>
    have e : ∀ l : List Int, offL [] l = l := fun l => by unfold offL; simp
    simp [e]
  | cons z zs ih =>
    have hz' := List.nodup_cons.1 hz
    rw [List.reverse_cons, List.foldl_append, ih hz'.2 (fun y hy => hin y (List.mem_cons_of_mem _ hy))]
    have hn2 : (offL zs A ++ (zs ++ offL zs S)).Nodup := by
      rw [List.nodup_append, List.nodup_append]
      refine ⟨hd.1.filter _, ⟨hz'.2, hd.2.1.filter _, fun a ha b hb e => ?_⟩, fun a ha b hb e => ?_⟩
      · subst e; exact (offL_mem.1 hb).2 ha
      · subst e
        rcases List.mem_append.1 hb with h | h
        · exact (offL_mem.1 ha).2 h
        · exact hd.2.2 a (offL_mem.1 ha).1 a (offL_mem.1 h).1 rfl
    have hzm : z ∈ offL zs A ++ (zs ++ offL zs S) := by
      rcases List.mem_append.1 (hin z (by simp)) with h | h
      · exact List.mem_append_left _ (offL_mem.2 ⟨h, hz'.1⟩)
      · exact List.mem_append_right _ (List.mem_append_right _ (offL_mem.2 ⟨h, hz'.1⟩))
    have hlt := List.idxOf_lt_length_of_mem hzm
    obtain ⟨h1, h2⟩ := shL_split hn2 (a := (offL zs A ++ (zs ++ offL zs S)).idxOf z) (z := z) (by rw [List.getElem?_eq_getElem hlt, List.getElem_idxOf])
    show stp _ z = _
    unfold stp
    dsimp only
    rw [h1, h2, offL_cons hd.1, List.erase_append_right _ hz'.1, offL_cons hd.2.1]
    simp
end Go.Proofs.Ytbnkddnjfkagkaa

namespace Go.Proofs.Ytbnkddnjfkagkaa
open Go.RowKit Go.Shelf
set_option linter.unusedVariables false
set_option maxRecDepth 100000
attribute [local go_sem] Oper.semAt_some

/-- Blocks that are no cells. -/
def NC (w : World) (y : Nat) : Prop := ∃ o : Obj, w.heap[y]? = some o ∧ o.isCells = false
theorem cell_nc {w : World} {p : Addr} {v : Value} (h : w.cell? p = some v) : ¬ NC w p.block := by
  rintro ⟨o, ho, hc⟩
  unfold World.cell? at h
  rw [ho] at h
  cases o <;> simp_all [Obj.isCells]
theorem NodeC.nc {X : Nat → Prop} {w : World} {b : Nat} {ve vb : Value} {n : Nat} (h : NodeC X w b ve vb n) : NodeC (fun y => X y ∨ NC w y) w b ve vb n := ⟨fun e => e.elim h.1 (cell_nc h.2.1), h.2⟩
theorem Rd.nc {α : Type} {enc : α → Value} {X : Nat → Prop} {w : World} {v : Value} {l : List α} (h : Rd enc X w v l) : Rd enc (fun y => X y ∨ NC w y) w v l := by
  obtain ⟨a, cap, h1, h2, h3, h4⟩ := h
  refine ⟨a, cap, h1, h2, h3, ?_⟩
  by_cases hl : l = []
  · exact .inl hl
  · rcases h4 with h4 | ⟨g, off, h5, hx, h6⟩
    · exact absurd h4 hl
    · refine .inr ⟨g, off, h5, fun e => e.elim hx ?_, h6⟩
      cases l with
      | nil => exact absurd rfl hl
      | cons x l => exact cell_nc (h6 0 _ rfl)
theorem Nd.nc {α : Type} {enc : α → Value} {X : Nat → Prop} {w : World} : ∀ {h b : Nat} {xs : List α} {s : Nat}, Nd enc X w h b xs s → Nd enc (fun y => X y ∨ NC w y) w h b xs s
  | 0, b, xs, s, ⟨ve, vb, h1, h2, h3⟩ => ⟨ve, vb, h1.nc, h2.nc, h3⟩
  | h + 1, b, xs, s, ⟨ve, vb, L, h1, h2, h3, h4, h5⟩ => ⟨ve, vb, L, h1.nc, h2, h3.nc, fun q hq => by
      obtain ⟨t, t1, t2, t3⟩ := h4 q hq
      exact ⟨t, t1, t2, Nd.nc t3⟩, h5⟩
variable {Y : Nat → Prop} {p q T M r : Nat} {xs zs : List Int} {h n : Nat} {f : Int → Option Nat} {w w' : World}
theorem TrM.row (t : TrM Y w T xs h n) (hc : Chg (fun y => y = r) w w') (hr : NC w r) : TrM Y w' T xs h n := by
  obtain ⟨b, h1, s, h2, h3⟩ := t
  refine ⟨b, h1.chg hc (fun e => ?_), s, (h2.nc.chg (hc.mono (fun y _ e => .inr (by rw [e]; exact hr)))).mono (fun y _ e => .inl e), h3⟩
  subst e
  exact cell_nc h1.c0 hr
/-- A block that is no cells has turned. -/
theorem SqIx.row (i : SqIx Y q T M xs h n f w) (hc : Chg (fun y => y = r) w w') (hr : NC w r) (hM : M ≠ r) : SqIx Y q T M xs h n f w' := by
  obtain ⟨p, c, ix⟩ := i.ex
  have hne : ∀ {g o : Nat} {v : Value}, w.cell? ⟨g, o, none⟩ = some v → g ≠ r := fun hg e => cell_nc hg (by rw [e]; exact hr)
  exact ⟨⟨p, hc.cell c (hne c), ⟨hc.cell ix.c0 (hne ix.c0), hc.cell ix.c1 (hne ix.c1), ix.tr.row hc hr, ix.mp.chg hc hM, ix.ok, ix.pT, ix.MT, ix.pM, ix.yT, ix.yM, ix.yp, fun g hg => Nat.lt_of_lt_of_le (ix.yl g hg) hc.size⟩⟩, i.qT, i.qM, i.yq⟩
theorem keepsFrom_chg {B : Nat} {C : Nat → Prop} {W W' : World} (hc : Chg C W W') (hC : ∀ k, B ≤ k → ¬ C k) : KeepsFrom B W W' :=
  ⟨hc.size, fun k o hB hk ho => (hc.2 k (by
    rcases Nat.lt_or_ge k W.heap.size with h | h
    · exact h
    · rw [Array.getElem?_eq_none h] at hk; cases hk) (hC k hB)).trans hk⟩
theorem chg_row {W W' : World} {row : Option Nat} (hg : W.grownBy W' row) : Chg (fun y => row = some y) W W' :=
  ⟨⟨hg.os, hg.tape, hg.output, hg.size, fun k hk => absurd hk (Nat.not_lt_zero k)⟩, fun y hy hne => hg.block y hy (fun e => hne e.symm)⟩
theorem shL_len {xs : List Int} {a t : Nat} (ha : a < xs.length) (ht : t ≤ xs.length) : (shL xs a t).length = xs.length := by
  unfold shL
  split
  · rfl
  · have h1 := delL_len xs a ha
    have h2 := shN_lt ha ht
    rw [insL_len _ _ _ (by omega)]
    exact h1
theorem shL_mem {xs : List Int} {a t : Nat} (hn : xs.Nodup) (ha : a < xs.length) {x : Int} : x ∈ shL xs a t ↔ x ∈ xs := by
  unfold shL
  split
  · exact Iff.rfl
  · rw [insL_mem, delL_mem ha hn, getD_in xs ha]
    constructor
    · rintro (h | h)
      · rw [h]; exact List.getElem_mem ha
      · exact h.1
    · intro h
      by_cases e : x = xs[a]
      · exact .inl e
      · exact .inr ⟨h, e⟩
/-- The blocks that a round of Splice may turn. -/
def CS (T M bt B : Nat) : Nat → Prop := fun y => ((y = T ∨ y = M) ∨ y = bt) ∨ B ≤ y
/-- What holds between two rounds of Splice. -/
def SpI (Y : Nat → Prop) (q T M : Nat) (xs0 : List Int) (t0 n0 K bx bt : Nat) (zs : List Int) (w0 : World) (pre : List (BT zs)) (W : World) : Prop :=
  (∃ (xs' : List Int) (tt h' k : Nat) (f' : Int → Option Nat), SqIx (fun y => Y y ∨ y = bt) q T M xs' h' (n0 + k) f' W ∧ (xs', tt) = (pre.map (fun x => x.1.2)).foldl stp (xs0, t0) ∧ k ≤ pre.length * K ∧ xs'.length = xs0.length ∧ (∀ z, z ∈ xs' ↔ z ∈ xs0) ∧ tt ≤ xs'.length ∧
    W.cell? ⟨bt, 0, none⟩ = some (.int .i64 tt)) ∧ W.frozen? ⟨bt, 0, none⟩ = false ∧ W.cell? ⟨bx, 0, none⟩ = some (.pointer (some ⟨q, 0, none⟩)) ∧ Chg (CS T M bt w0.heap.size) w0 W
theorem spI_own {Y : Nat → Prop} {q T M : Nat} {xs0 : List Int} {t0 n0 K bx bt : Nat} {zs : List Int} {w0 : World} (hM : M < w0.heap.size) (hbt : bt < w0.heap.size) : OwnFrom w0.heap.size (SpI Y q T M xs0 t0 n0 K bx bt zs w0) := by
  rintro s W W' row ⟨⟨xs', tt, h', k, f', i1, i2, i3, i4, i5, i6, i7⟩, j1, j2, j3⟩ hg hr
  cases row with
  | none =>
    have hu : Up W W' := (chg_row hg).up (fun x hx e => by cases e)
    exact ⟨⟨xs', tt, h', k, f', i1.up hu, i2, i3, i4, i5, i6, hu.cell i7⟩, (hu.frozen (p := ⟨bt, 0, none⟩) (Nat.lt_of_lt_of_le hbt j3.size)).trans j1, hu.cell j2, j3.andUp hu⟩
  | some r =>
    obtain ⟨hB, o, ho, hc⟩ := hr r rfl
    have hch : Chg (fun y => y = r) W W' := (chg_row hg).mono (fun y _ e => by cases e; rfl)
    have hnc : NC W r := ⟨o, ho, hc⟩
    refine ⟨⟨xs', tt, h', k, f', i1.row hch hnc (by omega), i2, i3, i4, i5, i6, hch.cell i7 (by show ¬ bt = r; omega)⟩, (hch.frozen (p := ⟨bt, 0, none⟩) (Nat.lt_of_lt_of_le hbt j3.size) (by show ¬ bt = r; omega)).trans j1, hch.cell j2 (fun e => cell_nc j2 (by show NC W bx; rw [show bx = r from e]; exact hnc)), j3.trans hch (fun x _ e => by rw [e]; exact .inr hB)⟩
theorem stp_step {xs0 : List Int} {t0 : Nat} {xs' : List Int} {tt : Nat} {zs : List Int} {pre : List (BT zs)} (x : BT zs) (h : (xs', tt) = (pre.map (fun x => x.1.2)).foldl stp (xs0, t0)) : (shL xs' (xs'.idxOf x.1.2) tt, shN (xs'.idxOf x.1.2) tt) = ((pre ++ [x]).map (fun x => x.1.2)).foldl stp (xs0, t0) := by
  rw [List.map_append, List.foldl_append, ← h]
  rfl
theorem tm_cell2 {T M sb o : Nat} {W w' : World} {v : Value} (hc : Chg (TM T M) W w') (h : W.cell? ⟨sb, o, none⟩ = some v) (sT : sb ≠ T) (sM : sb ≠ M) : w'.cell? ⟨sb, o, none⟩ = some v :=
  hc.cell h (fun e => by rcases e with e | e; exact sT e; exact sM e)
set_option maxHeartbeats 4000000 in
theorem splice_ok (v : Value) (zs : List Int) (b : Int) (t : Nat) (hY : ∀ y, Y y → y < w.heap.size) (ix : SqIx Y q T M xs h n f w) (hr : Rd (Value.int .i64) (TM T M) w v zs) (hwf : ∀ z ∈ zs, wf64 z) (ht : TgtAt xs b t) (hwb : wf64 b) (hin : ∀ z ∈ zs, z ∈ xs) (hb : b ∉ zs) (hnd : zs.Nodup) (hx : xs.length ≤ 1000) (hzl : zs.length ≤ 1000) (hn : n ≤ 1000000) :
    Calls Try.prog 17 #[.pointer (some ⟨q, 0, none⟩), v, .int .i64 b] w fun e w' => e = .returned (.int .i64 0) ∧ SqDone Y q T M (zs.reverse.foldl stp (xs, t)).1 n (zs.length * (16 * bitsN (xs.length + 1))) w w' := by
  refine (callsIn_wide (n := 6)).1 ?_
  refine callsIn_of_wp_marks Try.func17 rfl trivial ?_ rfl
  simp only [Try.ntmps17, List.size_toArray, List.length_cons, List.length_nil, Nat.reduceAdd, Nat.reduceSub, Array.replicate_succ, Array.replicate_zero, List.push_toArray, List.append_toArray, List.nil_append, List.cons_append]
  obtain ⟨bx, hbx⟩ : ∃ bx, bx = w.heap.size := ⟨_, rfl⟩
  obtain ⟨wa, hwa⟩ : ∃ wa, wa = w.alloc (.cells #[.pointer (some ⟨q, 0, none⟩)] 24) := ⟨_, rfl⟩
  have ua : Up w wa := by rw [hwa]; exact (Up.refl _).alloc _
  have ca : wa.cell? ⟨bx, 0, none⟩ = some (.pointer (some ⟨q, 0, none⟩)) := by rw [hwa, hbx]; go_simp
  have sa : wa.heap.size = w.heap.size + 1 := by rw [hwa]; simp
  have HTG := hide (target_yes b t (ix.up ua) ht hx)
  have HLK : Hid (∀ w', Up w w' → Calls Try.prog 46 #[v, .func (.func 47) #[.pointer (some ⟨q, 0, none⟩)] #[]] w' fun e w'' => e = .returned (.bool false) ∧ w'' = w') := fun w' hu => containsLacks_calls v zs (TM T M) (ix.up hu) (hr.up hu) hwf (by omega) false (by symm; exact decide_eq_false (fun e => e hin))
  have HCN : Hid (∀ w', Up w w' → Calls Try.prog 48 #[v, .int .i64 b] w' fun e w'' => e = .returned (.bool false) ∧ w'' = w') := fun w' hu => contains64_calls v zs b (TM T M) w' (hr.up hu) (by omega) false (by symm; exact decide_eq_false hb)
  have HTW : Hid (∀ w', Up w w' → Calls Try.prog 49 #[v] w' fun e w'' => e = .returned (.bool false) ∧ Up w' w'') := fun w' hu => hasTwice_calls v zs w' ((hr.up hu).mono (fun _ _ h => h.elim)) hwf (by omega) false (by symm; exact decide_eq_false (fun e => e hnd))
  have HWA := hide hwa
  have HBX := hide hbx
  have HUA := hide ua
  have HCA := hide ca
  have HSA := hide sa
  have HIX := hide ix
  have HR := hide hr
  obtain ⟨va, vn, vc, rfl, hvn, -⟩ := hr.sliceN
  clear hwa hbx ua ca sa ix hr hwf hb hnd hvn
  gi_wp2_with fail
  rw [← HWA.out, ← HBX.out]
  --P1
  refine ⟨trivial, ?_⟩
  refine (callsIn_wide.2 HTG.out).mono ?_
  rintro _ w1 ⟨rfl, hu1⟩
  have HU1 := hide (HUA.out.trans hu1)
  have cb := hu1.cell HCA.out
  have sb1 : Hid (w.heap.size + 1 ≤ w1.heap.size) := by show _ ≤ _; have := hu1.size; have := HSA.out; omega
  obtain ⟨bt, hbt⟩ : ∃ bt, bt = w1.heap.size := ⟨_, rfl⟩
  obtain ⟨W2, hW2⟩ : ∃ W2, W2 = w1.alloc (.cells #[.int .i64 t] 3) := ⟨_, rfl⟩
  have HU2 : Hid (Up w W2) := by rw [hW2]; exact HU1.out.trans ((Up.refl _).alloc _)
  have cb2 : W2.cell? ⟨bx, 0, none⟩ = some (.pointer (some ⟨q, 0, none⟩)) := by rw [hW2]; exact ((Up.refl w1).alloc _).cell cb
  have ct2 : W2.cell? ⟨bt, 0, none⟩ = some (.int .i64 t) := by rw [hW2, hbt]; go_simp
  have ft2 : W2.frozen? ⟨bt, 0, none⟩ = false := by rw [hW2, hbt]; unfold World.frozen?; rw [heap_alloc_new]; rfl
  have HS2 : Hid (w.heap.size + 1 ≤ bt ∧ bt < W2.heap.size) := ⟨by rw [hbt]; exact sb1.out, by rw [hW2, hbt]; simp⟩
  have HI2 : Hid (SqIx (fun y => Y y ∨ y = bt) q T M xs h n f W2) := HIX.out.wide (Z := fun y => y = bt) HU2.out (fun y hy => by have := HS2.out; rw [hy]; omega)
  have cbl : (w1.alloc (.cells #[.int .i64 t] 3)).cell? ⟨bx, 0, none⟩ = some (.pointer (some ⟨q, 0, none⟩)) := ((Up.refl w1).alloc _).cell cb
  have HW2 := hide hW2
  have HBT := hide hbt
  clear hu1 hW2 hbt
  dsimp only
  gi_wp2_with fail
  rw [← HW2.out, ← HBT.out]
  clear cbl cb
  --P2
  refine ⟨trivial, ?_⟩
  refine (callsIn_wide.2 (HLK.out _ HU2.out)).mono ?_
  rintro _ w3 ⟨rfl, hw3⟩
  subst hw3
  dsimp only
  gi_wp2_with fail
  --P3
  refine ⟨trivial, ?_⟩
  refine (callsIn_wide.2 (HCN.out _ HU2.out)).mono ?_
  rintro _ w3 ⟨rfl, hw3⟩
  subst hw3
  dsimp only
  gi_wp2_with fail
  refine ⟨trivial, ?_⟩
  refine (callsIn_wide.2 (HTW.out _ HU2.out)).mono ?_
  rintro _ w4 ⟨rfl, hu4⟩
  replace cb2 := hu4.cell cb2
  replace ct2 := hu4.cell ct2
  replace ft2 := (hu4.frozen (p := ⟨bt, 0, none⟩) HS2.out.2).trans ft2
  have HI4 := hide (HI2.out.up hu4)
  have HU4 := hide (HU2.out.trans hu4)
  have HS4 : Hid (bt < w4.heap.size) := Nat.lt_of_lt_of_le HS2.out.2 hu4.size
  clear hu4
  dsimp only
  gi_wp2_with fail
  --P4
  refine ⟨trivial, ?_⟩
  refine (callsIn_wide.2 (back_calls va vn vc w4)).mono ?_
  rintro _ w5 ⟨rfl, hw5⟩
  obtain ⟨Bs, hBs⟩ : ∃ Bs, Bs = w4.heap.size := ⟨_, rfl⟩
  have hu5 : Up w4 w5 := by rw [hw5]; exact (Up.refl _).alloc _
  have cs5 : w5.cell? ⟨Bs, 0, none⟩ = some (.slice va vn vc) := by rw [hw5, hBs]; go_simp
  have HB5 : Hid (w5.heap.size = Bs + 1) := by unfold Hid; rw [hw5, hBs]; simp
  have HSB : Hid (bt < Bs) := by unfold Hid; rw [hBs]; exact HS4.out
  replace cb2 := hu5.cell cb2
  replace ct2 := hu5.cell ct2
  replace ft2 := (hu5.frozen (p := ⟨bt, 0, none⟩) HS4.out).trans ft2
  have HI5 := hide (HI4.out.up hu5)
  have HU5 := hide (HU4.out.trans hu5)
  have HTM : Hid (T < w.heap.size ∧ M < w.heap.size ∧ w.heap.size < bt ∧ bx < bt) := ⟨HIX.out.ltT, HIX.out.ltM, by have := HS2.out; omega, by have := HS2.out; have := HBX.out; omega⟩
  have HBSC : Hid (¬ CS T M bt w5.heap.size Bs) := by
    rintro (((e | e) | e) | e) <;> have := HTM.out <;> have := HSB.out <;> have := HB5.out <;> omega
  have HR5 : Hid (Rd (Value.int .i64) (CS T M bt w5.heap.size) w5 (.slice va vn vc) zs) := by
    have h1 : Rd (Value.int .i64) (fun y => TM T M y ∨ y = bt) w (.slice va vn vc) zs := HR.out.mono (fun y hy e => by
      rcases e with e | e
      · exact e
      · have := HTM.out; omega)
    exact (h1.up HU5.out).mono (fun y hy e => by
      rcases e with e | e
      · exact e
      · omega)
  rw [← hBs]
  clear hw5 hBs hu5
  dsimp only
  gi_wp2_with fail
  --P5
  have hMl : M < w5.heap.size := by have := HTM.out; have := HB5.out; have := HSB.out; omega
  have hbl : bt < w5.heap.size := by have := HB5.out; have := HSB.out; omega
  have h0 : SpI Y q T M xs t n (16 * bitsN (xs.length + 1)) bx bt zs w5 [] w5 := ⟨⟨xs, t, h, 0, f, HI5.out, rfl, by simp, rfl, fun _ => Iff.rfl, ht.le, ct2⟩, ft2, cb2, Chg.refl _ _⟩
  refine wpIn_rangeFunc_ownG rfl (by omega) (gf := 64) (lb := #[.pointer (some ⟨Bs, 0, none⟩)]) rfl trivial (enters_of Try.func64 (by kernel_rfl) rfl)
    (back_stops Fence.wide 5 trivial rfl (by omega) (CS T M bt w5.heap.size) Bs _ zs w5 HBSC.out cs5 HR5.out hzl) (fun h k => h.trans k (fun _ _ h => h))
    (fun W l o o' hl ho _ _ => (chg_row (grownBy_putObj' W l o')).mono (fun y _ e => by cases e; exact .inr hl)) (Below.refl _ _) (fun _ => rfl)
    (SpI Y q T M xs t n (16 * bitsN (xs.length + 1)) bx bt zs w5) (fun _ _ _ => False) (spI_own hMl hbl) (fun _ _ _ _ _ hs _ _ => hs) h0
    (fun x => { tmps := #[.pointer (some ⟨q, 0, none⟩), .slice va vn vc, .int .i64 b, .pointer (some ⟨bx, 0, none⟩), undef, undef, .int .i64 0, .pointer (some ⟨bt, 0, none⟩), .bool true, undef, .int .i64 x.1.2, undef, undef, .tuple #[.int .i64 t, .bool true], .pointer (some ⟨q, 0, none⟩), .int .i64 b, .tuple #[.int .i64 t, .bool true], .int .i64 t, .bool true, .bool true, .bool false, .bool false, .slice va vn vc, .pointer (some ⟨q, 0, none⟩), .func (.func 47) #[.pointer (some ⟨q, 0, none⟩)] #[], .bool false, .bool false, .slice va vn vc, .int .i64 b, .bool false, .bool false, .slice va vn vc, .bool false, .bool false, .slice va vn vc, .func (.func 64) #[] #[.pointer (some ⟨Bs, 0, none⟩)], .int .i64 (x.1.1 : Nat), .int .i64 x.1.2, undef, undef, undef, undef, undef, undef, undef, undef, undef, undef], defers := [] }) ?assign ?body ?done ?stop
  case assign =>
    intro l x W K hK
    gi_wp2
    exact hK
  case body =>
    rintro l pre ⟨⟨j, z⟩, hz⟩ W ⟨⟨xs', tt, h', k, f', i1, i2, i3, i4, i5, i6, i7⟩, j1, j2, j3⟩ hlen
    have hzm : z ∈ xs' := (i5 z).2 (hin z (List.mem_of_getElem? hz))
    obtain ⟨a, ha⟩ : ∃ a, a = xs'.idxOf z := ⟨_, rfl⟩
    have hal : a < xs'.length := by rw [ha]; exact List.idxOf_lt_length_of_mem hzm
    have hae : xs'[a] = z := by simp only [ha]; exact List.getElem_idxOf _
    have HPL := hide (sqplace_yes a z i1 hal hae (by omega))
    have hkn : n + k ≤ 9000000 := by
      have hb := bitsN_le (m := xs.length + 1) (by omega)
      have : pre.length * (16 * bitsN (xs.length + 1)) ≤ 1000 * 1600 := Nat.mul_le_mul (by omega) (by omega)
      omega
    have HSH : Hid (∀ W', Up W W' → Calls Try.prog 43 #[.pointer (some ⟨q, 0, none⟩), .int .i64 a, .int .i64 tt] W' fun e w' => e = .returned (.int .i64 (shN a tt : Nat)) ∧ SqDone (fun y => Y y ∨ y = bt) q T M (shL xs' a tt) (n + k) (16 * bitsN (xs'.length + 1)) W' w') := fun W' hu => shift_calls a tt _ (i1.up hu) hal i6 rfl (by omega) hkn
    have hstp := stp_step (⟨(j, z), hz⟩ : BT zs) i2
    dsimp only at hstp
    rw [← ha] at hstp
    have HST := hide hstp
    have HI1 := hide i1
    have HJ3 := hide j3
    have HI5' := hide i5
    have HK3 := hide i3
    have HML : Hid ((shL xs' a tt).length = xs'.length ∧ ∀ y, y ∈ shL xs' a tt ↔ y ∈ xs') := ⟨shL_len hal i6, fun y => shL_mem i1.ok.nd hal⟩
    have HTT : Hid (shN a tt ≤ xs'.length) := Nat.le_of_lt (shN_lt hal i6)
    have HLT : Hid (bt < W.heap.size ∧ bx < W.heap.size) := ⟨World.block_lt_of_cell? W _ i7, World.block_lt_of_cell? W _ j2⟩
    clear i1 i2 i3 i5 hzm ha hae hstp j3 hal hkn
    gi_wp2_with fail
    --B1
    refine ⟨trivial, ?_⟩
    refine (CallsIn.inRound l (callsIn_wide.2 HPL.out)).mono ?_
    rintro _ w6 ⟨rfl, hu6⟩
    replace i7 := hu6.cell i7
    replace j2 := hu6.cell j2
    replace j1 := (hu6.frozen (p := ⟨bt, 0, none⟩) HLT.out.1).trans j1
    have HU6 := hide hu6
    clear hu6 HPL
    dsimp only
    gi_wp2_with fail
    --B2
    refine ⟨trivial, ?_⟩
    refine (CallsIn.inRound l (callsIn_wide.2 (HSH.out _ HU6.out))).mono ?_
    rintro _ w7 ⟨rfl, hd7⟩
    obtain ⟨h7, k7, f7, i17, hk7, hc7⟩ := hd7
    have hbT : bt ≠ T := by have := HTM.out; omega
    have hbM : bt ≠ M := by have := HTM.out; omega
    replace i7 := tm_cell2 hc7 i7 hbT hbM
    replace j1 := (hc7.frozen (p := ⟨bt, 0, none⟩) (Nat.lt_of_lt_of_le HLT.out.1 HU6.out.size) (fun e => by rcases e with e | e; exact hbT e; exact hbM e)).trans j1
    have hxT : bx ≠ T ∧ bx ≠ M := by have := HTM.out; have := HBX.out; omega
    replace j2 := tm_cell2 hc7 j2 hxT.1 hxT.2
    have HI7 := hide i17
    have HC7 := hide hc7
    have HK7 := hide hk7
    clear i17 hc7 hk7 HSH
    dsimp only
    gi_wp2_with fail
    --B3
    have hcs : Chg (fun y => y = bt) w7 (w7.setCell ⟨bt, 0, none⟩ (.int .i64 (shN a tt : Nat))) := (Chg.refl _ w7).set (C := fun y => y = bt) (p := ⟨bt, 0, none⟩) (fun _ => rfl) _
    have hch : Chg (CS T M bt w5.heap.size) W (w7.setCell ⟨bt, 0, none⟩ (.int .i64 (shN a tt : Nat))) :=
      ((Chg.of_up (C := CS T M bt w5.heap.size) HU6.out).trans HC7.out (fun _ _ e => .inl (.inl e))).trans hcs (fun _ _ e => .inl (.inr e))
    have hch2 : Chg (fun y => TM T M y ∨ y = bt) W (w7.setCell ⟨bt, 0, none⟩ (.int .i64 (shN a tt : Nat))) :=
      ((Chg.of_up (C := fun y => TM T M y ∨ y = bt) HU6.out).trans HC7.out (fun _ _ e => .inl e)).trans hcs (fun _ _ e => .inr e)
    refine ⟨keepsFrom_chg hch2 (fun k hk e => ?_), hch, ⟨shL xs' a tt, shN a tt, h7, k + k7, f7, ?_, HST.out, ?_, HML.out.1.trans i4, fun y => (HML.out.2 y).trans (HI5'.out y), by rw [HML.out.1]; exact HTT.out, World.cell?_setCell_same _ _ _ i7⟩, ?_, ?_, HJ3.out.trans hch (fun _ _ e => e)⟩
    · have := HTM.out
      rcases e with (e | e) | e <;> omega
    · rw [← Nat.add_assoc]
      exact HI7.out.other hcs (fun y e => .inr e)
    · rw [List.length_append, List.length_singleton, Nat.add_mul]
      have h1 := HK7.out
      rw [i4] at h1
      have h2 := HK3.out
      omega
    · rw [World.frozen?_setCell]; exact j1
    · exact (World.cell?_setCell_other _ _ _ _ (fun e => by have := HTM.out; injection e with e1; omega)).trans j2
  case done =>
    rintro D ys W hD hS ⟨⟨xs', tt, h', k, f', i1, i2, i3, i4, i5, i6, i7⟩, j1, j2, j3⟩ hK
    have hlen : ys.length = zs.length := by
      have := congrArg List.length hS
      simpa [bkL] using this
    have hfold : xs' = (zs.reverse.foldl stp (xs, t)).1 := by
      have h1 : ys.map (fun x => x.1.2) = zs.reverse := by
        rw [← bkL_vals, ← hS, List.map_map]
        rfl
      rw [h1] at i2
      rw [← i2]
    gi_wp2
    refine ⟨by simp, .inl ⟨_, _, rfl, run_takeDeferred hK, ?_⟩⟩
    have hrow : Chg (fun y => y = D) W (W.putObj D (.deferred none)) := (chg_row (grownBy_putObj' W D (.deferred none))).mono (fun y _ e => by cases e; rfl)
    have hnc : NC W D := ⟨_, hK, rfl⟩
    refine ⟨_, results_tmp rfl _ _ _, rfl, h', k, f', ?_, by rw [← hlen]; exact i3, ?_⟩
    · rw [← hfold]
      exact (i1.narrow (fun y e => .inl e)).row hrow hnc (by omega)
    · refine ((Chg.of_up (C := TM T M) HU5.out).trans j3 (fun x hxl e => ?_)).trans hrow (fun x hxl e => ?_)
      · have := HTM.out
        rcases e with (e | e) | e
        · exact e
        · omega
        · have := HU5.out.size; omega
      · have := HU5.out.size; omega
  case stop =>
    rintro D c pre W _ _ h _
    exact h.elim
end Go.Proofs.Ytbnkddnjfkagkaa

namespace Go.Proofs.Ytbnkddnjfkagkaa
open Go.RowKit Go.Shelf
set_option linter.unusedVariables false
set_option maxRecDepth 100000

variable {Y : Nat → Prop} {p q T M r : Nat} {xs zs : List Int} {h n : Nat} {f : Int → Option Nat} {w w' : World}
set_option maxHeartbeats 4000000 in
theorem splice_unknown (v : Value) (zs : List Int) (b : Int) (ix : SqIx Y q T M xs h n f w) (hr : Rd (Value.int .i64) (TM T M) w v zs) (hwb : wf64 b) (hb : b ≠ 0 ∧ b ∉ xs) (hx : xs.length ≤ 1000) :
    Calls Try.prog 17 #[.pointer (some ⟨q, 0, none⟩), v, .int .i64 b] w fun e w' => e = .returned (.int .i64 71) ∧ Up w w' := by
  obtain ⟨bx, hbx⟩ : ∃ bx, bx = w.heap.size := ⟨_, rfl⟩
  obtain ⟨wa, hwa⟩ : ∃ wa, wa = w.alloc (.cells #[.pointer (some ⟨q, 0, none⟩)] 24) := ⟨_, rfl⟩
  have ua : Up w wa := by rw [hwa]; exact (Up.refl _).alloc _
  have HTG := hide (target_no b (ix.up ua) hwb hb.1 hb.2)
  have HWA := hide hwa
  have HUA := hide ua
  obtain ⟨va, vn, vc, rfl, -, -⟩ := hr.sliceN
  clear hwa hbx ua ix hr hb
  refine (callsIn_wide (n := 6)).1 ?_
  refine callsIn_of_wp_marks Try.func17 rfl trivial ?_ rfl
  simp only [Try.ntmps17, List.size_toArray, List.length_cons, List.length_nil, Nat.reduceAdd, Nat.reduceSub, Array.replicate_succ, Array.replicate_zero, List.push_toArray, List.append_toArray, List.nil_append, List.cons_append]
  gi_wp2_with fail
  rw [← HWA.out]
  refine ⟨trivial, ?_⟩
  refine (callsIn_wide.2 HTG.out).mono ?_
  rintro _ w1 ⟨rfl, hu1⟩
  have HU1 : Hid (Up w (w1.alloc (.cells #[.int .i64 0] 3))) := (HUA.out.trans hu1).trans ((Up.refl _).alloc _)
  clear hu1
  dsimp only
  gi_wp2_with fail
  refine ⟨trivial, ?_⟩
  gi_wp2
  exact ⟨_, results_tmp rfl _ _ _, rfl, HU1.out⟩
set_option maxHeartbeats 4000000 in
theorem splice_lacks (v : Value) (zs : List Int) (b : Int) (t : Nat) (ix : SqIx Y q T M xs h n f w) (hr : Rd (Value.int .i64) (TM T M) w v zs) (hwf : ∀ z ∈ zs, wf64 z) (ht : TgtAt xs b t) (hin : ¬ ∀ z ∈ zs, z ∈ xs) (hx : xs.length ≤ 1000) (hzl : zs.length ≤ 1000) :
    Calls Try.prog 17 #[.pointer (some ⟨q, 0, none⟩), v, .int .i64 b] w fun e w' => e = .returned (.int .i64 71) ∧ Up w w' := by
  obtain ⟨bx, hbx⟩ : ∃ bx, bx = w.heap.size := ⟨_, rfl⟩
  obtain ⟨wa, hwa⟩ : ∃ wa, wa = w.alloc (.cells #[.pointer (some ⟨q, 0, none⟩)] 24) := ⟨_, rfl⟩
  have ua : Up w wa := by rw [hwa]; exact (Up.refl _).alloc _
  have ca : wa.cell? ⟨bx, 0, none⟩ = some (.pointer (some ⟨q, 0, none⟩)) := by rw [hwa, hbx]; go_simp
  have HTG := hide (target_yes b t (ix.up ua) ht hx)
  have HLK : Hid (∀ w', Up w w' → Calls Try.prog 46 #[v, .func (.func 47) #[.pointer (some ⟨q, 0, none⟩)] #[]] w' fun e w'' => e = .returned (.bool true) ∧ w'' = w') := fun w' hu => containsLacks_calls v zs (TM T M) (ix.up hu) (hr.up hu) hwf (by omega) true (by symm; exact decide_eq_true hin)
  have HWA := hide hwa
  have HBX := hide hbx
  have HUA := hide ua
  have HCA := hide ca
  obtain ⟨va, vn, vc, rfl, -, -⟩ := hr.sliceN
  clear hwa hbx ua ca ix hr hwf hin
  refine (callsIn_wide (n := 6)).1 ?_
  refine callsIn_of_wp_marks Try.func17 rfl trivial ?_ rfl
  simp only [Try.ntmps17, List.size_toArray, List.length_cons, List.length_nil, Nat.reduceAdd, Nat.reduceSub, Array.replicate_succ, Array.replicate_zero, List.push_toArray, List.append_toArray, List.nil_append, List.cons_append]
  gi_wp2_with fail
  rw [← HWA.out, ← HBX.out]
  refine ⟨trivial, ?_⟩
  refine (callsIn_wide.2 HTG.out).mono ?_
  rintro _ w1 ⟨rfl, hu1⟩
  have cbl : (w1.alloc (.cells #[.int .i64 t] 3)).cell? ⟨bx, 0, none⟩ = some (.pointer (some ⟨q, 0, none⟩)) := ((Up.refl w1).alloc _).cell (hu1.cell HCA.out)
  have HU1 : Hid (Up w (w1.alloc (.cells #[.int .i64 t] 3))) := (HUA.out.trans hu1).trans ((Up.refl _).alloc _)
  clear hu1
  dsimp only
  gi_wp2_with fail
  refine ⟨trivial, ?_⟩
  refine (callsIn_wide.2 (HLK.out _ HU1.out)).mono ?_
  rintro _ w3 ⟨rfl, hw3⟩
  subst hw3
  dsimp only
  gi_wp2
  exact ⟨_, results_tmp rfl _ _ _, rfl, HU1.out⟩
set_option maxHeartbeats 4000000 in
theorem splice_twice (v : Value) (zs : List Int) (b : Int) (t : Nat) (ix : SqIx Y q T M xs h n f w) (hr : Rd (Value.int .i64) (TM T M) w v zs) (hwf : ∀ z ∈ zs, wf64 z) (ht : TgtAt xs b t) (hin : ∀ z ∈ zs, z ∈ xs) (hb : b ∈ zs ∨ ¬ zs.Nodup) (hx : xs.length ≤ 1000) (hzl : zs.length ≤ 1000) :
    Calls Try.prog 17 #[.pointer (some ⟨q, 0, none⟩), v, .int .i64 b] w fun e w' => e = .returned (.int .i64 72) ∧ Up w w' := by
  obtain ⟨bx, hbx⟩ : ∃ bx, bx = w.heap.size := ⟨_, rfl⟩
  obtain ⟨wa, hwa⟩ : ∃ wa, wa = w.alloc (.cells #[.pointer (some ⟨q, 0, none⟩)] 24) := ⟨_, rfl⟩
  have ua : Up w wa := by rw [hwa]; exact (Up.refl _).alloc _
  have ca : wa.cell? ⟨bx, 0, none⟩ = some (.pointer (some ⟨q, 0, none⟩)) := by rw [hwa, hbx]; go_simp
  have HTG := hide (target_yes b t (ix.up ua) ht hx)
  have HLK : Hid (∀ w', Up w w' → Calls Try.prog 46 #[v, .func (.func 47) #[.pointer (some ⟨q, 0, none⟩)] #[]] w' fun e w'' => e = .returned (.bool false) ∧ w'' = w') := fun w' hu => containsLacks_calls v zs (TM T M) (ix.up hu) (hr.up hu) hwf (by omega) false (by symm; exact decide_eq_false (fun e => e hin))
  have HCN : Hid (∀ c, c = decide (b ∈ zs) → ∀ w', Up w w' → Calls Try.prog 48 #[v, .int .i64 b] w' fun e w'' => e = .returned (.bool c) ∧ w'' = w') := fun c hc w' hu => contains64_calls v zs b (TM T M) w' (hr.up hu) (by omega) c hc
  have HTW : Hid (∀ c, c = decide (¬ zs.Nodup) → ∀ w', Up w w' → Calls Try.prog 49 #[v] w' fun e w'' => e = .returned (.bool c) ∧ Up w' w'') := fun c hc w' hu => hasTwice_calls v zs w' ((hr.up hu).mono (fun _ _ h => h.elim)) hwf (by omega) c hc
  have HWA := hide hwa
  have HBX := hide hbx
  have HUA := hide ua
  have HCA := hide ca
  obtain ⟨va, vn, vc, rfl, -, -⟩ := hr.sliceN
  clear hwa hbx ua ca ix hr hwf hin
  refine (callsIn_wide (n := 6)).1 ?_
  refine callsIn_of_wp_marks Try.func17 rfl trivial ?_ rfl
  simp only [Try.ntmps17, List.size_toArray, List.length_cons, List.length_nil, Nat.reduceAdd, Nat.reduceSub, Array.replicate_succ, Array.replicate_zero, List.push_toArray, List.append_toArray, List.nil_append, List.cons_append]
  gi_wp2_with fail
  rw [← HWA.out, ← HBX.out]
  refine ⟨trivial, ?_⟩
  refine (callsIn_wide.2 HTG.out).mono ?_
  rintro _ w1 ⟨rfl, hu1⟩
  have cbl : (w1.alloc (.cells #[.int .i64 t] 3)).cell? ⟨bx, 0, none⟩ = some (.pointer (some ⟨q, 0, none⟩)) := ((Up.refl w1).alloc _).cell (hu1.cell HCA.out)
  have HU1 : Hid (Up w (w1.alloc (.cells #[.int .i64 t] 3))) := (HUA.out.trans hu1).trans ((Up.refl _).alloc _)
  clear hu1
  dsimp only
  gi_wp2_with fail
  refine ⟨trivial, ?_⟩
  refine (callsIn_wide.2 (HLK.out _ HU1.out)).mono ?_
  rintro _ w3 ⟨rfl, hw3⟩
  subst hw3
  dsimp only
  gi_wp2_with fail
  by_cases hbz : b ∈ zs
  · refine ⟨trivial, ?_⟩
    refine (callsIn_wide.2 (HCN.out true (by symm; exact decide_eq_true hbz) _ HU1.out)).mono ?_
    rintro _ w3 ⟨rfl, hw3⟩
    subst hw3
    clear hb hbz
    dsimp only
    gi_wp2_with fail
    refine ⟨trivial, ?_⟩
    gi_wp2
    exact ⟨_, results_tmp rfl _ _ _, rfl, HU1.out⟩
  · have hnd := hb.resolve_left hbz
    refine ⟨trivial, ?_⟩
    refine (callsIn_wide.2 (HCN.out false (by symm; exact decide_eq_false hbz) _ HU1.out)).mono ?_
    rintro _ w3 ⟨rfl, hw3⟩
    subst hw3
    have HT1 := hide (HTW.out true (by symm; exact decide_eq_true hnd) _ HU1.out)
    clear hb hbz hnd
    dsimp only
    gi_wp2_with fail
    refine ⟨trivial, ?_⟩
    refine (callsIn_wide.2 HT1.out).mono ?_
    rintro _ w4 ⟨rfl, hu4⟩
    have HU4 := hide (HU1.out.trans hu4)
    clear hu4
    dsimp only
    gi_wp2
    exact ⟨_, results_tmp rfl _ _ _, rfl, HU4.out⟩
end Go.Proofs.Ytbnkddnjfkagkaa
