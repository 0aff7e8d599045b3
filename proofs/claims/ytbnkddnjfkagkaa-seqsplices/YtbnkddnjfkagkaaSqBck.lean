/-
  slices.Backward of a row of int64, as the library's text runs: a row is gone through from its end, whatever the loop's body does to the blocks of C.
-/
import Derived.Test.YtbnkddnjfkagkaaSqMov
import Derived.RangeFuncWrites
import Derived.RangeFuncNested
import Derived.RangeFuncBound
import Derived.RangeFuncCalls
import Derived.RangeFuncLeaves
import Derived.Shelf.Abstract
import Derived.WalkKit
import Derived.OwnWalkIn
import Derived.TacticsInMore
import Derived.RegionIn
import Derived.LoopNIn
import Derived.LoopIn
namespace Go.Proofs.Ytbnkddnjfkagkaa
open Go.RowKit Go.Shelf
set_option linter.unusedVariables false
set_option maxRecDepth 100000
attribute [local go_sem] Oper.semAt_some

/-- A place of a row and what stands there. -/
abbrev BT (zs : List Int) := { x : Nat × Int // zs[x.1]? = some x.2 }
def bkE (zs : List Int) (j : Nat) : Nat × Int := (zs.length - 1 - j, zs.getD (zs.length - 1 - j) 0)
/-- The first k that come. -/
def bkL (zs : List Int) (k : Nat) : List (Nat × Int) := (List.range k).map (bkE zs)
theorem bkL_succ (zs : List Int) (k : Nat) : bkL zs (k + 1) = bkL zs k ++ [bkE zs k] := by simp [bkL, List.range_succ]
theorem bk_ok {zs : List Int} {k : Nat} (hk : k < zs.length) : zs[(bkE zs k).1]? = some (bkE zs k).2 := by
  have h : zs.length - 1 - k < zs.length := by omega
  show zs[zs.length - 1 - k]? = some (zs.getD (zs.length - 1 - k) 0)
  rw [getD_in zs h, List.getElem?_eq_getElem h]
theorem bkL_vals (zs : List Int) : (bkL zs zs.length).map Prod.snd = zs.reverse := by
  apply List.ext_getElem
  · simp [bkL]
  · intro i h1 h2
    have h3 : i < zs.length := by simpa using h2
    simp [bkL, bkE]
    rw [List.getElem?_eq_getElem (by omega)]
    rfl

set_option maxHeartbeats 2000000 in
theorem back_stops (F : Fence) (n : Nat) (hF : F.fn 64) (hro : F.round = none) (hn : 1 ≤ n) (C : Nat → Prop) (Bs : Nat) (sv : Value) (zs : List Int) (w : World) (hBs : ¬ C Bs) (hc : w.cell? ⟨Bs, 0, none⟩ = some sv) (hr : Rd (Value.int .i64) C w sv zs) (hz : zs.length ≤ 1000) :
    SeqStopsK F n Try.prog 64 #[.pointer (some ⟨Bs, 0, none⟩)] (fun x : BT zs => #[.int .i64 (x.1.1 : Nat), .int .i64 x.1.2]) (Chg C) (fun ys => ys.map Subtype.val = bkL zs zs.length) (fun _ => True) zs.length w := fun l J Jx W hW hJ _ hY h0 => by
  have hcW : Chg C w W := Chg.of_up hW
  have hc' := hcW.cell hc hBs
  have HR := hide (hr.chg hcW)
  obtain ⟨a, m, d, rfl, hm, -⟩ := hr.sliceN
  have HM := hide hm.out
  have HBS := hide hBs
  have hm1 : IntKind.i64.wrap ((m : Int) - 1) = (m : Int) - 1 := by rw [IntKind.wrap_i64]; have := hm.out; omega
  have hmz : m ≤ 1000 := by have := hm.out; omega
  clear hr hcW hm hBs hc hW
  refine callsIn_of_wp Try.func64 rfl hF ?_ hro
  simp only [Try.ntmps64, List.size_toArray, List.length_cons, List.length_nil, Nat.reduceAdd, Nat.reduceSub, Array.replicate_succ, Array.replicate_zero, List.push_toArray, List.append_toArray, List.nil_append, List.cons_append]
  gi_wp2
  gi_loopw [3] (fun i wr => ∃ (k : Nat) (pre : List (BT zs)), k ≤ m ∧ i = .int .i64 ((m : Int) - 1 - (k : Int)) ∧ Hid (pre.map Subtype.val = bkL zs k) ∧ J pre wr ∧ Hid (Chg C W wr)) (fun i _ => (intOf i + 1).toNat)
  case atStart => exact ⟨0, [], Nat.zero_le _, by simp, rfl, h0, Chg.refl _ _⟩
  case round =>
    obtain ⟨k, pre, hk, rfl, hpre, hJs, hch⟩ := hrel
    by_cases hlt : k < m
    · obtain ⟨j, hj⟩ : ∃ j : Nat, j + k + 1 = m := ⟨m - 1 - k, by omega⟩
      have ej : (m : Int) - 1 - (k : Int) = (j : Int) := by omega
      rw [ej]
      have hkz : k < zs.length := by rw [← HM.out]; exact hlt
      have hj1 : (bkE zs k).1 = j := by show zs.length - 1 - k = j; rw [← HM.out]; omega
      obtain ⟨v, hv⟩ : ∃ v, v = (bkE zs k).2 := ⟨_, rfl⟩
      have hjv : zs[j]? = some v := by rw [← hj1, hv]; exact bk_ok hkz
      have hbe : bkE zs k = (j, v) := by rw [← hj1, hv]
      obtain ⟨hjl, hjx⟩ := List.getElem?_eq_some_iff.1 hjv
      obtain ⟨g, o, rfl, hcj⟩ := (HR.out.chg hch.out).get (i := j) hjl
      rw [hjx] at hcj
      have hcs := hch.out.cell hc' HBS.out
      have hpl : pre.length = k := by
        have := congrArg List.length hpre.out
        simpa [bkL] using this
      obtain ⟨fn, tmps, assign, body, hy, hR⟩ := hY pre ⟨(j, v), hjv⟩ wr hJs (by rw [hpl]; exact hkz)
      dsimp only at hy
      have hpre' : Hid ((pre ++ [(⟨(j, v), hjv⟩ : BT zs)]).map Subtype.val = bkL zs (k + 1)) := by
        unfold Hid
        rw [bkL_succ, hbe, List.map_append, hpre.out]; rfl
      have hjm : (j : Int) < (m : Int) := by omega
      have hj0 : (0 : Int) ≤ (j : Int) := by omega
      have HEJ := hide ej
      have HJK := hide hj
      clear hpre hv hbe hjx hj1 ej hj hJs
      gi_wp2
      refine hR.mono ?_
      rintro e W3 (⟨rfl, hJ3, hk3⟩ | ⟨rfl, hJx3⟩)
      · have hch3 : Hid (Chg C W W3) := hch.out.trans hk3 (fun _ _ h => h)
        clear hch hk3 hcj hcs
        gi_wp2
        go_roundw
        case rel => exact ⟨k + 1, _, by omega, by have := HJK.out; simp <;> omega, hpre', hJ3, hch3⟩
        case measure => have := HJK.out; simp [intOf] <;> omega
      · gi_wp2
        (try simp only [Exit.inBlock, Exit.then])
        refine bodyPost_ret (results_none rfl _ _ _) rfl ?_
        exact ⟨⟨_, rfl⟩, .inr ⟨_, trivial, hJx3⟩⟩
    · obtain rfl : k = m := by omega
      have hneg : ¬ ((k : Int) - 1 - (k : Int) ≥ 0) := by omega
      have hneg' : (k : Int) - 1 - (k : Int) = -1 := by omega
      rw [hneg']
      clear hneg hneg'
      gi_wp2
      go_end0
      exact ⟨⟨_, rfl⟩, .inl ⟨pre, by rw [← HM.out]; exact hpre.out, hJs⟩⟩

theorem back_calls (a : Option Addr) (m d : Nat) (w : World) :
    Calls Try.prog 50 #[.slice a m d] w fun e w' => e = .returned (.func (.func 64) #[] #[.pointer (some ⟨w.heap.size, 0, none⟩)]) ∧ w' = w.alloc (.cells #[.slice a m d] 26) := by
  go_enter Try.func50, Try.ntmps50
  go_wp2
  go_ret
  exact ⟨rfl, rfl⟩
end Go.Proofs.Ytbnkddnjfkagkaa
