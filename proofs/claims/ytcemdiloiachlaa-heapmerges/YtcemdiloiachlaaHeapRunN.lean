/-
  Heaps of runs of integers: what the landed methods Len, Less, Swap, Pop of them do, as their text runs.
-/
import Derived.Test.YtcemdiloiachlaaHeapOps
import Derived.Test.YtcemdiloiachlaaHeapSort
import Derived.Test.YtcemdiloiachlaaSlcAll
import Derived.Test.YtcemdiloiachlaaQuietUp
import Derived.Test.YtcemdiloiachlaaHeapAsk
namespace Go.Proofs.Ytcemdiloiachlaa
open Go.ChangeShapes Go.WideShapes Go.ChangeAt Go.RowKit
set_option linter.unusedVariables false

abbrev ETN := Int
def eValN (e : ETN) : Value := .int .i64 e
def eCellsN (e : ETN) : List Value := [.int .i64 e]
def eZeroN : ETN := 0
def runValN (fb : FuncId) (r : RunM ETN) : Value := .agg #[.slice (some ⟨r.blk, r.off, none⟩) r.rest.length r.cap, .int .i64 r.list, .func (.func fb) #[] #[]]
def RowOkN (w : World) (r : RunM ETN) : Prop := r.rest.length ≤ r.cap ∧ r.cap ≤ maxLen ∧ ∀ i, i < r.rest.length → ∀ j v, (eCellsN (r.rest.getD i eZeroN))[j]? = some v → w.cell? ⟨r.blk, r.off + i * 1 + j, none⟩ = some v
theorem RowOkN.up {w w' : World} {r : RunM ETN} (h : RowOkN w r) (hu : Up w w') : RowOkN w' r := ⟨h.1, h.2.1, fun i hi j v hv => hu.cell (h.2.2 i hi j v hv)⟩
theorem RowOkN.chg {C : Nat → Prop} {w w' : World} {r : RunM ETN} (h : RowOkN w r) (hu : Chg C w w') (hn : ¬ C r.blk) : RowOkN w' r := ⟨h.1, h.2.1, fun i hi j v hv => hu.cell (h.2.2 i hi j v hv) hn⟩
/-- The order of the caller. -/
structure BeforeN (fb : FuncId) (rk : ETN → Int) : Prop where
  enter : ∀ args w', (callFunc fb args).run Try.prog w' = .ok (.enter fb args) w'
  asks : ∀ a b w, Calls Try.prog fb #[eValN a, eValN b] w fun e w' => e = .returned (.bool (askB rk a b)) ∧ Up w w'

set_option maxRecDepth 20000 in
set_option maxHeartbeats 8000000 in
theorem aheadN_lower (fb : FuncId) (rk : ETN → Int) (hB : BeforeN fb rk) (list n blk off cap list' m blk' off' cap' : Nat) (x y : ETN) (w : World) (hn : 0 < n) (hm : 0 < m) (ln : n ≤ cap) (lm : m ≤ cap') (cn : cap ≤ maxLen) (cm : cap' ≤ maxLen)
    (a0 : w.cell? ⟨blk, off, none⟩ = some (.int .i64 x)) (b0 : w.cell? ⟨blk', off', none⟩ = some (.int .i64 y)) (hl : list < list') :
    Calls Try.prog 68 #[.agg #[.slice (some ⟨blk, off, none⟩) n cap, .int .i64 list, .func (.func fb) #[] #[]], .agg #[.slice (some ⟨blk', off', none⟩) m cap', .int .i64 list', .func (.func fb) #[] #[]]] w fun e w' => e = .returned (.bool (!askB rk y x)) ∧ Up w w' := by
  have hcf := hB.enter
  have HB := hide hB.asks
  clear hB
  obtain ⟨W, hW⟩ : ∃ W, W = (w.alloc (.cells #[.slice (some ⟨blk, off, none⟩) n cap, .int .i64 list, .func (.func fb) #[] #[]] 78)).alloc (.cells #[.slice (some ⟨blk', off', none⟩) m cap', .int .i64 list', .func (.func fb) #[] #[]] 78) := ⟨_, rfl⟩
  have uW : Hid (Up w W) := by rw [hW]; exact ((Up.refl _).alloc _).alloc _
  have c0 : W.cell? ⟨w.heap.size, 0, none⟩ = some (.slice (some ⟨blk, off, none⟩) n cap) := by rw [hW]; go_simp
  have c1 : W.cell? ⟨w.heap.size, 1, none⟩ = some (.int .i64 list) := by rw [hW]; go_simp
  have c2 : W.cell? ⟨w.heap.size, 2, none⟩ = some (.func (.func fb) #[] #[]) := by rw [hW]; go_simp
  have d0 : W.cell? ⟨w.heap.size + 1, 0, none⟩ = some (.slice (some ⟨blk', off', none⟩) m cap') := by rw [hW]; go_simp
  have d1 : W.cell? ⟨w.heap.size + 1, 1, none⟩ = some (.int .i64 list') := by rw [hW]; go_simp
  replace a0 := uW.out.cell a0
  replace b0 := uW.out.cell b0
  have hW' := hW.symm
  clear hW
  go_enter Try.func68, Try.ntmps68
  go_wp2_with fail
  clear hW'
  refine region_up (by kernel_rfl) (by kernel_rfl) ?_
  repeat (first
    | go_big_quiet_skip
    | (go_big_quiet_want; go_big_quiet_op; go_big_quiet_on)
    | (go_big_quiet_want
       apply Exists.intro
       refine ⟨fun w' hw' => ?_, ?_⟩
       (skip
        have a0 := hw'.cell a0
        have b0 := hw'.cell b0
        have c0 := hw'.cell c0
        have c2 := hw'.cell c2
        have d0 := hw'.cell d0
        go_simp
        first
        | done
        | with_reducible rfl
        | exact quiet_call hw' (HB.out y x _)
       )
       go_big_quiet_on
       try simp only [Act.put, List.setIfInBounds_toArray, List.set_cons_zero, List.set_cons_succ]))
  intro w2 hu2
  go_wp2
  go_ret
  exact ⟨rfl, uW.out.trans hu2⟩

set_option maxRecDepth 20000 in
set_option maxHeartbeats 8000000 in
theorem aheadN_other (fb : FuncId) (rk : ETN → Int) (hB : BeforeN fb rk) (list n blk off cap list' m blk' off' cap' : Nat) (x y : ETN) (w : World) (hn : 0 < n) (hm : 0 < m) (ln : n ≤ cap) (lm : m ≤ cap') (cn : cap ≤ maxLen) (cm : cap' ≤ maxLen)
    (a0 : w.cell? ⟨blk, off, none⟩ = some (.int .i64 x)) (b0 : w.cell? ⟨blk', off', none⟩ = some (.int .i64 y)) (hl : ¬ list < list') :
    Calls Try.prog 68 #[.agg #[.slice (some ⟨blk, off, none⟩) n cap, .int .i64 list, .func (.func fb) #[] #[]], .agg #[.slice (some ⟨blk', off', none⟩) m cap', .int .i64 list', .func (.func fb) #[] #[]]] w fun e w' => e = .returned (.bool (askB rk x y)) ∧ Up w w' := by
  have hcf := hB.enter
  have HB := hide hB.asks
  clear hB
  obtain ⟨W, hW⟩ : ∃ W, W = (w.alloc (.cells #[.slice (some ⟨blk, off, none⟩) n cap, .int .i64 list, .func (.func fb) #[] #[]] 78)).alloc (.cells #[.slice (some ⟨blk', off', none⟩) m cap', .int .i64 list', .func (.func fb) #[] #[]] 78) := ⟨_, rfl⟩
  have uW : Hid (Up w W) := by rw [hW]; exact ((Up.refl _).alloc _).alloc _
  have c0 : W.cell? ⟨w.heap.size, 0, none⟩ = some (.slice (some ⟨blk, off, none⟩) n cap) := by rw [hW]; go_simp
  have c1 : W.cell? ⟨w.heap.size, 1, none⟩ = some (.int .i64 list) := by rw [hW]; go_simp
  have c2 : W.cell? ⟨w.heap.size, 2, none⟩ = some (.func (.func fb) #[] #[]) := by rw [hW]; go_simp
  have d0 : W.cell? ⟨w.heap.size + 1, 0, none⟩ = some (.slice (some ⟨blk', off', none⟩) m cap') := by rw [hW]; go_simp
  have d1 : W.cell? ⟨w.heap.size + 1, 1, none⟩ = some (.int .i64 list') := by rw [hW]; go_simp
  replace a0 := uW.out.cell a0
  replace b0 := uW.out.cell b0
  have hW' := hW.symm
  clear hW
  go_enter Try.func68, Try.ntmps68
  go_wp2_with fail
  clear hW'
  refine region_up (by kernel_rfl) (by kernel_rfl) ?_
  repeat (first
    | go_big_quiet_skip
    | (go_big_quiet_want; go_big_quiet_op; go_big_quiet_on)
    | (go_big_quiet_want
       apply Exists.intro
       refine ⟨fun w' hw' => ?_, ?_⟩
       (skip
        have a0 := hw'.cell a0
        have b0 := hw'.cell b0
        have c0 := hw'.cell c0
        have c2 := hw'.cell c2
        have d0 := hw'.cell d0
        go_simp
        first
        | done
        | with_reducible rfl
        | exact quiet_call hw' (HB.out x y _)
       )
       go_big_quiet_on
       try simp only [Act.put, List.setIfInBounds_toArray, List.set_cons_zero, List.set_cons_succ]))
  intro w2 hu2
  go_wp2
  go_ret
  exact ⟨rfl, uW.out.trans hu2⟩

theorem aheadN_calls (fb : FuncId) (rk : ETN → Int) (hB : BeforeN fb rk) (r s : RunM ETN) (w : World) (hr : 0 < r.rest.length) (hs : 0 < s.rest.length) (or : RowOkN w r) (os : RowOkN w s) :
    Calls Try.prog 68 #[runValN fb r, runValN fb s] w fun e w' => e = .returned (.bool (aheadM rk eZeroN r s)) ∧ Up w w' := by
  have a0 := or.2.2 0 hr 0 _ rfl
  have b0 := os.2.2 0 hs 0 _ rfl
  simp only [Nat.zero_mul, Nat.add_zero] at a0 b0
  rw [aheadM_if]
  by_cases hl : r.list < s.list
  · rw [if_pos hl]
    exact aheadN_lower fb rk hB _ _ _ _ _ _ _ _ _ _ (r.rest.getD 0 eZeroN) (s.rest.getD 0 eZeroN) w hr hs or.1 os.1 or.2.1 os.2.1 a0 b0 hl
  · rw [if_neg hl]
    exact aheadN_other fb rk hB _ _ _ _ _ _ _ _ _ _ (r.rest.getD 0 eZeroN) (s.rest.getD 0 eZeroN) w hr hs or.1 os.1 or.2.1 os.2.1 a0 b0 hl

end Go.Proofs.Ytcemdiloiachlaa
