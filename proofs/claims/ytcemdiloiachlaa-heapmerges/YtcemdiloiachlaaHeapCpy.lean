/-
  copy within a row that a call owns: from one place on, one further; no function of the program.
-/
import Derived.Test.YtcemdiloiachlaaHeapCells
import Derived.Laws.CopyOwn
import Derived.Deep.RegionLaw
namespace Go.Proofs.Ytcemdiloiachlaa
open Go.ChangeShapes Go.WideShapes Go.ChangeAt Go.RowKit

theorem flat_take {α : Type} {k : Nat} {cs : α → List Value} (hk : ∀ v, (cs v).length = k) : ∀ (l : List α) (m : Nat), (l.take m).flatMap cs = (l.flatMap cs).take (m * k)
  | [], m => by simp
  | x :: l, 0 => by simp
  | x :: l, m + 1 => by
    rw [List.take_succ_cons, List.flatMap_cons, List.flatMap_cons, flat_take hk l m, List.take_append, hk]
    rw [show (m + 1) * k - k = m * k by rw [Nat.add_mul]; omega, List.take_of_length_le (l := cs x) (by rw [hk, Nat.add_mul]; omega)]
theorem flat_drop {α : Type} {k : Nat} {cs : α → List Value} (hk : ∀ v, (cs v).length = k) : ∀ (l : List α) (m : Nat), (l.drop m).flatMap cs = (l.flatMap cs).drop (m * k)
  | [], m => by simp
  | x :: l, 0 => by simp
  | x :: l, m + 1 => by
    rw [List.drop_succ_cons, List.flatMap_cons, flat_drop hk l m, List.drop_append, hk]
    rw [show (m + 1) * k - k = m * k by rw [Nat.add_mul]; omega, show (cs x).drop ((m + 1) * k) = [] from List.drop_eq_nil_of_le (by rw [hk, Nat.add_mul]; omega), List.nil_append]

theorem run_copy_rowK {P : Program} (w : World) (dT ty elem : TypeId) (k g o dLen dCap : Nat) (a : Addr) (sLen sCap : Nat) (cur : Array Value) (t : TypeId) (cs : List Value)
    (hu : P.underlying dT = some (.slice elem)) (hs : (P.info? elem).map (·.size) = some k)
    (hg : w.heap[g]? = some (.cells cur t (0, 0))) (hn : cs.length = Nat.min sLen dLen * k)
    (hsrc : ∀ j v, cs[j]? = some v → w.cell? (a.add j) = some v) (hfit : o + cs.length ≤ cur.size) (h1 : ∀ v ∈ cs, v.oneCell' = true) :
    (Builtin.copy_ #[dT, dT] ty #[.slice (some ⟨g, o, none⟩) dLen dCap, .slice (some a) sLen sCap]).run P w =
      .ok (goInt (Nat.min sLen dLen)) (w.setRow g (cur.toList.take o ++ cs ++ cur.toList.drop (o + cs.length)).toArray) := by
  have hl := run_loadCells_list (P := P) w a cs hsrc
  have hst := run_storeCells_at P g o t cs 0 cur w hg (by simpa using hfit) h1
  cases hq : P.info? elem with
  | none => simp [hq] at hs
  | some i =>
    have hi : i.size = k := by simpa [hq] using hs
    simp [Builtin.copy_, run_underlying hu, Builtin.lenOf, Builtin.firstCells, sizeOf, typeInfo, hq, hi, ← hn, hl, hst]
theorem run_copy_noneK {P : Program} (w : World) (dT ty elem : TypeId) (k : Nat) (dp sp : Option Addr) (dCap sLen sCap : Nat)
    (hu : P.underlying dT = some (.slice elem)) (hs : (P.info? elem).map (·.size) = some k) :
    (Builtin.copy_ #[dT, dT] ty #[.slice dp 0 dCap, .slice sp sLen sCap]).run P w = .ok (goInt 0) w := by
  cases hq : P.info? elem with
  | none => simp [hq] at hs
  | some i =>
    have hl : ∀ a : Addr, (loadCells a 0).run P w = .ok #[] w := fun a => run_loadCells_list (P := P) w a [] (fun j v hv => by cases hv)
    cases dp <;> cases sp <;> simp [Builtin.copy_, run_underlying hu, Builtin.lenOf, Builtin.firstCells, sizeOf, typeInfo, hq, hl, storeCells]

/-- What stands from j on is copied one further. -/
def shiftL {α : Type} (l : List α) (j : Nat) : List α := l.take (j + 1) ++ (l.drop j).take (l.length - (j + 1))
theorem shiftL_length {α : Type} (l : List α) (j : Nat) (hj : j < l.length) : (shiftL l j).length = l.length := by
  unfold shiftL
  simp
  omega
theorem run_copy_shift {α : Type} {cs : α → List Value} {P : Program} {t e : TypeId} {k : Nat} (ht : P.underlying t = some (.slice e)) (hz : (P.info? e).map (·.size) = some k) (hk : ∀ v, (cs v).length = k) (hone : ∀ v, ∀ u ∈ cs v, u.oneCell' = true)
    {w : World} (base : Nat) (ty : TypeId) (dp sp : Option Addr) (dLen dCap sLen sCap : Nat)
    (g cap j : Nat) (l : List α) (hown : OwnG e k cs w base (.slice (some ⟨g, 0, none⟩) l.length cap) l) (hj : j < l.length) (hdl : dLen = l.length - (j + 1)) (hsl : sLen = l.length - j) (hdp : 0 < dLen → dp = some ⟨g, (j + 1) * k, none⟩) (hsp : 0 < dLen → sp = some ⟨g, j * k, none⟩) :
    ∃ w', (Builtin.copy_ #[t, t] ty #[.slice dp dLen dCap, .slice sp sLen sCap]).run P w = .ok (goInt dLen) w' ∧ OwnG e k cs w' base (.slice (some ⟨g, 0, none⟩) l.length cap) (shiftL l j) ∧ w.grownBy w' (some g) := by
  by_cases h0 : dLen = 0
  · subst h0
    refine ⟨w, run_copy_noneK (P := P) w t ty e k dp sp dCap sLen sCap ht hz, ?_, ⟨rfl, rfl, rfl, Nat.le_refl _, fun _ _ _ => rfl⟩⟩
    have e1 : shiftL l j = l := by
      unfold shiftL
      rw [← hdl, List.take_zero, List.append_nil, List.take_of_length_le (by omega)]
    rw [e1]
    exact hown
  · obtain rfl := hdp (by omega)
    obtain rfl := hsp (by omega)
    have hown0 := hown
    rcases hown.2 with ⟨h1, _⟩ | ⟨g', cap', cur, hv, hb, hg, h2, h3, h4, h5⟩
    · cases h1
    · cases hv
      obtain ⟨C, hC⟩ : ∃ C, C = ((l.drop j).take (l.length - (j + 1))).flatMap cs := ⟨_, rfl⟩
      have hCl : C.length = (l.length - (j + 1)) * k := by
        rw [hC, flatG_length hk]
        congr 1
        simp
        omega
      have hmin : Nat.min sLen dLen = l.length - (j + 1) := by rw [hdl, hsl]; show min _ _ = _; omega
      have hmul : (j + 1) * k + (l.length - (j + 1)) * k = l.length * k := by rw [← Nat.add_mul]; congr 1; omega
      have hcapk : l.length * k ≤ cap * k := Nat.mul_le_mul_right k h2
      have hrun := run_copy_rowK (P := P) w t ty e k g ((j + 1) * k) dLen dCap ⟨g, j * k, none⟩ sLen sCap cur e C ht hz hg (by rw [hCl, hmin]) (fun q v hq => by
          have hqk : q < C.length := by
            rcases Nat.lt_or_ge q C.length with h' | h'
            · exact h'
            · rw [List.getElem?_eq_none h'] at hq; cases hq
          have hjk : j * k + q < l.length * k := by
            have : (j + 1) * k = j * k + k := by rw [Nat.add_mul]; omega
            omega
          rw [show (⟨g, j * k, none⟩ : Addr).add q = ⟨g, j * k + q, none⟩ by unfold Addr.add; split <;> simp_all]
          rw [World.ownsRow.cellAt hown0 (j * k + q) hjk]
          rw [hC, flat_take hk, flat_drop hk, List.getElem?_take, List.getElem?_drop] at hq
          split at hq
          · exact hq
          · cases hq) (by rw [hCl]; omega) (fun v hv => by
          rw [hC] at hv
          obtain ⟨x, _, hx⟩ := List.mem_flatMap.1 hv
          exact hone x v hx)
      rw [hmin, ← hdl] at hrun
      rw [List.append_assoc] at hrun
      refine ⟨_, hrun, ⟨?_, .inr ⟨g, cap, _, by rw [shiftL_length l j hj], hb, setRow_heap w g cur _ e _ hg, by rw [shiftL_length l j hj]; exact h2, h3, ?_, ?_⟩⟩, ⟨rfl, rfl, rfl, by simp [World.setRow], fun y hy hne => setRow_other w g y _ (by intro e; subst e; exact hne rfl)⟩⟩
      · rw [flatG_length hk, shiftL_length l j hj]
      · simp
        omega
      · rw [shiftL_length l j hj]
        have e1 : (shiftL l j).flatMap cs = (cur.toList.take ((j + 1) * k)) ++ C := by
          unfold shiftL
          rw [List.flatMap_append, flat_take hk, ← h5, List.take_take, ← hC]
          congr 2
          omega
        rw [e1]
        have e2 : (cur.toList.take ((j + 1) * k)).length = (j + 1) * k := by rw [List.length_take]; simp; omega
        rw [← List.append_assoc, List.take_append_of_le_length (by rw [List.length_append, e2, hCl]; omega), List.take_of_length_le (by rw [List.length_append, e2, hCl]; omega)]

/-- A guard: the next operation is this one. -/
theorem step_at {P : Program} {ops : Array Oper} {o : Oper} {a : Act} {w : World} {K : Act → World → Prop} {Q : Exit → Act → World → Prop} {E : Prop} (p : Op) (_ : o.op = p) (h : if Region.wanted o (yielded ops a.tmps) = true then Oper.wp P o a w K Q else E) : if Region.wanted o (yielded ops a.tmps) = true then Oper.wp P o a w K Q else E := h

end Go.Proofs.Ytcemdiloiachlaa
