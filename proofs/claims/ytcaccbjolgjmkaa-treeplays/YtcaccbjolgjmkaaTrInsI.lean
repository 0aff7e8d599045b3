/-
  slices.Insert and slices.Delete of rows of whole numbers, as the library's text runs.
-/
import Derived.Test.YtcaccbjolgjmkaaTrLibI
namespace Go.Proofs.Ytcaccbjolgjmkaa
open Go.ChangeShapes Go.WideShapes Go.ChangeAt Go.RowKit
set_option linter.unusedVariables false
set_option maxRecDepth 100000
attribute [local go_sem ↓] Go.wp_at_zero Go.wp_at_succ

def jcellsI (l : List Int) : List Value := l.map (Value.int .i64)
theorem jcellsI_one (l : List Int) : ∀ u ∈ jcellsI l, u.oneCell' = true := by
  intro u hu
  obtain ⟨_, _, rfl⟩ := List.mem_map.1 hu
  rfl
theorem jcellsI_length (l : List Int) : (jcellsI l).length = l.length := by simp [jcellsI]
/-- What Insert leaves. -/
def InsPostI (w : World) (v : Value) (l : List Int) (e : Ending) (w' : World) : Prop :=
  ∃ v', e = .returned v' ∧ Own 3 (Value.int .i64) w' 0 v' l ∧ Chg (fun y => v.ownBlock = some y) w w' ∧ (v'.ownBlock = v.ownBlock ∨ ∃ g, v'.ownBlock = some g ∧ w.heap.size ≤ g ∧ g < w'.heap.size)

set_option maxHeartbeats 4000000 in
/-- At the end. -/
theorem insI_end (a : Option Addr) (cap vb n : Nat) (l : List Int) (x : Int) (w : World) (hown : Own 3 (Value.int .i64) w 0 (.slice a n cap) l) (hl : l.length = n) (hcap : n ≤ cap) (hn : n ≤ 1000) (hv : w.cell? ⟨vb, 0, none⟩ = some ((Value.int .i64) x)) :
    Calls Try.prog 34 #[.slice a n cap, .int .i64 n, .slice (some ⟨vb, 0, none⟩) 1 1] w fun e w' => InsPostI w (.slice a n cap) (l ++ [x]) e w' := by
  have HO := hide hown
  have HL := hide hl
  have HR : Hid (Rd (Value.int .i64) (fun _ => False) w (.slice (some ⟨vb, 0, none⟩) 1 1) [x]) := ⟨_, 1, rfl, Nat.le_refl _, by simp [maxLen], .inr ⟨vb, 0, rfl, fun h => h, fun j u hj => by
    cases j with
    | zero => simp at hj; subst hj; exact hv
    | succ j => simp at hj⟩⟩
  clear hown hl hv
  go_enter Try.func34, Try.ntmps34
  go_wp2_with (at_builtin; refine append_rd elemI rfl _ _ rfl 0 _ _ l [x] rfl rfl HO.out HR.out (by simp; rw [HL.out]; omega) (Nat.zero_le _) ?_)
  all_goals
    intro v' w' ho hg hat
    have HO2 := hide ho
    have HG := hide hg
    have HA := hide hat
    clear ho hg hat
    go_wp2
    go_ret
    have hob : ∀ c1 c2, (Value.slice a n c1).ownBlock = (Value.slice a n c2).ownBlock := fun _ _ => by cases a <;> rfl
    refine ⟨v', rfl, HO2.out, (chg_grown HG.out).mono (fun y _ h => (hob _ _).trans h), ?_⟩
    rcases HA.out with h | h
    · exact .inl (h.trans (hob _ _))
    · exact .inr ⟨_, h, Nat.le_refl _, (HO2.out.lt _ h).2⟩

theorem take_insI (l : List Int) (p : Nat) (x : Int) (hp : p ≤ l.length) : (l.take p ++ x :: l.drop p).length = l.length + 1 := by simp; omega
theorem jcellsI_take (l : List Int) (p : Nat) : jcellsI (l.take p) = (jcellsI l).take p := by simp [jcellsI]
theorem jcellsI_drop (l : List Int) (p : Nat) : jcellsI (l.drop p) = (jcellsI l).drop p := by simp [jcellsI]

set_option maxHeartbeats 8000000 in
/-- Within, where there is no room. -/
theorem insI_grow (g vb n p : Nat) (cur : Array Value) (l : List Int) (x : Int) (w : World) (hg : w.heap[g]? = some (.cells cur 3 (0, 0))) (hcs : cur.size = n) (hct : cur.toList = jcellsI l) (hl : l.length = n) (hn : n ≤ 1000) (hp : p < n) (hv : w.cell? ⟨vb, 0, none⟩ = some ((Value.int .i64) x)) :
    Calls Try.prog 34 #[.slice (some ⟨g, 0, none⟩) n n, .int .i64 p, .slice (some ⟨vb, 0, none⟩) 1 1] w fun e w' => InsPostI w (.slice (some ⟨g, 0, none⟩) n n) (l.take p ++ x :: l.drop p) e w' := by
  obtain ⟨i0, hi0, hz0, hzs, hzb⟩ := info_parts elemI.hi
  have hgl : g < w.heap.size := by
    rcases Nat.lt_or_ge g w.heap.size with h' | h'
    · exact h'
    · rw [Array.getElem?_eq_none h'] at hg; cases hg
  have hvl : vb < w.heap.size := World.block_lt_of_cell? w _ hv
  have hold : (Builtin.firstCells i0.size p (.slice (some ⟨g, 0, none⟩) p n)).run Try.prog w.drew = .ok (jcellsI (l.take p)).toArray w.drew := by
    rw [hzs]
    refine run_firstCells_some w.drew 1 p ⟨g, 0, none⟩ p n (jcellsI (l.take p)) (by rw [jcellsI_length, List.length_take]; omega) (fun j v hj => ?_)
    rw [Addr.add_lit, show w.drew.cell? ⟨g, 0 + j, none⟩ = w.cell? ⟨g, 0 + j, none⟩ from rfl, cell_of hg, ← Array.getElem?_toList, hct]
    rw [jcellsI_take, List.getElem?_take] at hj
    split at hj
    · rw [Nat.zero_add]; exact hj
    · cases hj
  obtain ⟨k, hk⟩ : ∃ k, k = n + 1 - p := ⟨_, rfl⟩
  have hap : ∀ ty, (Builtin.append_ #[26, 3] ty #[.slice (some ⟨g, 0, none⟩) p n, .int .i64 (k : Nat)]).run Try.prog w = _ := fun ty =>
    Lib.run_append_grow_zeros w 26 3 ty 3 i0 _ .i64 .i64 Try.underlying26 Try.underlying3 hi0 hz0 (some ⟨g, 0, none⟩) p n (jcellsI (l.take p)) hold k (by omega) (by omega) (by omega) (by omega) (by rw [hzb]; omega) (by rw [hzb]; exact growslice_fits (by omega) (by omega))
  have hpk : p + k = n + 1 := by omega
  rw [hpk] at hap
  have hge := grownCap_ge w (n + 1) n 3
  have hle := grownCap_le_maxLen w (n + 1) n 3 (by unfold maxLen; omega)
  obtain ⟨G, hG⟩ : ∃ G, G = grownCap w (n + 1) n 3 := ⟨_, rfl⟩
  rw [← hG] at hap hge hle
  obtain ⟨R, hR⟩ : ∃ R : Array Value, R = (jcellsI (l.take p)).toArray ++ Builtin.zeroCells (.int .i64 0 : Value).cells k ++ Builtin.zeroCells (.int .i64 0 : Value).cells (G - (n + 1)) := ⟨_, rfl⟩
  rw [← hR] at hap
  have hRs : R.size = G := by rw [hR]; simp [Builtin.zeroCells, Value.cells, jcellsI_length]; omega
  have hRt : R.toList.take p = jcellsI (l.take p) := by
    rw [hR]
    simp only [Array.toList_append, List.append_assoc]
    rw [List.take_append_of_le_length (by simp [jcellsI_length]; omega), List.take_of_length_le (by simp [jcellsI_length]; omega)]
  obtain ⟨W1, hW1⟩ : ∃ W1, W1 = w.drew.alloc (.cells R 3) := ⟨_, rfl⟩
  rw [← hW1] at hap
  have hb1 : W1.heap[w.heap.size]? = some (.cells R 3 (0, 0)) := by rw [hW1]; exact heap_alloc_new w.drew _
  have hu1 : Up w W1 := by rw [hW1]; exact (Up.refl w).drew.alloc _
  have hW1s : w.heap.size < W1.heap.size := by rw [hW1]; simp
  -- the number
  have hc1 : ∀ ty dc, (Builtin.copy_ #[26, 26] ty #[.slice (some ⟨w.heap.size, p, none⟩) (n + 1 - p) dc, .slice (some ⟨vb, 0, none⟩) 1 1]).run Try.prog W1 = _ := fun ty dc =>
    run_copy_row1 W1 26 ty 3 w.heap.size p (n + 1 - p) dc ⟨vb, 0, none⟩ 1 1 R 3 (jcellsI [x]) Try.underlying26 elemI.size hb1 (by rw [jcellsI_length]; show 1 = min 1 _; omega) (fun j u hj => by
      cases j with
      | zero => simp [jcellsI] at hj; subst hj; exact hu1.cell (p := ⟨vb, 0, none⟩) hv
      | succ j => simp [jcellsI] at hj) (by rw [jcellsI_length, hRs]; simp; omega) (jcellsI_one _)
  obtain ⟨R2, hR2⟩ : ∃ R2 : Array Value, R2 = (R.toList.take p ++ jcellsI [x] ++ R.toList.drop (p + (jcellsI [x]).length)).toArray := ⟨_, rfl⟩
  rw [← hR2] at hc1
  have hR2s : R2.size = G := by rw [hR2]; simp [jcellsI]; omega
  obtain ⟨W2, hW2⟩ : ∃ W2, W2 = W1.setRow w.heap.size R2 := ⟨_, rfl⟩
  rw [← hW2] at hc1
  have hb2 : W2.heap[w.heap.size]? = some (.cells R2 3 (0, 0)) := by rw [hW2]; exact setRow_heap W1 w.heap.size R _ _ _ hb1
  have hch2 : Chg (fun y => y = w.heap.size) W1 W2 := by rw [hW2]; exact chg_setRow _
  have hu2 : Up w W2 := up_of_chg_new hu1 hch2 (Nat.le_refl _)
  -- what stood behind
  have hc2 : ∀ ty dc sc, (Builtin.copy_ #[26, 26] ty #[.slice (some ⟨w.heap.size, p + 1, none⟩) (n - p) dc, .slice (some ⟨g, p, none⟩) (n - p) sc]).run Try.prog W2.drew = _ := fun ty dc sc =>
    run_copy_row1 W2.drew 26 ty 3 w.heap.size (p + 1) (n - p) dc ⟨g, p, none⟩ (n - p) sc R2 3 (jcellsI (l.drop p)) Try.underlying26 elemI.size hb2 (by rw [jcellsI_length, List.length_drop]; show _ = min _ _; omega) (fun j u hj => by
      rw [Addr.add_lit]
      refine (hu2.drew).cell (p := ⟨g, p + j, none⟩) ?_
      rw [cell_of hg, ← Array.getElem?_toList, hct]
      rwa [jcellsI_drop, List.getElem?_drop] at hj) (by rw [jcellsI_length, List.length_drop, hR2s]; omega) (jcellsI_one _)
  obtain ⟨R3, hR3⟩ : ∃ R3 : Array Value, R3 = (R2.toList.take (p + 1) ++ jcellsI (l.drop p) ++ R2.toList.drop (p + 1 + (jcellsI (l.drop p)).length)).toArray := ⟨_, rfl⟩
  rw [← hR3] at hc2
  have hR3s : R3.size = G := by rw [hR3]; simp [jcellsI]; omega
  obtain ⟨W3, hW3⟩ : ∃ W3, W3 = W2.drew.setRow w.heap.size R3 := ⟨_, rfl⟩
  rw [← hW3] at hc2
  have hb3 : W3.heap[w.heap.size]? = some (.cells R3 3 (0, 0)) := by rw [hW3]; exact setRow_heap W2.drew w.heap.size R2 _ _ _ hb2
  have hu3 : Up w W3 := by rw [hW3]; exact up_of_chg_new hu2.drew (chg_setRow _) (Nat.le_refl _)
  have hW3s : w.heap.size < W3.heap.size := by
    rcases Nat.lt_or_ge w.heap.size W3.heap.size with h' | h'
    · exact h'
    · rw [Array.getElem?_eq_none h'] at hb3; cases hb3
  have hR3t : R3.toList.take (n + 1) = jcellsI (l.take p ++ x :: l.drop p) := by
    have e1 : R2.toList.take (p + 1) = jcellsI (l.take p) ++ jcellsI [x] := by
      rw [hR2]
      simp only []
      rw [hRt, List.take_append_of_le_length (by simp [jcellsI_length]; omega), List.take_of_length_le (by simp [jcellsI_length]; omega)]
    rw [hR3]
    simp only []
    rw [e1, List.take_append_of_le_length (by simp [jcellsI_length]; omega), List.take_of_length_le (by simp [jcellsI_length]; omega)]
    simp [jcellsI]
  have HOW := hide (Own.mk (e := 3) (enc := (Value.int .i64)) (base := 0) (n := n + 1) (cap := G) (Nat.zero_le _) hb3 (by rw [take_insI l p x (by omega), hl]) hge hle hR3s hR3t)
  have HU3 := hide hu3
  have HS3 := hide hW3s
  have e1 : IntKind.i64.wrap ((n : Int) + 1) = (n : Int) + 1 := by rw [IntKind.wrap_i64]; omega
  have e2 : IntKind.i64.wrap ((n : Int) + 1 - (p : Int)) = (k : Int) := by rw [IntKind.wrap_i64]; omega
  have e3 : IntKind.i64.wrap ((p : Int) + 1) = (p : Int) + 1 := by rw [IntKind.wrap_i64]; omega
  have t1 : decide ((n : Int) + 1 > (n : Int)) = true := decide_eq_true (by omega)
  have t2 : ((p : Int) == (n : Int)) = false := by simp; omega
  have p0 : (0 : Int) ≤ (p : Int) := by omega
  have p1 : (p : Int) ≤ (n : Int) := by omega
  have p2 : (0 : Int) ≤ (p : Int) + 1 := by omega
  have htn : ((p : Int) + 1).toNat = p + 1 := by omega
  have q1 : ¬ (n = p) := by omega
  have q2 : ¬ (G = p) := by omega
  have q3 : ¬ (G = p + 1) := by omega
  have q4 : (p : Int) + 1 ≤ (n : Int) + 1 := by omega
  have q5 : (p : Int) ≤ (n : Int) + 1 := by omega
  have q6 : (n : Int) + 1 - (p : Int) = (k : Int) := by omega
  clear hb1 hb2 hb3 hch2 hu1 hu2 hu3 hR3t hR3 hR2 hR hW1 hW2 hW3 hG hRs hRt hR2s hR3s hW1s hW3s hg hcs hct hv hold hi0 hz0 hzs hzb hpk
  replace hk := hide hk
  --G1
  go_enter Try.func34, Try.ntmps34
  go_wp2_with (at_builtin; refine Lib.wpList_append_run _ rfl _ _ _ _ rfl _ _ rfl rfl _ _ (hap _) ?_)
  --G2
  go_region
  all_goals
    go_wp2
    go_ret
    exact ⟨_, rfl, HOW.out, Chg.of_up HU3.out, .inr ⟨_, rfl, Nat.le_refl _, HS3.out⟩⟩

set_option maxHeartbeats 8000000 in
/-- Within, where there is room. -/
theorem insI_room (g cap vb n p : Nat) (cur : Array Value) (l : List Int) (x : Int) (w : World) (hg : w.heap[g]? = some (.cells cur 3 (0, 0))) (hcs : cur.size = cap) (hct : cur.toList.take n = jcellsI l) (hl : l.length = n) (hn : n ≤ 1000) (hcap : n + 1 ≤ cap) (hcm : cap ≤ maxLen) (hp : p < n) (hvb : w.heap[vb]? = some (.cells #[(Value.int .i64) x] 3 (0, 0))) (hne : ¬ vb = g) :
    Calls Try.prog 34 #[.slice (some ⟨g, 0, none⟩) n cap, .int .i64 p, .slice (some ⟨vb, 0, none⟩) 1 1] w fun e w' => InsPostI w (.slice (some ⟨g, 0, none⟩) n cap) (l.take p ++ x :: l.drop p) e w' := by
  have hsa : w.shape? vb = some (3, 1) := by simp [World.shape?, hvb]
  have hsb : w.shape? g = some (3, cap) := by simp [World.shape?, hg, hcs]
  have hfa : w.frozen? ⟨vb, 0, none⟩ = false := by simp [World.frozen?, hvb]
  have hfe : w.frozen? ⟨vb, 1, none⟩ = false := by simp [World.frozen?, hvb]
  have hov : ∀ lb cb, (callFunc 52 #[.slice (some ⟨vb, 0, none⟩) 1 1, .slice (some ⟨g, p + 1, none⟩) lb cb]).run Try.prog w = .ok (.value (.bool false)) w := fun lb cb => by
    rw [run_callFunc_extern Try.func52 (by kernel_rfl) (by kernel_rfl) (by kernel_rfl) (e := Extern.SlicesOverlaps.overlaps #[26, 26] #[4]) (by kernel_rfl),
      Lib.run_overlaps_apart w 26 4 3 Try.underlying26 1 elemI.sizeOf ⟨vb, 0, none⟩ ⟨g, p + 1, none⟩ 1 1 lb cb hne _ _ _ _ hsa hsb (by omega) hfa hfe]
    rfl
  have hcg : ∀ j u, (jcellsI l)[j]? = some u → w.cell? ⟨g, j, none⟩ = some u := fun j u hj => by
    rw [cell_of hg, ← Array.getElem?_toList]
    rw [← hct, List.getElem?_take] at hj
    split at hj
    · exact hj
    · cases hj
  have hc1 : ∀ ty dc sc, (Builtin.copy_ #[26, 26] ty #[.slice (some ⟨g, p + 1, none⟩) (n - p) dc, .slice (some ⟨g, p, none⟩) (n + 1 - p) sc]).run Try.prog w.drew = _ := fun ty dc sc =>
    run_copy_row1 w.drew 26 ty 3 g (p + 1) (n - p) dc ⟨g, p, none⟩ (n + 1 - p) sc cur 3 (jcellsI (l.drop p)) Try.underlying26 elemI.size hg (by rw [jcellsI_length, List.length_drop]; show _ = min _ _; omega) (fun j u hj => by
      rw [Addr.add_lit]
      rw [jcellsI_drop, List.getElem?_drop] at hj
      exact hcg (p + j) u hj) (by rw [jcellsI_length, List.length_drop, hcs]; omega) (jcellsI_one _)
  obtain ⟨R1, hR1⟩ : ∃ R1 : Array Value, R1 = (cur.toList.take (p + 1) ++ jcellsI (l.drop p) ++ cur.toList.drop (p + 1 + (jcellsI (l.drop p)).length)).toArray := ⟨_, rfl⟩
  rw [← hR1] at hc1
  have hR1s : R1.size = cap := by rw [hR1]; simp [jcellsI]; omega
  obtain ⟨W1, hW1⟩ : ∃ W1, W1 = w.drew.setRow g R1 := ⟨_, rfl⟩
  rw [← hW1] at hc1
  have hb1 : W1.heap[g]? = some (.cells R1 3 (0, 0)) := by rw [hW1]; exact setRow_heap w.drew g cur _ _ _ hg
  have hch1 : Chg (fun y => y = g) w W1 := by rw [hW1]; exact ((Chg.refl (fun y => y = g) w).drew).trans (chg_setRow _) (fun _ _ h => h)
  have hv1 : W1.cell? ⟨vb, 0, none⟩ = some ((Value.int .i64) x) := hch1.cell (by rw [cell_of hvb]; rfl) hne
  have hc2 : ∀ ty dc, (Builtin.copy_ #[26, 26] ty #[.slice (some ⟨g, p, none⟩) (n + 1 - p) dc, .slice (some ⟨vb, 0, none⟩) 1 1]).run Try.prog W1 = _ := fun ty dc =>
    run_copy_row1 W1 26 ty 3 g p (n + 1 - p) dc ⟨vb, 0, none⟩ 1 1 R1 3 (jcellsI [x]) Try.underlying26 elemI.size hb1 (by rw [jcellsI_length]; show 1 = min 1 _; omega) (fun j u hj => by
      cases j with
      | zero => simp [jcellsI] at hj; subst hj; exact hv1
      | succ j => simp [jcellsI] at hj) (by rw [jcellsI_length, hR1s]; simp; omega) (jcellsI_one _)
  obtain ⟨R2, hR2⟩ : ∃ R2 : Array Value, R2 = (R1.toList.take p ++ jcellsI [x] ++ R1.toList.drop (p + (jcellsI [x]).length)).toArray := ⟨_, rfl⟩
  rw [← hR2] at hc2
  have hR2s : R2.size = cap := by rw [hR2]; simp [jcellsI]; omega
  obtain ⟨W2, hW2⟩ : ∃ W2, W2 = W1.setRow g R2 := ⟨_, rfl⟩
  rw [← hW2] at hc2
  have hb2 : W2.heap[g]? = some (.cells R2 3 (0, 0)) := by rw [hW2]; exact setRow_heap W1 g R1 _ _ _ hb1
  have hch2 : Chg (fun y => y = g) w W2 := by rw [hW2]; exact hch1.trans (chg_setRow _) (fun _ _ h => h)
  have hR2t : R2.toList.take (n + 1) = jcellsI (l.take p ++ x :: l.drop p) := by
    have e1 : R1.toList.take p = jcellsI (l.take p) := by
      rw [hR1]
      simp only []
      rw [List.append_assoc, List.take_append_of_le_length (by simp; omega), List.take_take, Nat.min_eq_left (by omega), jcellsI_take, ← hct, List.take_take, Nat.min_eq_left (by omega)]
    have e2 : (R1.toList.drop (p + 1)).take (n - p) = jcellsI (l.drop p) := by
      rw [hR1]
      simp only []
      rw [List.append_assoc, List.drop_append_of_le_length (by simp; omega), List.drop_eq_nil_of_le (by simp; omega), List.nil_append, List.take_append_of_le_length (by simp [jcellsI_length]; omega), List.take_of_length_le (by simp [jcellsI_length]; omega)]
    rw [hR2]
    simp only [jcellsI_length, List.length_singleton]
    rw [e1, List.take_append, List.take_of_length_le (by simp [jcellsI_length]; omega)]
    have e3 : (jcellsI (l.take p) ++ jcellsI [x]).length = p + 1 := by simp [jcellsI_length]; omega
    rw [e3, show n + 1 - (p + 1) = n - p by omega, e2]
    simp [jcellsI]
  have HOW := hide (Own.mk (e := 3) (enc := (Value.int .i64)) (base := 0) (n := n + 1) (cap := cap) (Nat.zero_le _) hb2 (by rw [take_insI l p x (by omega), hl]) hcap hcm hR2s hR2t)
  have HC2 := hide hch2
  have e1 : IntKind.i64.wrap ((n : Int) + 1) = (n : Int) + 1 := by rw [IntKind.wrap_i64]; omega
  have e3 : IntKind.i64.wrap ((p : Int) + 1) = (p : Int) + 1 := by rw [IntKind.wrap_i64]; omega
  have t1 : decide ((n : Int) + 1 > (cap : Int)) = false := decide_eq_false (by omega)
  have t2 : ((p : Int) == (n : Int)) = false := by simp; omega
  have p0 : (0 : Int) ≤ (p : Int) := by omega
  have p1 : (p : Int) ≤ (n : Int) := by omega
  have p2 : (0 : Int) ≤ (p : Int) + 1 := by omega
  have p3 : (0 : Int) ≤ (n : Int) + 1 := by omega
  have p4 : (n : Int) + 1 ≤ (cap : Int) := by omega
  have htn : ((p : Int) + 1).toNat = p + 1 := by omega
  have htn2 : ((n : Int) + 1).toNat = n + 1 := by omega
  have q1 : ¬ (cap = p) := by omega
  have q3 : ¬ (cap = p + 1) := by omega
  have q4 : (p : Int) + 1 ≤ (n : Int) + 1 := by omega
  have q5 : (p : Int) ≤ (n : Int) + 1 := by omega
  clear hb1 hb2 hch1 hch2 hR2t hR2 hR1 hW1 hW2 hR1s hR2s hg hcs hct hcg hsa hsb hfa hfe hvb hv1
  --G3
  go_enter Try.func34, Try.ntmps34
  go_wp2_with (simp only [hov])
  --G4
  go_region
  all_goals
    go_wp2
    go_ret
    exact ⟨_, rfl, HOW.out, HC2.out.mono (fun y _ h => by rw [h]; rfl), .inl rfl⟩

/-- All roads. -/
theorem insI_calls (v : Value) (l : List Int) (x : Int) (p vb : Nat) (w : World) (h : Own 3 (Value.int .i64) w 0 v l) (hn : l.length ≤ 1000) (hp : p ≤ l.length) (hvb : w.heap[vb]? = some (.cells #[(Value.int .i64) x] 3 (0, 0))) (hne : ¬ v.ownBlock = some vb) :
    Calls Try.prog 34 #[v, .int .i64 p, .slice (some ⟨vb, 0, none⟩) 1 1] w fun e w' => InsPostI w v (l.take p ++ x :: l.drop p) e w' := by
  have h0 := h
  by_cases hpn : p = l.length
  · subst hpn
    obtain ⟨a, cap, rfl, hc⟩ := h.slice
    have := insI_end a cap vb l.length l x w h0 rfl hc hn (by rw [cell_of hvb]; rfl)
    simpa using this
  · have hl : l ≠ [] := fun e => by rw [e] at hp hpn; simp at hp hpn; omega
    obtain ⟨g, cap, cur, rfl, _, hg, h1, h2, h3, h4⟩ := h.block hl
    have hvg : ¬ vb = g := fun e => hne (by rw [e]; rfl)
    by_cases hr : l.length + 1 ≤ cap
    · exact insI_room g cap vb _ p cur l x w hg h3 h4 rfl hn hr h2 (by omega) hvb hvg
    · obtain rfl : cap = l.length := by omega
      refine insI_grow g vb _ p cur l x w hg h3 ?_ rfl hn (by omega) (by rw [cell_of hvb]; rfl)
      refine Eq.trans ?_ h4
      rw [List.take_of_length_le (by rw [Array.length_toList]; omega)]

set_option maxHeartbeats 8000000 in
theorem delI_some (g cap n p : Nat) (cur : Array Value) (l : List Int) (w : World) (hg : w.heap[g]? = some (.cells cur 3 (0, 0))) (hcs : cur.size = cap) (hct : cur.toList.take n = jcellsI l) (hl : l.length = n) (hn : n ≤ 1000) (hcap : n ≤ cap) (hcm : cap ≤ maxLen) (hp : p < n) :
    Calls Try.prog 36 #[.slice (some ⟨g, 0, none⟩) n cap, .int .i64 p, .int .i64 ((p : Int) + 1)] w fun e w' => e = .returned (.slice (some ⟨g, 0, none⟩) (n - 1) cap) ∧ Own 3 (Value.int .i64) w' 0 (.slice (some ⟨g, 0, none⟩) (n - 1) cap) (l.take p ++ l.drop (p + 1)) ∧ Chg (fun y => y = g) w w' := by
  have hcg : ∀ j u, (jcellsI l)[j]? = some u → w.cell? ⟨g, j, none⟩ = some u := fun j u hj => by
    rw [cell_of hg, ← Array.getElem?_toList]
    rw [← hct, List.getElem?_take] at hj
    split at hj
    · exact hj
    · cases hj
  obtain ⟨A, hA, hsrc⟩ : ∃ A : Addr, (if cap = p + 1 then some (⟨g, 0, none⟩ : Addr) else some ⟨g, p + 1, none⟩) = some A ∧ ∀ j u, (jcellsI (l.drop (p + 1)))[j]? = some u → w.drew.cell? (A.add j) = some u := by
    by_cases h : cap = p + 1
    · refine ⟨⟨g, 0, none⟩, by simp [h], fun t u hu => ?_⟩
      rw [List.getElem?_eq_none (by rw [jcellsI_length, List.length_drop]; omega)] at hu
      cases hu
    · refine ⟨⟨g, p + 1, none⟩, by simp [h], fun t u hu => ?_⟩
      rw [Addr.add_lit]
      rw [jcellsI_drop, List.getElem?_drop] at hu
      exact hcg _ u hu
  have hc1 : ∀ ty c, (Builtin.append_ #[26, 26] ty #[.slice (some ⟨g, 0, none⟩) p cap, .slice (some A) (n - (p + 1)) c]).run Try.prog w.drew = _ := fun ty c =>
    run_append_row1 w.drew 26 ty 3 g p cap A (n - (p + 1)) c cur 3 (jcellsI (l.drop (p + 1))) Try.underlying26 elemI.size hg (by rw [jcellsI_length, List.length_drop]; omega) hsrc (jcellsI_one _) (by omega) (by omega)
  have hpn : p + (n - (p + 1)) = n - 1 := by omega
  rw [hpn] at hc1
  obtain ⟨R1, hR1⟩ : ∃ R1 : Array Value, R1 = (cur.toList.take p ++ jcellsI (l.drop (p + 1)) ++ cur.toList.drop (p + (jcellsI (l.drop (p + 1))).length)).toArray := ⟨_, rfl⟩
  rw [← hR1] at hc1
  have hR1s : R1.size = cap := by rw [hR1]; simp [jcellsI]; omega
  obtain ⟨W1, hW1⟩ : ∃ W1, W1 = w.drew.setRow g R1 := ⟨_, rfl⟩
  rw [← hW1] at hc1
  have hb1 : W1.heap[g]? = some (.cells R1 3 (0, 0)) := by rw [hW1]; exact setRow_heap w.drew g cur _ _ _ hg
  have hch1 : Chg (fun y => y = g) w W1 := by rw [hW1]; exact ((Chg.refl (fun y => y = g) w).drew).trans (chg_setRow _) (fun _ _ h => h)
  have hR1t : R1.toList.take (n - 1) = jcellsI (l.take p ++ l.drop (p + 1)) := by
    have e1 : cur.toList.take p = jcellsI (l.take p) := by rw [jcellsI_take, ← hct, List.take_take, Nat.min_eq_left (by omega)]
    rw [hR1]
    simp only []
    rw [e1, List.take_append_of_le_length (by simp [jcellsI_length]; omega), List.take_of_length_le (by simp [jcellsI_length]; omega)]
    simp [jcellsI]
  obtain ⟨z, hz⟩ : ∃ z, W1.cell? ⟨g, n - 1, none⟩ = some z := ⟨R1[n - 1]'(by omega), by rw [cell_of hb1, Array.getElem?_eq_getElem (by omega)]⟩
  have hfz : W1.frozen? ⟨g, n - 1, none⟩ = false := by simp [World.frozen?, hb1]
  have e1 : IntKind.i64.wrap ((p : Int) + 1) = (p : Int) + 1 := by rw [IntKind.wrap_i64]; omega
  have t2 : ((p : Int) == (p : Int) + 1) = false := by simp; omega
  have p0 : (0 : Int) ≤ (p : Int) := by omega
  have p1 : (p : Int) ≤ (p : Int) + 1 := by omega
  have p2 : (p : Int) + 1 ≤ (n : Int) := by omega
  have p3 : (p : Int) ≤ (n : Int) := by omega
  have p4 : (p : Int) ≤ (cap : Int) := by omega
  have p5 : (0 : Int) ≤ (p : Int) + 1 := by omega
  have p6 : (p : Int) + 1 ≤ (cap : Int) := by omega
  have p7 : (n : Int) ≤ (cap : Int) := by omega
  have htn : ((p : Int) + 1).toNat = p + 1 := by omega
  have q1 : ¬ (cap = p) := by omega
  have q2 : ¬ (n = p) := by omega
  have q3 : ((n - 1 : Nat) : Int) ≤ (n : Int) := by omega
  have q4 : ¬ (cap = n - 1) := by omega
  have q5 : n - (n - 1) = 1 := by omega
  have q6 : (0 : Int) ≤ ((n - 1 : Nat) : Int) := by omega
  have hclr : ∀ ty c, (Builtin.clear_ #[26] ty #[.slice (some ⟨g, n - 1, none⟩) 1 c]).run Try.prog W1 = .ok (.tuple #[]) (W1.setCell ⟨g, n - 1, none⟩ (.int .i64 0)) := fun ty c => by
    have z1 : ∀ j, j < 1 → (W1.cell? ⟨g, n - 1 + j, none⟩).isSome = true := fun j hj => by
      have ej : j = 0 := by omega
      rw [ej, Nat.add_zero, hz]; rfl
    have z2 : ∀ j, j < 1 → W1.frozen? ⟨g, n - 1 + j, none⟩ = false := fun j hj => by
      have ej : j = 0 := by omega
      rw [ej, Nat.add_zero]; exact hfz
    have := Lib.run_clear_slice (P := Try.prog) W1 26 3 ty (.int .i64 0) Try.underlying26 elemI.zero elemI.zc elemI.zo g (n - 1) 1 c (by omega) z1 z2
    exact this
  clear hcg hsrc hR1 hW1
  have HB1 := hide hb1
  have HC1 := hide hch1
  have HT1 := hide hR1t
  have HS1 := hide hR1s
  have HL := hide hl
  have HPN := hide hpn
  have HG := hide hg
  clear hb1 hch1 hR1t hR1s hl hpn hg hcs hct
  --D1
  go_enter Try.func36, Try.ntmps36
  go_wp2_with fail
  --D2
  go_region_law (refine step_append_run rfl _ _ 26 rfl _ _ rfl rfl (hc1 _ _) ?_)
  --D3
  all_goals
    go_wp2
    go_ret
    have hc2 : Chg (fun y => y = g) W1 (W1.setCell ⟨g, n - 1, none⟩ (.int .i64 0)) := (Chg.refl _ W1).set (C := fun y => y = g) (p := ⟨g, n - 1, none⟩) (fun _ => rfl) _
    refine ⟨rfl, Own.mk (e := 3) (enc := (Value.int .i64)) (base := 0) (Nat.zero_le _) (cur := R1.setIfInBounds (n - 1) (.int .i64 0)) ?_ (by rw [List.length_append, List.length_take, List.length_drop, HL.out]; omega) (by omega) hcm (by simp; exact HS1.out) ?_, HC1.out.trans hc2 (fun _ _ h => h)⟩
    · exact heap_setCell_same W1 g (n - 1) R1 _ _ HB1.out
    · rw [Array.toList_setIfInBounds, List.take_set_of_le (Nat.le_refl _)]
      exact HT1.out

theorem delI_calls (v : Value) (l : List Int) (p : Nat) (w : World) (h : Own 3 (Value.int .i64) w 0 v l) (hn : l.length ≤ 1000) (hp : p < l.length) :
    Calls Try.prog 36 #[v, .int .i64 p, .int .i64 ((p : Int) + 1)] w fun e w' => ∃ v', e = .returned v' ∧ Own 3 (Value.int .i64) w' 0 v' (l.take p ++ l.drop (p + 1)) ∧ Chg (fun y => v.ownBlock = some y) w w' ∧ v'.ownBlock = v.ownBlock := by
  have hl : l ≠ [] := fun e => by rw [e] at hp; exact absurd hp (Nat.not_lt_zero _)
  obtain ⟨g, cap, cur, rfl, _, hg, h1, h2, h3, h4⟩ := h.block hl
  refine (delI_some g cap _ p cur l w hg h3 h4 rfl hn h1 h2 hp).mono ?_
  rintro e w' ⟨rfl, ho, hc⟩
  exact ⟨_, rfl, ho, hc.mono (fun y _ h => by rw [h]; rfl), rfl⟩

end Go.Proofs.Ytcaccbjolgjmkaa
