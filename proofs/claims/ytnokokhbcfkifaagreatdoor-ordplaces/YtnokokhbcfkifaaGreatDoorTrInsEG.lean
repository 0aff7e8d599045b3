/-
  slices.Insert and slices.Delete of rows of entries, as the library's text runs.
  What is done to a list at a place: one more, one less, another one; plain facts, no function of the program.
  InsertAt, EraseAt and SetAt of a counted tree of entries, as their text runs.
-/
import Derived.Test.YtnokokhbcfkifaaGreatDoorTrLibEG
import Derived.Test.YtnokokhbcfkifaaGreatDoorTrRowG
import Derived.Test.YtnokokhbcfkifaaGreatDoorTrChEG
import Derived.Shelf.Abstract
namespace Go.Proofs.YtnokokhbcfkifaaGreatDoor
open Go.ChangeShapes Go.WideShapes Go.ChangeAt Go.RowKit
set_option linter.unusedVariables false
set_option maxRecDepth 100000
attribute [local go_sem ↓] Go.wp_at_zero Go.wp_at_succ

def jcellsE (l : List ET) : List Value := l.flatMap eC
theorem jcellsE_one (l : List ET) : ∀ u ∈ jcellsE l, u.oneCell' = true := by
  intro u hu
  obtain ⟨y, _, hy⟩ := List.mem_flatMap.1 hu
  exact eC_one y u hy
theorem jcellsE_length (l : List ET) : (jcellsE l).length = l.length * 2 := flatV_length eC_two l
/-- What Insert leaves. -/
def InsPostE (w : World) (v : Value) (l : List ET) (e : Ending) (w' : World) : Prop :=
  ∃ v', e = .returned v' ∧ OwnV 51 eC w' 0 v' l ∧ Chg (fun y => v.ownBlock = some y) w w' ∧ (v'.ownBlock = v.ownBlock ∨ ∃ g, v'.ownBlock = some g ∧ w.heap.size ≤ g ∧ g < w'.heap.size)

set_option maxHeartbeats 4000000 in
/-- At the end. -/
theorem insE_end (a : Option Addr) (cap vb n : Nat) (l : List ET) (x : ET) (w : World) (hown : OwnV 51 eC w 0 (.slice a n cap) l) (hl : l.length = n) (hcap : n ≤ cap) (hn : n ≤ 1000) (hv : ∀ j u, (eC x)[j]? = some u → w.cell? ⟨vb, j, none⟩ = some u) :
    Calls Tryz.prog 60 #[.slice a n cap, .int .i64 n, .slice (some ⟨vb, 0, none⟩) 1 1] w fun e w' => InsPostE w (.slice a n cap) (l ++ [x]) e w' := by
  have HO := hide hown
  have HL := hide hl
  have HR : Hid (RdV eC (fun _ => False) w (.slice (some ⟨vb, 0, none⟩) 1 1) [x]) := ⟨_, 1, rfl, Nat.le_refl _, by simp [maxLen], .inr ⟨vb, 0, rfl, ⟨fun h => h, World.block_lt_of_cell? w _ (hv 0 _ rfl)⟩, fun j u hj => by
    rw [Nat.zero_add]
    exact hv j u (by simpa using hj)⟩⟩
  clear hown hl hv
  go_enter Tryz.func60, Tryz.ntmps60
  go_wp2_with (at_builtin; refine append_rdV elemE rfl _ _ rfl 0 _ _ l [x] rfl rfl HO.out HR.out (by simp; rw [HL.out]; omega) (Nat.zero_le _) ?_)
  all_goals
    intro v' w' ho hg hat
    have HO2 := hide ho
    have HG := hide hg
    have HA := hide hat
    clear ho hg hat
    go_wp2
    go_ret
    have hob : ∀ c1 c2, (Value.slice a n c1).ownBlock = (Value.slice a n c2).ownBlock := fun _ _ => by cases a <;> rfl
    refine ⟨v', rfl, HO2.out, (chg_grown HG.out).mono (fun y _ h => (hob _ _).trans h), ?_⟩
    rcases HA.out with h | h
    · exact .inl (h.trans (hob _ _))
    · exact .inr ⟨_, h, Nat.le_refl _, (HO2.out.lt _ h).2⟩

theorem take_insE (l : List ET) (p : Nat) (x : ET) (hp : p ≤ l.length) : (l.take p ++ x :: l.drop p).length = l.length + 1 := by simp; omega
theorem jcellsE_take (l : List ET) (p : Nat) : jcellsE (l.take p) = (jcellsE l).take (p * 2) := flatV_take eC_two l p
theorem jcellsE_drop (l : List ET) (p : Nat) : jcellsE (l.drop p) = (jcellsE l).drop (p * 2) := flatV_drop eC_two l p

set_option maxHeartbeats 8000000 in
/-- Within, where there is no room. -/
theorem insE_grow (g vb n p : Nat) (cur : Array Value) (l : List ET) (x : ET) (w : World) (hg : w.heap[g]? = some (.cells cur 51 (0, 0))) (hcs : cur.size = n * 2) (hct : cur.toList = jcellsE l) (hl : l.length = n) (hn : n ≤ 1000) (hp : p < n) (hv : ∀ j u, (eC x)[j]? = some u → w.cell? ⟨vb, j, none⟩ = some u) :
    Calls Tryz.prog 60 #[.slice (some ⟨g, 0, none⟩) n n, .int .i64 p, .slice (some ⟨vb, 0, none⟩) 1 1] w fun e w' => InsPostE w (.slice (some ⟨g, 0, none⟩) n n) (l.take p ++ x :: l.drop p) e w' := by
  obtain ⟨i0, hi0, hz0, hzs, hzb⟩ := info_parts elemE.hi
  have hgl : g < w.heap.size := by
    rcases Nat.lt_or_ge g w.heap.size with h' | h'
    · exact h'
    · rw [Array.getElem?_eq_none h'] at hg; cases hg
  have hvl : vb < w.heap.size := World.block_lt_of_cell? w _ (hv 0 _ rfl)
  have hold : (Builtin.firstCells i0.size p (.slice (some ⟨g, 0, none⟩) p n)).run Tryz.prog w.drew = .ok (jcellsE (l.take p)).toArray w.drew := by
    rw [hzs]
    refine run_firstCells_some w.drew 2 p ⟨g, 0, none⟩ p n (jcellsE (l.take p)) (by rw [jcellsE_length, List.length_take]; omega) (fun j v hj => ?_)
    rw [Addr.add_lit, show w.drew.cell? ⟨g, 0 + j, none⟩ = w.cell? ⟨g, 0 + j, none⟩ from rfl, cell_of hg, ← Array.getElem?_toList, hct]
    rw [jcellsE_take, List.getElem?_take] at hj
    split at hj
    · rw [Nat.zero_add]; exact hj
    · cases hj
  obtain ⟨k, hk⟩ : ∃ k, k = n + 1 - p := ⟨_, rfl⟩
  have hap : ∀ ty, (Builtin.append_ #[36, 3] ty #[.slice (some ⟨g, 0, none⟩) p n, .int .i64 (k : Nat)]).run Tryz.prog w = _ := fun ty =>
    Lib.run_append_grow_zeros w 36 3 ty 51 i0 _ .i64 .i64 Tryz.underlying36 Tryz.underlying3 hi0 hz0 (some ⟨g, 0, none⟩) p n (jcellsE (l.take p)) hold k (by omega) (by omega) (by omega) (by omega) (by rw [hzb]; omega) (by rw [hzb]; exact growslice_fits (by omega) (by omega))
  have hpk : p + k = n + 1 := by omega
  rw [hpk] at hap
  have hge := grownCap_ge w (n + 1) n 51
  have hle := grownCap_le_maxLen w (n + 1) n 51 (by unfold maxLen; omega)
  obtain ⟨G, hG⟩ : ∃ G, G = grownCap w (n + 1) n 51 := ⟨_, rfl⟩
  rw [← hG] at hap hge hle
  obtain ⟨R, hR⟩ : ∃ R : Array Value, R = (jcellsE (l.take p)).toArray ++ Builtin.zeroCells (.agg #[.slice none 0 0, .int .i64 0] : Value).cells k ++ Builtin.zeroCells (.agg #[.slice none 0 0, .int .i64 0] : Value).cells (G - (n + 1)) := ⟨_, rfl⟩
  rw [← hR] at hap
  have hRs : R.size = G * 2 := by rw [hR]; simp [Builtin.zeroCells, Value.cells, jcellsE_length]; omega
  have hRt : R.toList.take (p * 2) = jcellsE (l.take p) := by
    rw [hR]
    simp only [Array.toList_append, List.append_assoc]
    rw [List.take_append_of_le_length (by simp [jcellsE_length]; omega), List.take_of_length_le (by simp [jcellsE_length]; omega)]
  obtain ⟨W1, hW1⟩ : ∃ W1, W1 = w.drew.alloc (.cells R 51) := ⟨_, rfl⟩
  rw [← hW1] at hap
  have hb1 : W1.heap[w.heap.size]? = some (.cells R 51 (0, 0)) := by rw [hW1]; exact heap_alloc_new w.drew _
  have hu1 : Up w W1 := by rw [hW1]; exact (Up.refl w).drew.alloc _
  have hW1s : w.heap.size < W1.heap.size := by rw [hW1]; simp
  -- the number
  have hc1 : ∀ ty dc, (Builtin.copy_ #[36, 36] ty #[.slice (some ⟨w.heap.size, p * 2, none⟩) (n + 1 - p) dc, .slice (some ⟨vb, 0, none⟩) 1 1]).run Tryz.prog W1 = _ := fun ty dc =>
    run_copy_row2 W1 36 ty 51 w.heap.size (p * 2) (n + 1 - p) dc ⟨vb, 0, none⟩ 1 1 R 51 (jcellsE [x]) Tryz.underlying36 elemE.size hb1 (by rw [jcellsE_length]; show 1 * 2 = min 1 _ * 2; omega) (fun j u hj => by
      rw [Addr.add_lit, Nat.zero_add]
      exact hu1.cell (p := ⟨vb, j, none⟩) (hv j u (by simpa [jcellsE] using hj))) (by rw [jcellsE_length, hRs]; simp; omega) (jcellsE_one _)
  obtain ⟨R2, hR2⟩ : ∃ R2 : Array Value, R2 = (R.toList.take (p * 2) ++ jcellsE [x] ++ R.toList.drop (p * 2 + (jcellsE [x]).length)).toArray := ⟨_, rfl⟩
  rw [← hR2] at hc1
  have hR2s : R2.size = G * 2 := by rw [hR2]; simp [jcellsE_length]; omega
  obtain ⟨W2, hW2⟩ : ∃ W2, W2 = W1.setRow w.heap.size R2 := ⟨_, rfl⟩
  rw [← hW2] at hc1
  have hb2 : W2.heap[w.heap.size]? = some (.cells R2 51 (0, 0)) := by rw [hW2]; exact setRow_heap W1 w.heap.size R _ _ _ hb1
  have hch2 : Chg (fun y => y = w.heap.size) W1 W2 := by rw [hW2]; exact chg_setRow _
  have hu2 : Up w W2 := up_of_chg_new hu1 hch2 (Nat.le_refl _)
  -- what stood behind
  have hc2 : ∀ ty dc sc, (Builtin.copy_ #[36, 36] ty #[.slice (some ⟨w.heap.size, (p + 1) * 2, none⟩) (n - p) dc, .slice (some ⟨g, p * 2, none⟩) (n - p) sc]).run Tryz.prog W2.drew = _ := fun ty dc sc =>
    run_copy_row2 W2.drew 36 ty 51 w.heap.size ((p + 1) * 2) (n - p) dc ⟨g, p * 2, none⟩ (n - p) sc R2 51 (jcellsE (l.drop p)) Tryz.underlying36 elemE.size hb2 (by rw [jcellsE_length, List.length_drop]; show _ = min _ _ * 2; omega) (fun j u hj => by
      rw [Addr.add_lit]
      refine (hu2.drew).cell (p := ⟨g, p * 2 + j, none⟩) ?_
      rw [cell_of hg, ← Array.getElem?_toList, hct]
      rwa [jcellsE_drop, List.getElem?_drop] at hj) (by rw [jcellsE_length, List.length_drop, hR2s]; omega) (jcellsE_one _)
  obtain ⟨R3, hR3⟩ : ∃ R3 : Array Value, R3 = (R2.toList.take ((p + 1) * 2) ++ jcellsE (l.drop p) ++ R2.toList.drop ((p + 1) * 2 + (jcellsE (l.drop p)).length)).toArray := ⟨_, rfl⟩
  rw [← hR3] at hc2
  have hR3s : R3.size = G * 2 := by rw [hR3]; simp [jcellsE_length]; omega
  obtain ⟨W3, hW3⟩ : ∃ W3, W3 = W2.drew.setRow w.heap.size R3 := ⟨_, rfl⟩
  rw [← hW3] at hc2
  have hb3 : W3.heap[w.heap.size]? = some (.cells R3 51 (0, 0)) := by rw [hW3]; exact setRow_heap W2.drew w.heap.size R2 _ _ _ hb2
  have hu3 : Up w W3 := by rw [hW3]; exact up_of_chg_new hu2.drew (chg_setRow _) (Nat.le_refl _)
  have hW3s : w.heap.size < W3.heap.size := by
    rcases Nat.lt_or_ge w.heap.size W3.heap.size with h' | h'
    · exact h'
    · rw [Array.getElem?_eq_none h'] at hb3; cases hb3
  have hR3t : R3.toList.take ((n + 1) * 2) = jcellsE (l.take p ++ x :: l.drop p) := by
    have e1 : R2.toList.take ((p + 1) * 2) = jcellsE (l.take p) ++ jcellsE [x] := by
      rw [hR2]
      simp only []
      rw [hRt, List.take_append_of_le_length (by simp [jcellsE_length]; omega), List.take_of_length_le (by simp [jcellsE_length]; omega)]
    rw [hR3]
    simp only []
    rw [e1, List.take_append_of_le_length (by simp [jcellsE_length]; omega), List.take_of_length_le (by simp [jcellsE_length]; omega)]
    simp [jcellsE]
  have HOW := hide (OwnV.mk eC_two (e := 51) (cs := eC) (base := 0) (n := n + 1) (cap := G) (Nat.zero_le _) hb3 (by rw [take_insE l p x (by omega), hl]) hge hle hR3s hR3t)
  have HU3 := hide hu3
  have HS3 := hide hW3s
  have e1 : IntKind.i64.wrap ((n : Int) + 1) = (n : Int) + 1 := by rw [IntKind.wrap_i64]; omega
  have e2 : IntKind.i64.wrap ((n : Int) + 1 - (p : Int)) = (k : Int) := by rw [IntKind.wrap_i64]; omega
  have e3 : IntKind.i64.wrap ((p : Int) + 1) = (p : Int) + 1 := by rw [IntKind.wrap_i64]; omega
  have t1 : decide ((n : Int) + 1 > (n : Int)) = true := decide_eq_true (by omega)
  have t2 : ((p : Int) == (n : Int)) = false := by simp; omega
  have p0 : (0 : Int) ≤ (p : Int) := by omega
  have p1 : (p : Int) ≤ (n : Int) := by omega
  have p2 : (0 : Int) ≤ (p : Int) + 1 := by omega
  have htn : ((p : Int) + 1).toNat = p + 1 := by omega
  have q1 : ¬ (n = p) := by omega
  have q2 : ¬ (G = p) := by omega
  have q3 : ¬ (G = p + 1) := by omega
  have q4 : (p : Int) + 1 ≤ (n : Int) + 1 := by omega
  have q5 : (p : Int) ≤ (n : Int) + 1 := by omega
  have q6 : (n : Int) + 1 - (p : Int) = (k : Int) := by omega
  clear hb1 hb2 hb3 hch2 hu1 hu2 hu3 hR3t hR3 hR2 hR hW1 hW2 hW3 hG hRs hRt hR2s hR3s hW1s hW3s hg hcs hct hv hold hi0 hz0 hzs hzb hpk
  replace hk := hide hk
  --G1
  go_enter Tryz.func60, Tryz.ntmps60
  go_wp2_with (at_builtin; refine Lib.wpList_append_run _ rfl _ _ _ _ rfl _ _ rfl rfl _ _ (hap _) ?_)
  --G2
  go_region
  all_goals
    go_wp2
    go_ret
    exact ⟨_, rfl, HOW.out, Chg.of_up HU3.out, .inr ⟨_, rfl, Nat.le_refl _, HS3.out⟩⟩

set_option maxHeartbeats 8000000 in
/-- Within, where there is room. -/
theorem insE_room (g cap vb n p : Nat) (cur : Array Value) (l : List ET) (x : ET) (w : World) (hg : w.heap[g]? = some (.cells cur 51 (0, 0))) (hcs : cur.size = cap * 2) (hct : cur.toList.take (n * 2) = jcellsE l) (hl : l.length = n) (hn : n ≤ 1000) (hcap : n + 1 ≤ cap) (hcm : cap ≤ maxLen) (hp : p < n) (hvb : w.heap[vb]? = some (.cells #[.slice x.a x.n x.c, .int .i64 x.id] 51 (0, 0))) (hne : ¬ vb = g) :
    Calls Tryz.prog 60 #[.slice (some ⟨g, 0, none⟩) n cap, .int .i64 p, .slice (some ⟨vb, 0, none⟩) 1 1] w fun e w' => InsPostE w (.slice (some ⟨g, 0, none⟩) n cap) (l.take p ++ x :: l.drop p) e w' := by
  have hsa : w.shape? vb = some (51, 2) := by simp [World.shape?, hvb]
  have hsb : w.shape? g = some (51, cap * 2) := by simp [World.shape?, hg, hcs]
  have hfa : w.frozen? ⟨vb, 0, none⟩ = false := by simp [World.frozen?, hvb]
  have hfe : w.frozen? ⟨vb, 2, none⟩ = false := by simp [World.frozen?, hvb]
  have hov : ∀ lb cb, (callFunc 82 #[.slice (some ⟨vb, 0, none⟩) 1 1, .slice (some ⟨g, (p + 1) * 2, none⟩) lb cb]).run Tryz.prog w = .ok (.value (.bool false)) w := fun lb cb => by
    rw [run_callFunc_extern Tryz.func82 (by kernel_rfl) (by kernel_rfl) (by kernel_rfl) (e := Extern.SlicesOverlaps.overlaps #[36, 36] #[4]) (by kernel_rfl),
      Lib.run_overlaps_apart w 36 4 51 Tryz.underlying36 2 elemE.sizeOf ⟨vb, 0, none⟩ ⟨g, (p + 1) * 2, none⟩ 1 1 lb cb hne _ _ _ _ hsa hsb (by omega) hfa hfe]
    rfl
  have hcg : ∀ j u, (jcellsE l)[j]? = some u → w.cell? ⟨g, j, none⟩ = some u := fun j u hj => by
    rw [cell_of hg, ← Array.getElem?_toList]
    rw [← hct, List.getElem?_take] at hj
    split at hj
    · exact hj
    · cases hj
  have hc1 : ∀ ty dc sc, (Builtin.copy_ #[36, 36] ty #[.slice (some ⟨g, (p + 1) * 2, none⟩) (n - p) dc, .slice (some ⟨g, p * 2, none⟩) (n + 1 - p) sc]).run Tryz.prog w.drew = _ := fun ty dc sc =>
    run_copy_row2 w.drew 36 ty 51 g ((p + 1) * 2) (n - p) dc ⟨g, p * 2, none⟩ (n + 1 - p) sc cur 51 (jcellsE (l.drop p)) Tryz.underlying36 elemE.size hg (by rw [jcellsE_length, List.length_drop]; show _ = min _ _ * 2; omega) (fun j u hj => by
      rw [Addr.add_lit]
      rw [jcellsE_drop, List.getElem?_drop] at hj
      exact hcg (p * 2 + j) u hj) (by rw [jcellsE_length, List.length_drop, hcs]; omega) (jcellsE_one _)
  obtain ⟨R1, hR1⟩ : ∃ R1 : Array Value, R1 = (cur.toList.take ((p + 1) * 2) ++ jcellsE (l.drop p) ++ cur.toList.drop ((p + 1) * 2 + (jcellsE (l.drop p)).length)).toArray := ⟨_, rfl⟩
  rw [← hR1] at hc1
  have hR1s : R1.size = cap * 2 := by rw [hR1]; simp [jcellsE_length]; omega
  obtain ⟨W1, hW1⟩ : ∃ W1, W1 = w.drew.setRow g R1 := ⟨_, rfl⟩
  rw [← hW1] at hc1
  have hb1 : W1.heap[g]? = some (.cells R1 51 (0, 0)) := by rw [hW1]; exact setRow_heap w.drew g cur _ _ _ hg
  have hch1 : Chg (fun y => y = g) w W1 := by rw [hW1]; exact ((Chg.refl (fun y => y = g) w).drew).trans (chg_setRow _) (fun _ _ h => h)
  have hv1 : ∀ j u, (eC x)[j]? = some u → W1.cell? ⟨vb, j, none⟩ = some u := fun j u hj => hch1.cell (p := ⟨vb, j, none⟩) (by rw [cell_of hvb, ← Array.getElem?_toList]; exact hj) hne
  have hc2 : ∀ ty dc, (Builtin.copy_ #[36, 36] ty #[.slice (some ⟨g, p * 2, none⟩) (n + 1 - p) dc, .slice (some ⟨vb, 0, none⟩) 1 1]).run Tryz.prog W1 = _ := fun ty dc =>
    run_copy_row2 W1 36 ty 51 g (p * 2) (n + 1 - p) dc ⟨vb, 0, none⟩ 1 1 R1 51 (jcellsE [x]) Tryz.underlying36 elemE.size hb1 (by rw [jcellsE_length]; show 1 * 2 = min 1 _ * 2; omega) (fun j u hj => by
      rw [Addr.add_lit, Nat.zero_add]
      exact hv1 j u (by simpa [jcellsE] using hj)) (by rw [jcellsE_length, hR1s]; simp; omega) (jcellsE_one _)
  obtain ⟨R2, hR2⟩ : ∃ R2 : Array Value, R2 = (R1.toList.take (p * 2) ++ jcellsE [x] ++ R1.toList.drop (p * 2 + (jcellsE [x]).length)).toArray := ⟨_, rfl⟩
  rw [← hR2] at hc2
  have hR2s : R2.size = cap * 2 := by rw [hR2]; simp [jcellsE_length]; omega
  obtain ⟨W2, hW2⟩ : ∃ W2, W2 = W1.setRow g R2 := ⟨_, rfl⟩
  rw [← hW2] at hc2
  have hb2 : W2.heap[g]? = some (.cells R2 51 (0, 0)) := by rw [hW2]; exact setRow_heap W1 g R1 _ _ _ hb1
  have hch2 : Chg (fun y => y = g) w W2 := by rw [hW2]; exact hch1.trans (chg_setRow _) (fun _ _ h => h)
  have hR2t : R2.toList.take ((n + 1) * 2) = jcellsE (l.take p ++ x :: l.drop p) := by
    have e1 : R1.toList.take (p * 2) = jcellsE (l.take p) := by
      rw [hR1]
      simp only []
      rw [List.append_assoc, List.take_append_of_le_length (by simp; omega), List.take_take, Nat.min_eq_left (by omega), jcellsE_take, ← hct, List.take_take, Nat.min_eq_left (by omega)]
    have e2 : (R1.toList.drop ((p + 1) * 2)).take ((n - p) * 2) = jcellsE (l.drop p) := by
      rw [hR1]
      simp only []
      rw [List.append_assoc, List.drop_append_of_le_length (by simp; omega), List.drop_eq_nil_of_le (by simp; omega), List.nil_append, List.take_append_of_le_length (by simp [jcellsE_length]; omega), List.take_of_length_le (by simp [jcellsE_length]; omega)]
    rw [hR2]
    simp only [jcellsE_length, List.length_singleton]
    rw [show p * 2 + 1 * 2 = (p + 1) * 2 by omega, e1, List.take_append, List.take_of_length_le (by simp [jcellsE_length]; omega)]
    have e3 : (jcellsE (l.take p) ++ jcellsE [x]).length = (p + 1) * 2 := by simp [jcellsE_length]; omega
    rw [e3, show (n + 1) * 2 - (p + 1) * 2 = (n - p) * 2 by omega, e2]
    simp [jcellsE]
  have HOW := hide (OwnV.mk eC_two (e := 51) (cs := eC) (base := 0) (n := n + 1) (cap := cap) (Nat.zero_le _) hb2 (by rw [take_insE l p x (by omega), hl]) hcap hcm hR2s hR2t)
  have HC2 := hide hch2
  have e1 : IntKind.i64.wrap ((n : Int) + 1) = (n : Int) + 1 := by rw [IntKind.wrap_i64]; omega
  have e3 : IntKind.i64.wrap ((p : Int) + 1) = (p : Int) + 1 := by rw [IntKind.wrap_i64]; omega
  have t1 : decide ((n : Int) + 1 > (cap : Int)) = false := decide_eq_false (by omega)
  have t2 : ((p : Int) == (n : Int)) = false := by simp; omega
  have p0 : (0 : Int) ≤ (p : Int) := by omega
  have p1 : (p : Int) ≤ (n : Int) := by omega
  have p2 : (0 : Int) ≤ (p : Int) + 1 := by omega
  have p3 : (0 : Int) ≤ (n : Int) + 1 := by omega
  have p4 : (n : Int) + 1 ≤ (cap : Int) := by omega
  have htn : ((p : Int) + 1).toNat = p + 1 := by omega
  have htn2 : ((n : Int) + 1).toNat = n + 1 := by omega
  have q1 : ¬ (cap = p) := by omega
  have q3 : ¬ (cap = p + 1) := by omega
  have q4 : (p : Int) + 1 ≤ (n : Int) + 1 := by omega
  have q5 : (p : Int) ≤ (n : Int) + 1 := by omega
  clear hb1 hb2 hch1 hch2 hR2t hR2 hR1 hW1 hW2 hR1s hR2s hg hcs hct hcg hsa hsb hfa hfe hvb hv1
  --G3
  go_enter Tryz.func60, Tryz.ntmps60
  go_wp2_with (simp only [hov])
  --G4
  go_region
  all_goals
    go_wp2
    go_ret
    exact ⟨_, rfl, HOW.out, HC2.out.mono (fun y _ h => by rw [h]; rfl), .inl rfl⟩

/-- All roads. -/
theorem insE_calls (v : Value) (l : List ET) (x : ET) (p vb : Nat) (w : World) (h : OwnV 51 eC w 0 v l) (hn : l.length ≤ 1000) (hp : p ≤ l.length) (hvb : w.heap[vb]? = some (.cells #[.slice x.a x.n x.c, .int .i64 x.id] 51 (0, 0))) (hne : ¬ v.ownBlock = some vb) :
    Calls Tryz.prog 60 #[v, .int .i64 p, .slice (some ⟨vb, 0, none⟩) 1 1] w fun e w' => InsPostE w v (l.take p ++ x :: l.drop p) e w' := by
  have h0 := h
  by_cases hpn : p = l.length
  · subst hpn
    obtain ⟨a, cap, rfl, hc⟩ := h.slice
    have := insE_end a cap vb l.length l x w h0 rfl hc hn (fun j u hj => by rw [cell_of hvb, ← Array.getElem?_toList]; exact hj)
    simpa using this
  · have hl : l ≠ [] := fun e => by rw [e] at hp hpn; simp at hp hpn; omega
    obtain ⟨g, cap, cur, rfl, _, hg, h1, h2, h3, h4⟩ := h.block hl
    have hvg : ¬ vb = g := fun e => hne (by rw [e]; rfl)
    by_cases hr : l.length + 1 ≤ cap
    · exact insE_room g cap vb _ p cur l x w hg h3 h4 rfl hn hr h2 (by omega) hvb hvg
    · obtain rfl : cap = l.length := by omega
      refine insE_grow g vb _ p cur l x w hg h3 ?_ rfl hn (by omega) (fun j u hj => by rw [cell_of hvb, ← Array.getElem?_toList]; exact hj)
      refine Eq.trans ?_ h4
      rw [List.take_of_length_le (by rw [Array.length_toList]; omega)]

set_option maxHeartbeats 8000000 in
theorem delE_some (g cap n p : Nat) (cur : Array Value) (l : List ET) (w : World) (hg : w.heap[g]? = some (.cells cur 51 (0, 0))) (hcs : cur.size = cap * 2) (hct : cur.toList.take (n * 2) = jcellsE l) (hl : l.length = n) (hn : n ≤ 1000) (hcap : n ≤ cap) (hcm : cap ≤ maxLen) (hp : p < n) :
    Calls Tryz.prog 63 #[.slice (some ⟨g, 0, none⟩) n cap, .int .i64 p, .int .i64 ((p : Int) + 1)] w fun e w' => e = .returned (.slice (some ⟨g, 0, none⟩) (n - 1) cap) ∧ OwnV 51 eC w' 0 (.slice (some ⟨g, 0, none⟩) (n - 1) cap) (l.take p ++ l.drop (p + 1)) ∧ Chg (fun y => y = g) w w' := by
  have hcg : ∀ j u, (jcellsE l)[j]? = some u → w.cell? ⟨g, j, none⟩ = some u := fun j u hj => by
    rw [cell_of hg, ← Array.getElem?_toList]
    rw [← hct, List.getElem?_take] at hj
    split at hj
    · exact hj
    · cases hj
  obtain ⟨A, hA, hsrc⟩ : ∃ A : Addr, (if cap = p + 1 then some (⟨g, 0, none⟩ : Addr) else some ⟨g, (p + 1) * 2, none⟩) = some A ∧ ∀ j u, (jcellsE (l.drop (p + 1)))[j]? = some u → w.drew.cell? (A.add j) = some u := by
    by_cases h : cap = p + 1
    · refine ⟨⟨g, 0, none⟩, by simp [h], fun t u hu => ?_⟩
      rw [List.getElem?_eq_none (by rw [jcellsE_length, List.length_drop]; omega)] at hu
      cases hu
    · refine ⟨⟨g, (p + 1) * 2, none⟩, by simp [h], fun t u hu => ?_⟩
      rw [Addr.add_lit]
      rw [jcellsE_drop, List.getElem?_drop] at hu
      exact hcg _ u hu
  have hc1 : ∀ ty c, (Builtin.append_ #[36, 36] ty #[.slice (some ⟨g, 0, none⟩) p cap, .slice (some A) (n - (p + 1)) c]).run Tryz.prog w.drew = _ := fun ty c =>
    run_append_row2 w.drew 36 ty 51 g p cap A (n - (p + 1)) c cur 51 (jcellsE (l.drop (p + 1))) Tryz.underlying36 elemE.size hg (by rw [jcellsE_length, List.length_drop]; omega) hsrc (jcellsE_one _) (by omega) (by omega)
  have hpn : p + (n - (p + 1)) = n - 1 := by omega
  rw [hpn] at hc1
  obtain ⟨R1, hR1⟩ : ∃ R1 : Array Value, R1 = (cur.toList.take (p * 2) ++ jcellsE (l.drop (p + 1)) ++ cur.toList.drop (p * 2 + (jcellsE (l.drop (p + 1))).length)).toArray := ⟨_, rfl⟩
  rw [← hR1] at hc1
  have hR1s : R1.size = cap * 2 := by rw [hR1]; simp [jcellsE_length]; omega
  obtain ⟨W1, hW1⟩ : ∃ W1, W1 = w.drew.setRow g R1 := ⟨_, rfl⟩
  rw [← hW1] at hc1
  have hb1 : W1.heap[g]? = some (.cells R1 51 (0, 0)) := by rw [hW1]; exact setRow_heap w.drew g cur _ _ _ hg
  have hch1 : Chg (fun y => y = g) w W1 := by rw [hW1]; exact ((Chg.refl (fun y => y = g) w).drew).trans (chg_setRow _) (fun _ _ h => h)
  have hR1t : R1.toList.take ((n - 1) * 2) = jcellsE (l.take p ++ l.drop (p + 1)) := by
    have e1 : cur.toList.take (p * 2) = jcellsE (l.take p) := by rw [jcellsE_take, ← hct, List.take_take, Nat.min_eq_left (by omega)]
    rw [hR1]
    simp only []
    rw [e1, List.take_append_of_le_length (by simp [jcellsE_length]; omega), List.take_of_length_le (by simp [jcellsE_length]; omega)]
    simp [jcellsE]
  have hz : ∀ j, j < 2 → ∃ z, W1.cell? ⟨g, (n - 1) * 2 + j, none⟩ = some z := fun j hj => ⟨R1[(n - 1) * 2 + j]'(by omega), by rw [cell_of hb1, Array.getElem?_eq_getElem (by omega)]⟩
  have hfz : ∀ j, W1.frozen? ⟨g, (n - 1) * 2 + j, none⟩ = false := fun j => by simp [World.frozen?, hb1]
  have e1 : IntKind.i64.wrap ((p : Int) + 1) = (p : Int) + 1 := by rw [IntKind.wrap_i64]; omega
  have t2 : ((p : Int) == (p : Int) + 1) = false := by simp; omega
  have p0 : (0 : Int) ≤ (p : Int) := by omega
  have p1 : (p : Int) ≤ (p : Int) + 1 := by omega
  have p2 : (p : Int) + 1 ≤ (n : Int) := by omega
  have p3 : (p : Int) ≤ (n : Int) := by omega
  have p4 : (p : Int) ≤ (cap : Int) := by omega
  have p5 : (0 : Int) ≤ (p : Int) + 1 := by omega
  have p6 : (p : Int) + 1 ≤ (cap : Int) := by omega
  have p7 : (n : Int) ≤ (cap : Int) := by omega
  have htn : ((p : Int) + 1).toNat = p + 1 := by omega
  have q1 : ¬ (cap = p) := by omega
  have q2 : ¬ (n = p) := by omega
  have q3 : ((n - 1 : Nat) : Int) ≤ (n : Int) := by omega
  have q4 : ¬ (cap = n - 1) := by omega
  have q5 : n - (n - 1) = 1 := by omega
  have q6 : (0 : Int) ≤ ((n - 1 : Nat) : Int) := by omega
  have hclr : ∀ ty c, (Builtin.clear_ #[36] ty #[.slice (some ⟨g, (n - 1) * 2, none⟩) 1 c]).run Tryz.prog W1 = .ok (.tuple #[]) ((W1.setCell ⟨g, (n - 1) * 2, none⟩ (.slice none 0 0)).setCell ⟨g, (n - 1) * 2 + 1, none⟩ (.int .i64 0)) := fun ty c =>
    run_clear_two (P := Tryz.prog) W1 36 51 ty _ _ _ Tryz.underlying36 elemE.zero elemE.zc elemE.zo0 elemE.zo1 g ((n - 1) * 2) c (fun j hj => by obtain ⟨z, h⟩ := hz j hj; rw [h]; rfl) (fun j _ => hfz j)
  clear hcg hsrc hR1 hW1 hz hfz
  have HB1 := hide hb1
  have HC1 := hide hch1
  have HT1 := hide hR1t
  have HS1 := hide hR1s
  have HL := hide hl
  have HPN := hide hpn
  have HG := hide hg
  clear hb1 hch1 hR1t hR1s hl hpn hg hcs hct
  --D1
  go_enter Tryz.func63, Tryz.ntmps63
  go_wp2_with fail
  --D2
  go_region_law (refine step_append_run rfl _ _ 36 rfl _ _ rfl rfl (hc1 _ _) ?_)
  --D3
  all_goals
    go_wp2
    go_ret
    have hc2 : Chg (fun y => y = g) W1 ((W1.setCell ⟨g, (n - 1) * 2, none⟩ (.slice none 0 0)).setCell ⟨g, (n - 1) * 2 + 1, none⟩ (.int .i64 0)) := ((Chg.refl _ W1).set (C := fun y => y = g) (p := ⟨g, (n - 1) * 2, none⟩) (fun _ => rfl) _).set (C := fun y => y = g) (p := ⟨g, (n - 1) * 2 + 1, none⟩) (fun _ => rfl) _
    refine ⟨rfl, OwnV.mk eC_two (e := 51) (base := 0) (Nat.zero_le _) (cur := (R1.setIfInBounds ((n - 1) * 2) (.slice none 0 0)).setIfInBounds ((n - 1) * 2 + 1) (.int .i64 0)) ?_ (by rw [List.length_append, List.length_take, List.length_drop, HL.out]; omega) (by omega) hcm (by simp; exact HS1.out) ?_, HC1.out.trans hc2 (fun _ _ h => h)⟩
    · exact heap_setCell_same _ g _ _ _ _ (heap_setCell_same W1 g _ R1 _ _ HB1.out)
    · rw [Array.toList_setIfInBounds, List.take_set_of_le (by omega), Array.toList_setIfInBounds, List.take_set_of_le (Nat.le_refl _)]
      exact HT1.out

theorem delE_calls (v : Value) (l : List ET) (p : Nat) (w : World) (h : OwnV 51 eC w 0 v l) (hn : l.length ≤ 1000) (hp : p < l.length) :
    Calls Tryz.prog 63 #[v, .int .i64 p, .int .i64 ((p : Int) + 1)] w fun e w' => ∃ v', e = .returned v' ∧ OwnV 51 eC w' 0 v' (l.take p ++ l.drop (p + 1)) ∧ Chg (fun y => v.ownBlock = some y) w w' ∧ v'.ownBlock = v.ownBlock := by
  have hl : l ≠ [] := fun e => by rw [e] at hp; exact absurd hp (Nat.not_lt_zero _)
  obtain ⟨g, cap, cur, rfl, _, hg, h1, h2, h3, h4⟩ := h.block hl
  refine (delE_some g cap _ p cur l w hg h3 h4 rfl hn h1 h2 hp).mono ?_
  rintro e w' ⟨rfl, ho, hc⟩
  exact ⟨_, rfl, ho, hc.mono (fun y _ h => by rw [h]; rfl), rfl⟩

end Go.Proofs.YtnokokhbcfkifaaGreatDoor

namespace Go.Proofs.YtnokokhbcfkifaaGreatDoor

def insL {α : Type} (v : α) (l : List α) (j : Nat) : List α := l.take j ++ v :: l.drop j
def delL {α : Type} (l : List α) (j : Nat) : List α := l.take j ++ l.drop (j + 1)
def setL {α : Type} (v : α) (l : List α) (j : Nat) : List α := l.set j v
theorem insL_len {α : Type} (v : α) (l : List α) (j : Nat) (h : j ≤ l.length) : (insL v l j).length = l.length + 1 := by
  unfold insL; rw [List.length_append, List.length_take, List.length_cons, List.length_drop]; omega
theorem delL_len {α : Type} (l : List α) (j : Nat) (h : j < l.length) : (delL l j).length + 1 = l.length := by
  unfold delL; rw [List.length_append, List.length_take, List.length_drop]; omega
theorem setL_len {α : Type} (v : α) (l : List α) (j : Nat) : (setL v l j).length = l.length := by
  unfold setL; rw [List.length_set]
theorem take_mid {α : Type} (a es b : List α) (j : Nat) (h : j ≤ es.length) : (a ++ (es ++ b)).take (a.length + j) = a ++ es.take j := by
  rw [List.take_length_add_append, List.take_append_of_le_length h]
theorem drop_mid {α : Type} (a es b : List α) (j : Nat) (h : j ≤ es.length) : (a ++ (es ++ b)).drop (a.length + j) = es.drop j ++ b := by
  rw [← List.drop_drop, List.drop_left, List.drop_append_of_le_length h]
theorem local_ins {α : Type} (v : α) : Local false (insL v) where
  part := fun a es b j h => by
    unfold insL
    rw [take_mid a es b j h.1, drop_mid a es b j h.1]
    simp
  more := fun es j h => by rw [insL_len v es j h.1]; exact Nat.le_refl _
  less := fun es j h => by rw [insL_len v es j h.1]; omega
theorem local_del {α : Type} : Local true (delL (α := α)) where
  part := fun a es b j h => by
    have := h.2 rfl
    unfold delL
    rw [take_mid a es b j h.1, Nat.add_assoc, drop_mid a es b (j + 1) this]
    simp
  more := fun es j h => by have := delL_len es j (h.2 rfl); omega
  less := fun es j h => by have := delL_len es j (h.2 rfl); omega
theorem local_set {α : Type} (v : α) : Local true (setL v) where
  part := fun a es b j h => by
    have := h.2 rfl
    unfold setL
    rw [List.set_append_right _ _ (by omega), show a.length + j - a.length = j by omega, List.set_append_left _ _ this]
  more := fun es j h => by rw [setL_len]; omega
  less := fun es j h => by rw [setL_len]; omega
theorem get_mid {α : Type} (z : α) (a es b : List α) (j : Nat) (h : j < es.length) : (a ++ (es ++ b)).getD (a.length + j) z = es.getD j z := by
  simp only [List.getD_eq_getElem?_getD]
  rw [List.getElem?_append_right (by omega), show a.length + j - a.length = j by omega, List.getElem?_append_left h]
end Go.Proofs.YtnokokhbcfkifaaGreatDoor

namespace Go.Proofs.YtnokokhbcfkifaaGreatDoor
open Go.ChangeShapes Go.WideShapes Go.ChangeAt Go.RowKit
set_option linter.unusedVariables false
set_option maxRecDepth 100000
attribute [local go_sem ↓] Go.wp_at_zero Go.wp_at_succ

/-- A tree in memory. -/
abbrev TrE := Tr (α := ET) eC
theorem tlenE_calls (T h n : Nat) (xs : List ET) (w : World) (t : TrE w T xs h n) :
    Calls Tryz.prog 44 #[.pointer (some ⟨T, 0, none⟩)] w fun e w' => e = .returned (.int .i64 xs.length) ∧ w' = w := by
  obtain ⟨b, ⟨c0, _, _, _⟩, s, hn, _⟩ := t.top
  obtain ⟨ve, vb, ⟨_, d0, d1, d2⟩, _⟩ := nd_iff.1 hn
  unfold pE at c0
  clear t hn
  go_enter Tryz.func44, Tryz.ntmps44
  go_wp2
  go_ret
  exact ⟨rfl, rfl⟩

set_option maxHeartbeats 2000000 in
/-- The function that InsertAt hands over. -/
theorem doInsE (T vb : Nat) (v : ET) (w0 : World) (xs : List ET) (i : Nat) (hv : w0.cell? ⟨vb, 0, none⟩ = some (.slice v.a v.n v.c)) (hw : w0.cell? ⟨vb, 1, none⟩ = some (.int .i64 v.id)) (hvT : vb ≠ T) :
    DoIsE T (fun _ => False) 59 #[.pointer (some ⟨vb, 0, none⟩)] false (insL v) (fun _ => True) w0 xs i := by
  intro W es a b j ve hc _ _ hok h8 hown
  have hv' := hc.cell hv
  have hw' := hc.cell hw
  have hins : ∀ x, x = W.heap.size → Calls Tryz.prog 60 #[ve, .int .i64 j, .slice (some ⟨x, 0, none⟩) 1 1] (W.alloc (.cells #[.slice v.a v.n v.c, .int .i64 v.id] 51)) fun e w' => InsPostE (W.alloc (.cells #[.slice v.a v.n v.c, .int .i64 v.id] 51)) ve (es.take j ++ v :: es.drop j) e w' := fun x hx => by
    subst hx
    exact insE_calls ve es v j W.heap.size _ ((hown.base (Nat.zero_le _)).up ((Up.refl _).alloc _)) (by omega) hok.1 (heap_alloc_new _ _) (fun e => by have := (hown.lt _ e).2; omega)
  have HI := hide hins
  have HO := hide hown
  obtain ⟨a1, n1, d1, rfl, -, -⟩ := hown.sliceN
  clear hins hown hv hw hc hok h8
  go_enter Tryz.func59, Tryz.ntmps59
  go_wp2_with fail
  refine (HI.out _ rfl).mono ?_
  rintro _ w2 ⟨v2, rfl, ho2, hc2, hb2⟩
  have HO2 := hide ho2
  have HC2 := hide hc2
  have HB2 := hide hb2
  obtain ⟨a2, n2, d2, rfl, -, -⟩ := ho2.sliceN
  clear ho2 hc2 hb2
  dsimp only
  go_wp2
  go_ret
  refine ⟨.slice a2 n2 d2, rfl, HO2.out, fun g hg => ?_, (Chg.of_up (C := fun y => False ∨ (Value.slice a1 n1 d1).ownBlock = some y) ((Up.refl W).alloc _)).trans HC2.out (fun y _ h => .inr h), trivial⟩
  rcases HB2.out with h | ⟨g', h, h1, h2⟩
  · exact .inl (h ▸ hg)
  · rw [h] at hg
    cases hg
    exact .inr (Nat.le_trans (Nat.le_of_lt (by simp)) h1)

/-- What a change that is done leaves. -/
def TrDoneE (T n h : Nat) (zs : List ET) (w : World) (w' : World) : Prop := ∃ h' k, TrE w' T zs h' (n + k) ∧ 1 ≤ k ∧ k ≤ 2 * h + 3 ∧ Chg (fun y => y = T) w w'
set_option maxHeartbeats 2000000 in
theorem insertAtE_not (T h n : Nat) (i : Int) (v : ET) (xs : List ET) (w : World) (t : TrE w T xs h n) (hi : i < 0 ∨ (xs.length : Int) < i) (hx : xs.length ≤ 100000) :
    Calls Tryz.prog 39 #[.pointer (some ⟨T, 0, none⟩), .int .i64 i, .agg #[.slice v.a v.n v.c, .int .i64 v.id]] w fun e w' => e = .returned (.int .i64 73) ∧ Up w w' := by
  have HT := hide t
  have e1 : IntKind.i64.wrap ((xs.length : Int) + 1) = (xs.length : Int) + 1 := by rw [IntKind.wrap_i64]; omega
  have HU : Hid (Up w (w.alloc (.cells #[.slice v.a v.n v.c, .int .i64 v.id] 51))) := (Up.refl _).alloc _
  have hi' : i < 0 ∨ (xs.length : Int) + 1 ≤ i := by omega
  have HI := hide hi'
  clear t hi hi'
  go_enter Tryz.func39, Tryz.ntmps39
  go_wp2_with (first
    | (go_at_call 44; refine (tlenE_calls T h n xs _ (HT.out.up HU.out)).mono ?_; rintro _ w1 ⟨rfl, hw1⟩; subst hw1)
    | (go_at_call 58; refine (changeE_not T i _ _ _ HI.out).mono ?_; rintro _ w2 ⟨rfl, hu2⟩; replace hu2 := hide hu2))
  go_ret
  exact ⟨rfl, HU.out.trans hu2.out⟩
set_option maxHeartbeats 2000000 in
theorem insertAtE_ok (T h n i : Nat) (v : ET) (xs : List ET) (w : World) (t : TrE w T xs h n) (hi : i ≤ xs.length) (hx : xs.length ≤ 100000) (hn : n ≤ 10000000) :
    Calls Tryz.prog 39 #[.pointer (some ⟨T, 0, none⟩), .int .i64 i, .agg #[.slice v.a v.n v.c, .int .i64 v.id]] w fun e w' => e = .returned (.int .i64 0) ∧ TrDoneE T n h (insL v xs i) w w' := by
  have HT := hide t
  have hTl := t.lt
  have e1 : IntKind.i64.wrap ((xs.length : Int) + 1) = (xs.length : Int) + 1 := by rw [IntKind.wrap_i64]; omega
  have HU : Hid (Up w (w.alloc (.cells #[.slice v.a v.n v.c, .int .i64 v.id] 51))) := (Up.refl _).alloc _
  obtain ⟨b, hb, s, hnd, hs8, hs2⟩ := t.top
  have HC : Hid (Calls Tryz.prog 58 #[.pointer (some ⟨T, 0, none⟩), .int .i64 i, .int .i64 ((xs.length : Int) + 1), .func (.func 59) #[] #[.pointer (some ⟨w.heap.size, 0, none⟩)]] (w.alloc (.cells #[.slice v.a v.n v.c, .int .i64 v.id] 51)) fun e w' => ChangeDoneE T (fun _ => False) n h (insL v xs i) (fun _ => True) (w.alloc (.cells #[.slice v.a v.n v.c, .int .i64 v.id] 51)) e w') := by
    refine changeE_calls T n h (fun _ => False) _ _ false (insL v) (fun _ => True) _ xs i _ b (local_ins v) (enters_of Tryz.func59 (by kernel_rfl) rfl) (doInsE T w.heap.size v _ xs i (by rw [cell_of (heap_alloc_new _ _)]; rfl) (by rw [cell_of (heap_alloc_new _ _)]; rfl) (by omega)) (fun _ _ _ _ => trivial) (fun h => h) (fun y hy => ?_) hx (hb.up HU.out) hn ⟨s, ?_, hs8, hs2⟩ ⟨hi, fun h => by cases h⟩ (by omega)
    · rcases hy with rfl | hy
      · simp; omega
      · exact hy.elim
    · exact (hnd.mono (fun y _ hy => hy.elim id False.elim)).chg (Chg.of_up HU.out)
  clear t hb hnd
  go_enter Tryz.func39, Tryz.ntmps39
  go_wp2_with (first
    | (go_at_call 44; refine (tlenE_calls T h n xs _ (HT.out.up HU.out)).mono ?_; rintro _ w1 ⟨rfl, hw1⟩; subst hw1)
    | (go_at_call 58; refine HC.out.mono ?_; rintro _ w2 ⟨b2, k2, h2, rfl, ht2, htop2, hk1, hk2, -, hc2⟩; replace ht2 := hide ht2; replace htop2 := hide htop2; replace hc2 := hide hc2))
  go_ret
  obtain ⟨s2, hn2, hs⟩ := htop2.out
  exact ⟨rfl, h2, k2, ⟨b2, ht2.out, s2, hn2.mono (fun y _ e => .inl e), hs⟩, hk1, hk2, (Chg.of_up HU.out).trans hc2.out (fun y _ h => h.elim id False.elim)⟩

set_option maxHeartbeats 2000000 in
/-- The function that EraseAt hands over. -/
theorem doDelE (T ob R : Nat) (Y : Nat → Prop) (hYo : Y ob) (hRo : R ≠ ob) (z : ET) (u u' : Value) (w0 : World) (xs : List ET) (i : Nat) (hv : w0.cell? ⟨ob, 0, none⟩ = some u) (hw : w0.cell? ⟨ob, 1, none⟩ = some u') (hvf : w0.frozen? ⟨ob, 0, none⟩ = false) (hwf : w0.frozen? ⟨ob, 1, none⟩ = false) (hB : Box2 R w0) :
    DoIsE T Y 62 #[.pointer (some ⟨ob, 0, none⟩)] true delL (fun W => EntAt W ob (xs.getD i z) ∧ Box2 R W) w0 xs i := by
  intro W es a b j ve hc hxs hi hok h8 hown
  have hob : ob < w0.heap.size := World.block_lt_of_cell? _ _ hv
  have hR : R < w0.heap.size := by
    obtain ⟨v0, e0⟩ := Option.isSome_iff_exists.1 hB.1
    exact World.block_lt_of_cell? _ _ e0
  have HB : Hid (Box2 R W) := box_chg hB (Chg.of_up (C := fun _ => False) hc) (fun h => h)
  have hv' := hc.cell hv
  have hw' := hc.cell hw
  have hf' := (hc.frozen (p := ⟨ob, 0, none⟩) hob).trans hvf
  have hg' := (hc.frozen (p := ⟨ob, 1, none⟩) hob).trans hwf
  have hj : j < es.length := hok.2 rfl
  have hx : xs.getD i z = es.getD j z := by rw [hxs, hi]; exact get_mid z a es b j hj
  have hobn : ∀ g, ve.ownBlock = some g → g ≠ ob ∧ g ≠ R := fun g hg => by
    have := (hown.lt g hg).1
    exact ⟨by omega, by omega⟩
  have hr := hown.rd (X := fun _ => False) (fun _ _ h => h)
  have HO := hide hown
  have HOB := hide hobn
  have hl6 : es.length ≤ 8 := h8
  have HJ := hide hj
  obtain ⟨a1, n1, d1, rfl, hn1, -⟩ := hown.sliceN
  obtain ⟨g1, o1, rfl, hg0, hg00⟩ := hr.ent (i := j) hj
  obtain ⟨x, hxx, hg1, hg2⟩ : ∃ x, x = es[j] ∧ W.cell? ⟨g1, o1 + j * 2, none⟩ = some (.slice x.a x.n x.c) ∧ W.cell? ⟨g1, o1 + j * 2 + 1, none⟩ = some (.int .i64 x.id) := ⟨es[j], rfl, hg0, hg00⟩
  have hx2 : xs.getD i z = x := by
    rw [hx, hxx, List.getD_eq_getElem?_getD, List.getElem?_eq_getElem hj]; rfl
  rw [hx2]
  clear hg0 hg00 hx hx2 hxx hB
  have j0 : (0 : Int) ≤ (j : Int) := by omega
  have j1 : (j : Int) < (n1 : Int) := by rw [hn1.out]; omega
  have e1 : IntKind.i64.wrap ((j : Int) + 1) = (j : Int) + 1 := by rw [IntKind.wrap_i64]; omega
  have s1 : Hid (Chg (fun y => y = ob) W ((W.setCell ⟨ob, 0, none⟩ (.slice x.a x.n x.c)).setCell ⟨ob, 1, none⟩ (.int .i64 x.id))) := set2_chg W ob _ _
  have k1 : ((W.setCell ⟨ob, 0, none⟩ (.slice x.a x.n x.c)).setCell ⟨ob, 1, none⟩ (.int .i64 x.id)).cell? ⟨ob, 0, none⟩ = some (.slice x.a x.n x.c) := set2_c0 hv'
  have k2 : ((W.setCell ⟨ob, 0, none⟩ (.slice x.a x.n x.c)).setCell ⟨ob, 1, none⟩ (.int .i64 x.id)).cell? ⟨ob, 1, none⟩ = some (.int .i64 x.id) := set2_c1 hw'
  have HK1 := hide k1
  have HK2 := hide k2
  have HL := hide hl6
  have HRO := hide hRo
  have HYO := hide hYo
  clear hxs hi hok hr hown hobn hj h8 k1 k2 hl6 hv hw hc hRo hYo hR
  go_enter Tryz.func62, Tryz.ntmps62
  go_wp2_with fail
  refine (delE_calls _ es j _ ((HO.out.base (Nat.zero_le _)).chg s1.out (fun g hg => (HOB.out g hg).1)) (Nat.le_trans HL.out (by decide)) HJ.out).mono ?_
  rintro _ w2 ⟨v2, rfl, ho2, hc2, hb2⟩
  have HO2 := hide ho2
  have HC2 := hide hc2
  have HB2 := hide hb2
  obtain ⟨a2, n2, d2, rfl, -, -⟩ := ho2.sliceN
  clear ho2 hc2 hb2
  dsimp only
  go_wp2
  go_ret
  refine ⟨.slice a2 n2 d2, rfl, HO2.out, fun g hg => .inl (HB2.out ▸ hg), (s1.out.mono (D := fun y => Y y ∨ (Value.slice (some ⟨g1, o1, none⟩) n1 d1).ownBlock = some y) (fun y _ e => .inl (by rw [show y = ob from e]; exact HYO.out))).trans HC2.out (fun y _ h => .inr h), ⟨?_, ?_⟩, ?_⟩
  · exact HC2.out.cell HK1.out (fun h => (HOB.out _ h).1 rfl)
  · exact HC2.out.cell HK2.out (fun h => (HOB.out _ h).1 rfl)
  · exact box_chg (box_chg HB.out s1.out (fun e => HRO.out e)) HC2.out (fun h => (HOB.out _ h).2 rfl)
set_option maxHeartbeats 2000000 in
theorem eraseAtE_not (T h n : Nat) (i : Int) (xs : List ET) (w : World) (t : TrE w T xs h n) (hi : i < 0 ∨ (xs.length : Int) ≤ i) :
    Calls Tryz.prog 41 #[.pointer (some ⟨T, 0, none⟩), .int .i64 i] w fun e w' => e = .returned (.tuple #[encE zeroET, .int .i64 73]) ∧ Up w w' := by
  have HT := hide t
  obtain ⟨W, hW⟩ : ∃ W, W = (w.alloc (.cells #[.slice none 0 0, .int .i64 0] 51)).alloc (.cells #[.slice none 0 0, .int .i64 0] 51) := ⟨_, rfl⟩
  have HU : Hid (Up w W) := by rw [hW]; exact ((Up.refl _).alloc _).alloc _
  have c0 : W.cell? ⟨w.heap.size + 1, 0, none⟩ = some (.slice none 0 0) := by rw [hW]; go_simp
  have c1 : W.cell? ⟨w.heap.size + 1, 1, none⟩ = some (.int .i64 0) := by rw [hW]; go_simp
  have hB : Box2 w.heap.size W := by rw [hW]; exact ⟨by go_simp, by go_simp, by go_simp, by go_simp⟩
  have hW' := hW.symm
  have HI := hide hi
  unfold encE zeroET
  clear t hi hW
  go_enter Tryz.func41, Tryz.ntmps41
  go_wp2_with (first
    | (go_at_call 44; refine (tlenE_calls T h n xs _ (HT.out.up HU.out)).mono ?_; rintro _ w1 ⟨rfl, hw1⟩; obtain rfl : W = w1 := hw1.symm; clear hW')
    | (go_at_call 58; refine (changeE_not T i _ _ _ HI.out).mono ?_; rintro _ w2 ⟨rfl, hu2⟩; replace c0 := hu2.cell c0; replace c1 := hu2.cell c1; obtain ⟨b0, b1, f0, f1⟩ := box_chg hB (Chg.of_up (C := fun _ => False) hu2) (fun h => h); obtain ⟨v0, g0⟩ := Option.isSome_iff_exists.1 b0; obtain ⟨v1, g1⟩ := Option.isSome_iff_exists.1 b1; clear b0 b1; replace hu2 := hide hu2))
  have k0 : ((w2.setCell ⟨w.heap.size, 0, none⟩ (.slice none 0 0)).setCell ⟨w.heap.size, 1, none⟩ (.int .i64 0)).cell? ⟨w.heap.size, 0, none⟩ = some (.slice none 0 0) := set2_c0 g0
  have k1 : ((w2.setCell ⟨w.heap.size, 0, none⟩ (.slice none 0 0)).setCell ⟨w.heap.size, 1, none⟩ (.int .i64 0)).cell? ⟨w.heap.size, 1, none⟩ = some (.int .i64 0) := set2_c1 g1
  refine bodyPost_ret (v := .tuple #[.agg #[.slice none 0 0, .int .i64 0], .int .i64 73]) (by simp [results, Tryz.results41, go_sem, k0, k1]) rfl ⟨rfl, up_of_chg_new (HU.out.trans hu2.out) (set2_chg _ _ _ _) (Nat.le_refl _)⟩
set_option maxHeartbeats 2000000 in
theorem eraseAtE_ok (T h n i : Nat) (z : ET) (xs : List ET) (w : World) (t : TrE w T xs h n) (hi : i < xs.length) (hx : xs.length ≤ 100000) (hn : n ≤ 10000000) :
    Calls Tryz.prog 41 #[.pointer (some ⟨T, 0, none⟩), .int .i64 i] w fun e w' => e = .returned (.tuple #[encE (xs.getD i z), .int .i64 0]) ∧ TrDoneE T n h (delL xs i) w w' := by
  have HT := hide t
  have hTl := t.lt
  obtain ⟨W, hW⟩ : ∃ W, W = (w.alloc (.cells #[.slice none 0 0, .int .i64 0] 51)).alloc (.cells #[.slice none 0 0, .int .i64 0] 51) := ⟨_, rfl⟩
  have HU : Hid (Up w W) := by rw [hW]; exact ((Up.refl _).alloc _).alloc _
  have c0 : W.cell? ⟨w.heap.size + 1, 0, none⟩ = some (.slice none 0 0) := by rw [hW]; go_simp
  have c1 : W.cell? ⟨w.heap.size + 1, 1, none⟩ = some (.int .i64 0) := by rw [hW]; go_simp
  have f0 : W.frozen? ⟨w.heap.size + 1, 0, none⟩ = false := by rw [hW]; go_simp
  have f1 : W.frozen? ⟨w.heap.size + 1, 1, none⟩ = false := by rw [hW]; go_simp
  have hB : Box2 w.heap.size W := by rw [hW]; exact ⟨by go_simp, by go_simp, by go_simp, by go_simp⟩
  have hWs : w.heap.size + 1 < W.heap.size := by rw [hW]; simp
  have hW' := hW.symm
  obtain ⟨b, hb, s, hnd, hs8, hs2⟩ := t.top
  have HC : Hid (Calls Tryz.prog 58 #[.pointer (some ⟨T, 0, none⟩), .int .i64 i, .int .i64 (xs.length : Int), .func (.func 62) #[] #[.pointer (some ⟨w.heap.size + 1, 0, none⟩)]] W fun e w' => ChangeDoneE T (fun y => y = w.heap.size + 1 ∨ y = w.heap.size) n h (delL xs i) (fun W => EntAt W (w.heap.size + 1) (xs.getD i z) ∧ Box2 w.heap.size W) W e w') := by
    refine changeE_calls T n h (fun y => y = w.heap.size + 1 ∨ y = w.heap.size) _ _ true delL _ _ xs i _ b local_del (enters_of Tryz.func62 (by kernel_rfl) rfl) (doDelE T (w.heap.size + 1) w.heap.size _ (.inl rfl) (by omega) z _ _ _ xs i c0 c1 f0 f1 hB) (fun W W' hd hc => ⟨⟨hc.cell hd.1.1 (fun h => h (.inl rfl)), hc.cell hd.1.2 (fun h => h (.inl rfl))⟩, box_chg hd.2 hc (fun h => h (.inr rfl))⟩) (by omega) (fun y hy => ?_) hx (hb.up HU.out) hn ⟨s, ?_, hs8, hs2⟩ ⟨by omega, fun _ => hi⟩ (by omega)
    · rcases hy with rfl | rfl | rfl
      · omega
      · omega
      · omega
    · exact (hnd.mono (fun y hy h => by
        rcases h with h | h | h
        · exact h
        · omega
        · omega)).chg (Chg.of_up HU.out)
  clear t hb hnd hW c0 f0 c1 f1 hB
  obtain ⟨x, hxx⟩ : ∃ x, x = xs.getD i z := ⟨_, rfl⟩
  rw [← hxx] at HC ⊢
  unfold encE
  clear hxx
  go_enter Tryz.func41, Tryz.ntmps41
  go_wp2_with (first
    | (go_at_call 44; refine (tlenE_calls T h n xs _ (HT.out.up HU.out)).mono ?_; rintro _ w1 ⟨rfl, hw1⟩; obtain rfl : W = w1 := hw1.symm; clear hW')
    | (go_at_call 58; refine HC.out.mono ?_; rintro _ w2 ⟨b2, k2, h2, rfl, ht2, htop2, hk1, hk2, ⟨⟨hd2, hd3⟩, b0, b1, f0, f1⟩, hc2⟩; obtain ⟨v0, g0⟩ := Option.isSome_iff_exists.1 b0; obtain ⟨v1, g1⟩ := Option.isSome_iff_exists.1 b1; clear b0 b1; replace ht2 := hide ht2; replace htop2 := hide htop2; replace hc2 := hide hc2))
  have k0 : ((w2.setCell ⟨w.heap.size, 0, none⟩ (.slice x.a x.n x.c)).setCell ⟨w.heap.size, 1, none⟩ (.int .i64 x.id)).cell? ⟨w.heap.size, 0, none⟩ = some (.slice x.a x.n x.c) := set2_c0 g0
  have k1 : ((w2.setCell ⟨w.heap.size, 0, none⟩ (.slice x.a x.n x.c)).setCell ⟨w.heap.size, 1, none⟩ (.int .i64 x.id)).cell? ⟨w.heap.size, 1, none⟩ = some (.int .i64 x.id) := set2_c1 g1
  have s1 := set2_chg w2 w.heap.size (.slice x.a x.n x.c) (.int .i64 x.id)
  obtain ⟨s2, hn2, hs⟩ := htop2.out
  have hTR : T ≠ w.heap.size := by omega
  refine bodyPost_ret (v := .tuple #[.agg #[.slice x.a x.n x.c, .int .i64 x.id], .int .i64 0]) (by simp [results, Tryz.results41, go_sem, k0, k1]) rfl ⟨rfl, h2, k2, ⟨b2, ht2.out.chg s1 hTR, s2, (hn2.chg (s1.mono (fun y _ e => .inr (.inr e)))).mono (fun y _ e => .inl e), hs⟩, hk1, hk2, ((Chg.of_up HU.out).trans hc2.out (fun y hy h => ?_)).trans s1 (fun y hy h => ?_)⟩
  · rcases h with h | h | h
    · exact h
    · omega
    · omega
  · have h' : y = w.heap.size := h
    omega
end Go.Proofs.YtnokokhbcfkifaaGreatDoor
