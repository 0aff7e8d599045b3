/-
  A number comes to a row of numbers (slices.Insert), one goes (slices.Delete), as the library's text runs.
-/
import Derived.Test.YtofpakpbbpcalaaHaIds
import Derived.Laws.CopyOwn
import Derived.Lib.Overlaps
import Derived.Lib.AppendZeros
import Derived.Lib.AppendZerosOnto
import Derived.Laws.Externs
import Derived.Deep.RegionLaw
namespace Go.Proofs.Ytofpakpbbpcalaa
open Go.ChangeShapes Go.WideShapes Go.ChangeAt Go.RowKit
set_option linter.unusedVariables false
set_option maxRecDepth 100000
attribute [local go_sem ↓] Go.wp_at_zero Go.wp_at_succ

theorem run_copy_row1 {P : Program} (w : World) (dT ty elem : TypeId) (g o dLen dCap : Nat) (a : Addr) (sLen sCap : Nat) (cur : Array Value) (t : TypeId) (cs : List Value)
    (hu : P.underlying dT = some (.slice elem)) (hs : (P.info? elem).map (·.size) = some 1)
    (hg : w.heap[g]? = some (.cells cur t (0, 0))) (hn : cs.length = Nat.min sLen dLen)
    (hsrc : ∀ j v, cs[j]? = some v → w.cell? (a.add j) = some v) (hfit : o + cs.length ≤ cur.size) (h1 : ∀ v ∈ cs, v.oneCell' = true) :
    (Builtin.copy_ #[dT, dT] ty #[.slice (some ⟨g, o, none⟩) dLen dCap, .slice (some a) sLen sCap]).run P w =
      .ok (goInt (Nat.min sLen dLen)) (w.setRow g (cur.toList.take o ++ cs ++ cur.toList.drop (o + cs.length)).toArray) := by
  have hl := run_loadCells_list (P := P) w a cs hsrc
  have hst := run_storeCells_at P g o t cs 0 cur w hg (by simpa using hfit) h1
  cases hq : P.info? elem with
  | none => simp [hq] at hs
  | some i =>
    have hi : i.size = 1 := by simpa [hq] using hs
    simp [Builtin.copy_, run_underlying hu, Builtin.lenOf, Builtin.firstCells, sizeOf, typeInfo, hq, hi, ← hn, hl, hst]
theorem wpList_copy_run {P : Program} (w : World) {ops : Array Oper} {rest : List Oper} {o : Oper} {a : Act} {Q : Exit → Act → World → Prop} (hgd : o.guard = none) (d s : Operand) (t t' : TypeId)
    (ho : o.op = .call { callee := .builtin .copy, args := #[d, s], argTypes := #[t, t'] }) (v u : Value) (hd : a.eval d = v) (hs : a.eval s = u) {v' : Value} {w' : World}
    (hr : (Builtin.copy_ #[t, t'] o.type #[v, u]).run P w = .ok v' w') (h : wpList P ops Q rest (a.put o.dst v') w') : wpList P ops Q (o :: rest) a w := by
  refine wpList_plain hgd fun _ hK => ?_
  unfold Oper.wp
  simp [execOp, ho, resolve, invoke, builtin, hd, hs, hr, Result.andThen]
  exact hK _ _ h
theorem size_j : (Try.prog.info? 2).map (·.size) = some 1 := by
  obtain ⟨i0, hi, _, h1, _⟩ := info_parts info_j
  rw [hi]; simp [h1]
theorem sizeOf_j (w : World) : (Go.sizeOf 2).run Try.prog w = .ok 1 w := by
  obtain ⟨i0, hi, _, h1, _⟩ := info_parts info_j
  simp [Go.sizeOf, typeInfo, hi, h1]

/-- The cells of numbers. -/
def jcells (l : List Int) : List Value := l.map (Value.int .i64)
theorem jcells_flat (l : List Int) : l.flatMap jC = jcells l := by
  induction l with
  | nil => rfl
  | cons x l ih => rw [List.flatMap_cons, ih]; rfl
theorem jcells_one (l : List Int) : ∀ u ∈ jcells l, u.oneCell' = true := by
  intro u hu
  obtain ⟨_, _, rfl⟩ := List.mem_map.1 hu
  rfl
theorem jcells_length (l : List Int) : (jcells l).length = l.length := by simp [jcells]
/-- A row that isn't nil: its block. -/
theorem OwnJ.block {w : World} {base : Nat} {v : Value} {l : List Int} (h : OwnJ w base v l) (hl : l ≠ []) : ∃ g cap cur, v = .slice (some ⟨g, 0, none⟩) l.length cap ∧ base ≤ g ∧ w.heap[g]? = some (.cells cur 2 (0, 0)) ∧ l.length ≤ cap ∧ cap ≤ maxLen ∧ cur.size = cap ∧ cur.toList.take l.length = jcells l := by
  rcases h.2 with ⟨rfl, hn⟩ | ⟨g, cap, cur, rfl, hb, hg, h1, h2, h3, h4⟩
  · exact absurd (List.length_eq_zero_iff.1 hn) hl
  · exact ⟨g, cap, cur, rfl, hb, hg, h1, h2, by simpa using h3, by rw [← jcells_flat, ← h4]; simp⟩
theorem OwnJ.mk {w : World} {g n cap : Nat} {cur : Array Value} {l : List Int} (hg : w.heap[g]? = some (.cells cur 2 (0, 0))) (hl : l.length = n) (h1 : n ≤ cap) (h2 : cap ≤ maxLen) (h3 : cur.size = cap) (h4 : cur.toList.take n = jcells l) : OwnJ w 0 (.slice (some ⟨g, 0, none⟩) n cap) l := by
  subst hl
  refine ⟨by rw [jcells_flat, jcells_length]; omega, .inr ⟨g, cap, cur, rfl, Nat.zero_le _, hg, h1, h2, by omega, ?_⟩⟩
  rw [jcells_flat, ← h4]; simp
theorem cell_of {w : World} {g : Nat} {cur : Array Value} {t : TypeId} {fz : Nat × Nat} (hg : w.heap[g]? = some (.cells cur t fz)) (j : Nat) : w.cell? ⟨g, j, none⟩ = cur[j]? := by
  simp [World.cell?, hg]
theorem chg_setRow {w : World} {g : Nat} (cs : Array Value) : Chg (fun y => y = g) w (w.setRow g cs) :=
  ⟨⟨rfl, rfl, rfl, by simp [World.setRow], fun k hk => absurd hk (Nat.not_lt_zero k)⟩, fun y hy hn => setRow_other w g y cs hn⟩
theorem up_of_chg_new {w w1 w2 : World} {g : Nat} (hu : Up w w1) (hc : Chg (fun y => y = g) w1 w2) (hg : w.heap.size ≤ g) : Up w w2 := ((Chg.of_up (C := fun y => y = g) hu).trans hc (fun _ _ h => h)).up (fun x hx e => by omega)

/-- What Insert leaves. -/
def InsPost (w : World) (v : Value) (l : List Int) (e : Ending) (w' : World) : Prop :=
  ∃ v', e = .returned v' ∧ OwnJ w' 0 v' l ∧ Chg (fun y => v.ownBlock = some y) w w' ∧ (v'.ownBlock = v.ownBlock ∨ ∃ g, v'.ownBlock = some g ∧ w.heap.size ≤ g ∧ g < w'.heap.size)

set_option maxHeartbeats 4000000 in
/-- At the end. -/
theorem insJ_end (g cap vb n : Nat) (l : List Int) (x : Int) (w : World) (hown : OwnJ w 0 (.slice (some ⟨g, 0, none⟩) n cap) l) (hl : l.length = n) (hn : n ≤ 1000) (hv : w.cell? ⟨vb, 0, none⟩ = some (.int .i64 x)) :
    Calls Try.prog 27 #[.slice (some ⟨g, 0, none⟩) n cap, .int .i64 n, .slice (some ⟨vb, 0, none⟩) 1 1] w fun e w' => InsPost w (.slice (some ⟨g, 0, none⟩) n cap) (l ++ [x]) e w' := by
  have HO := hide hown
  have HL := hide hl
  have HV := hide hv
  have hlt : g < w.heap.size := (hown.lt g rfl).2
  have HLT := hide hlt
  clear hown hl hv hlt
  go_enter Try.func27, Try.ntmps27
  go_wp2_with (at_builtin; refine append_ids rfl _ _ rfl 0 _ l rfl HO.out ⟨vb, 0, none⟩ 1 1 [x] rfl rfl (fun j hj => ?_) (by simp; rw [HL.out]; omega) (Nat.zero_le _) ?_)
  all_goals first
    | (obtain rfl : j = 0 := by simpa using hj
       simpa [Addr.add_lit] using HV.out)
    | (intro v' w' ho hg hat
       have HO2 := hide ho
       have HG := hide hg
       have HA := hide hat
       clear ho hg hat
       go_wp2
       go_ret
       refine ⟨v', rfl, HO2.out, ⟨⟨HG.out.os, HG.out.tape, HG.out.output, HG.out.size, fun k hk => absurd hk (Nat.not_lt_zero k)⟩, fun y hy hne => HG.out.block y hy (fun e => hne e.symm)⟩, ?_⟩
       rcases HA.out with h | h
       · exact .inl h
       · exact .inr ⟨_, h, Nat.le_refl _, (HO2.out.lt _ h).2⟩)

theorem take_ins (l : List Int) (p : Nat) (x : Int) (hp : p ≤ l.length) : (l.take p ++ x :: l.drop p).length = l.length + 1 := by simp; omega
theorem jcells_take (l : List Int) (p : Nat) : jcells (l.take p) = (jcells l).take p := by simp [jcells]
theorem jcells_drop (l : List Int) (p : Nat) : jcells (l.drop p) = (jcells l).drop p := by simp [jcells]

set_option maxHeartbeats 8000000 in
/-- Within, where there is no room. -/
theorem insJ_grow (g vb n p : Nat) (cur : Array Value) (l : List Int) (x : Int) (w : World) (hg : w.heap[g]? = some (.cells cur 2 (0, 0))) (hcs : cur.size = n) (hct : cur.toList = jcells l) (hl : l.length = n) (hn : n ≤ 1000) (hp : p < n) (hv : w.cell? ⟨vb, 0, none⟩ = some (.int .i64 x)) :
    Calls Try.prog 27 #[.slice (some ⟨g, 0, none⟩) n n, .int .i64 p, .slice (some ⟨vb, 0, none⟩) 1 1] w fun e w' => InsPost w (.slice (some ⟨g, 0, none⟩) n n) (l.take p ++ x :: l.drop p) e w' := by
  obtain ⟨i0, hi0, hz0, hzs, hzb⟩ := info_parts info_j
  have hgl : g < w.heap.size := by
    rcases Nat.lt_or_ge g w.heap.size with h' | h'
    · exact h'
    · rw [Array.getElem?_eq_none h'] at hg; cases hg
  have hvl : vb < w.heap.size := World.block_lt_of_cell? w _ hv
  have hold : (Builtin.firstCells i0.size p (.slice (some ⟨g, 0, none⟩) p n)).run Try.prog w.drew = .ok (jcells (l.take p)).toArray w.drew := by
    rw [hzs]
    refine run_firstCells_some w.drew 1 p ⟨g, 0, none⟩ p n (jcells (l.take p)) (by rw [jcells_length, List.length_take]; omega) (fun j v hj => ?_)
    rw [Addr.add_lit, show w.drew.cell? ⟨g, 0 + j, none⟩ = w.cell? ⟨g, 0 + j, none⟩ from rfl, cell_of hg, ← Array.getElem?_toList, hct]
    rw [jcells_take, List.getElem?_take] at hj
    split at hj
    · rw [Nat.zero_add]; exact hj
    · cases hj
  obtain ⟨k, hk⟩ : ∃ k, k = n + 1 - p := ⟨_, rfl⟩
  have hap : ∀ ty, (Builtin.append_ #[31, 3] ty #[.slice (some ⟨g, 0, none⟩) p n, .int .i64 (k : Nat)]).run Try.prog w = _ := fun ty =>
    Lib.run_append_grow_zeros w 31 3 ty 2 i0 _ .i64 .i64 Try.underlying31 Try.underlying3 hi0 hz0 (some ⟨g, 0, none⟩) p n (jcells (l.take p)) hold k (by omega) (by omega) (by omega) (by omega) (by rw [hzb]; omega) (by rw [hzb]; exact growslice_fits (by omega) (by omega))
  have hpk : p + k = n + 1 := by omega
  rw [hpk] at hap
  have hge := grownCap_ge w (n + 1) n 2
  have hle := grownCap_le_maxLen w (n + 1) n 2 (by unfold maxLen; omega)
  obtain ⟨G, hG⟩ : ∃ G, G = grownCap w (n + 1) n 2 := ⟨_, rfl⟩
  rw [← hG] at hap hge hle
  obtain ⟨R, hR⟩ : ∃ R : Array Value, R = (jcells (l.take p)).toArray ++ Builtin.zeroCells (Value.int .i64 0).cells k ++ Builtin.zeroCells (Value.int .i64 0).cells (G - (n + 1)) := ⟨_, rfl⟩
  rw [← hR] at hap
  have hRs : R.size = G := by rw [hR]; simp [Builtin.zeroCells, Value.cells, jcells_length]; omega
  have hRt : R.toList.take p = jcells (l.take p) := by
    rw [hR]
    simp only [Array.toList_append, List.append_assoc]
    rw [List.take_append_of_le_length (by simp [jcells_length]; omega), List.take_of_length_le (by simp [jcells_length]; omega)]
  obtain ⟨W1, hW1⟩ : ∃ W1, W1 = w.drew.alloc (.cells R 2) := ⟨_, rfl⟩
  rw [← hW1] at hap
  have hb1 : W1.heap[w.heap.size]? = some (.cells R 2 (0, 0)) := by rw [hW1]; exact heap_alloc_new w.drew _
  have hu1 : Up w W1 := by rw [hW1]; exact (Up.refl w).drew.alloc _
  have hW1s : w.heap.size < W1.heap.size := by rw [hW1]; simp
  -- the number
  have hc1 : ∀ ty dc, (Builtin.copy_ #[31, 31] ty #[.slice (some ⟨w.heap.size, p, none⟩) (n + 1 - p) dc, .slice (some ⟨vb, 0, none⟩) 1 1]).run Try.prog W1 = _ := fun ty dc =>
    run_copy_row1 W1 31 ty 2 w.heap.size p (n + 1 - p) dc ⟨vb, 0, none⟩ 1 1 R 2 (jcells [x]) Try.underlying31 size_j hb1 (by rw [jcells_length]; show 1 = min 1 _; omega) (fun j u hj => by
      cases j with
      | zero => simp [jcells] at hj; subst hj; exact hu1.cell (p := ⟨vb, 0, none⟩) hv
      | succ j => simp [jcells] at hj) (by rw [jcells_length, hRs]; simp; omega) (jcells_one _)
  obtain ⟨R2, hR2⟩ : ∃ R2 : Array Value, R2 = (R.toList.take p ++ jcells [x] ++ R.toList.drop (p + (jcells [x]).length)).toArray := ⟨_, rfl⟩
  rw [← hR2] at hc1
  have hR2s : R2.size = G := by rw [hR2]; simp [jcells]; omega
  obtain ⟨W2, hW2⟩ : ∃ W2, W2 = W1.setRow w.heap.size R2 := ⟨_, rfl⟩
  rw [← hW2] at hc1
  have hb2 : W2.heap[w.heap.size]? = some (.cells R2 2 (0, 0)) := by rw [hW2]; exact setRow_heap W1 w.heap.size R _ _ _ hb1
  have hch2 : Chg (fun y => y = w.heap.size) W1 W2 := by rw [hW2]; exact chg_setRow _
  have hu2 : Up w W2 := up_of_chg_new hu1 hch2 (Nat.le_refl _)
  -- what stood behind
  have hc2 : ∀ ty dc sc, (Builtin.copy_ #[31, 31] ty #[.slice (some ⟨w.heap.size, p + 1, none⟩) (n - p) dc, .slice (some ⟨g, p, none⟩) (n - p) sc]).run Try.prog W2.drew = _ := fun ty dc sc =>
    run_copy_row1 W2.drew 31 ty 2 w.heap.size (p + 1) (n - p) dc ⟨g, p, none⟩ (n - p) sc R2 2 (jcells (l.drop p)) Try.underlying31 size_j hb2 (by rw [jcells_length, List.length_drop]; show _ = min _ _; omega) (fun j u hj => by
      rw [Addr.add_lit]
      refine (hu2.drew).cell (p := ⟨g, p + j, none⟩) ?_
      rw [cell_of hg, ← Array.getElem?_toList, hct]
      rwa [jcells_drop, List.getElem?_drop] at hj) (by rw [jcells_length, List.length_drop, hR2s]; omega) (jcells_one _)
  obtain ⟨R3, hR3⟩ : ∃ R3 : Array Value, R3 = (R2.toList.take (p + 1) ++ jcells (l.drop p) ++ R2.toList.drop (p + 1 + (jcells (l.drop p)).length)).toArray := ⟨_, rfl⟩
  rw [← hR3] at hc2
  have hR3s : R3.size = G := by rw [hR3]; simp [jcells]; omega
  obtain ⟨W3, hW3⟩ : ∃ W3, W3 = W2.drew.setRow w.heap.size R3 := ⟨_, rfl⟩
  rw [← hW3] at hc2
  have hb3 : W3.heap[w.heap.size]? = some (.cells R3 2 (0, 0)) := by rw [hW3]; exact setRow_heap W2.drew w.heap.size R2 _ _ _ hb2
  have hu3 : Up w W3 := by rw [hW3]; exact up_of_chg_new hu2.drew (chg_setRow _) (Nat.le_refl _)
  have hW3s : w.heap.size < W3.heap.size := by
    rcases Nat.lt_or_ge w.heap.size W3.heap.size with h' | h'
    · exact h'
    · rw [Array.getElem?_eq_none h'] at hb3; cases hb3
  have hR3t : R3.toList.take (n + 1) = jcells (l.take p ++ x :: l.drop p) := by
    have e1 : R2.toList.take (p + 1) = jcells (l.take p) ++ jcells [x] := by
      rw [hR2]
      simp only []
      rw [hRt, List.take_append_of_le_length (by simp [jcells_length]; omega), List.take_of_length_le (by simp [jcells_length]; omega)]
    rw [hR3]
    simp only []
    rw [e1, List.take_append_of_le_length (by simp [jcells_length]; omega), List.take_of_length_le (by simp [jcells_length]; omega)]
    simp [jcells]
  have HOW := hide (OwnJ.mk (n := n + 1) (cap := G) hb3 (by rw [take_ins l p x (by omega), hl]) hge hle hR3s hR3t)
  have HU3 := hide hu3
  have HS3 := hide hW3s
  have e1 : IntKind.i64.wrap ((n : Int) + 1) = (n : Int) + 1 := by rw [IntKind.wrap_i64]; omega
  have e2 : IntKind.i64.wrap ((n : Int) + 1 - (p : Int)) = (k : Int) := by rw [IntKind.wrap_i64]; omega
  have e3 : IntKind.i64.wrap ((p : Int) + 1) = (p : Int) + 1 := by rw [IntKind.wrap_i64]; omega
  have t1 : decide ((n : Int) + 1 > (n : Int)) = true := decide_eq_true (by omega)
  have t2 : ((p : Int) == (n : Int)) = false := by simp; omega
  have p0 : (0 : Int) ≤ (p : Int) := by omega
  have p1 : (p : Int) ≤ (n : Int) := by omega
  have p2 : (0 : Int) ≤ (p : Int) + 1 := by omega
  have htn : ((p : Int) + 1).toNat = p + 1 := by omega
  have q1 : ¬ (n = p) := by omega
  have q2 : ¬ (G = p) := by omega
  have q3 : ¬ (G = p + 1) := by omega
  have q4 : (p : Int) + 1 ≤ (n : Int) + 1 := by omega
  have q5 : (p : Int) ≤ (n : Int) + 1 := by omega
  have q6 : (n : Int) + 1 - (p : Int) = (k : Int) := by omega
  clear hb1 hb2 hb3 hch2 hu1 hu2 hu3 hR3t hR3 hR2 hR hW1 hW2 hW3 hG hRs hRt hR2s hR3s hW1s hW3s hg hcs hct hv hold hi0 hz0 hzs hzb hpk
  replace hk := hide hk
  --G1
  go_enter Try.func27, Try.ntmps27
  go_wp2_with (at_builtin; refine Lib.wpList_append_run _ rfl _ _ _ _ rfl _ _ rfl rfl _ _ (hap _) ?_)
  --G2
  go_region
  all_goals
    go_wp2
    go_ret
    exact ⟨_, rfl, HOW.out, Chg.of_up HU3.out, .inr ⟨_, rfl, Nat.le_refl _, HS3.out⟩⟩

set_option maxHeartbeats 8000000 in
/-- Within, where there is room. -/
theorem insJ_room (g cap vb n p : Nat) (cur : Array Value) (l : List Int) (x : Int) (w : World) (hg : w.heap[g]? = some (.cells cur 2 (0, 0))) (hcs : cur.size = cap) (hct : cur.toList.take n = jcells l) (hl : l.length = n) (hn : n ≤ 1000) (hcap : n + 1 ≤ cap) (hcm : cap ≤ maxLen) (hp : p < n) (hvb : w.heap[vb]? = some (.cells #[.int .i64 x] 2 (0, 0))) (hne : ¬ vb = g) :
    Calls Try.prog 27 #[.slice (some ⟨g, 0, none⟩) n cap, .int .i64 p, .slice (some ⟨vb, 0, none⟩) 1 1] w fun e w' => InsPost w (.slice (some ⟨g, 0, none⟩) n cap) (l.take p ++ x :: l.drop p) e w' := by
  have hsa : w.shape? vb = some (2, 1) := by simp [World.shape?, hvb]
  have hsb : w.shape? g = some (2, cap) := by simp [World.shape?, hg, hcs]
  have hfa : w.frozen? ⟨vb, 0, none⟩ = false := by simp [World.frozen?, hvb]
  have hfe : w.frozen? ⟨vb, 1, none⟩ = false := by simp [World.frozen?, hvb]
  have hov : ∀ lb cb, (callFunc 40 #[.slice (some ⟨vb, 0, none⟩) 1 1, .slice (some ⟨g, p + 1, none⟩) lb cb]).run Try.prog w = .ok (.value (.bool false)) w := fun lb cb => by
    rw [run_callFunc_extern Try.func40 (by kernel_rfl) (by kernel_rfl) (by kernel_rfl) (e := Extern.SlicesOverlaps.overlaps #[31, 31] #[4]) (by kernel_rfl),
      Lib.run_overlaps_apart w 31 4 2 Try.underlying31 1 sizeOf_j ⟨vb, 0, none⟩ ⟨g, p + 1, none⟩ 1 1 lb cb hne _ _ _ _ hsa hsb (by omega) hfa hfe]
    rfl
  have hcg : ∀ j u, (jcells l)[j]? = some u → w.cell? ⟨g, j, none⟩ = some u := fun j u hj => by
    rw [cell_of hg, ← Array.getElem?_toList]
    rw [← hct, List.getElem?_take] at hj
    split at hj
    · exact hj
    · cases hj
  have hc1 : ∀ ty dc sc, (Builtin.copy_ #[31, 31] ty #[.slice (some ⟨g, p + 1, none⟩) (n - p) dc, .slice (some ⟨g, p, none⟩) (n + 1 - p) sc]).run Try.prog w.drew = _ := fun ty dc sc =>
    run_copy_row1 w.drew 31 ty 2 g (p + 1) (n - p) dc ⟨g, p, none⟩ (n + 1 - p) sc cur 2 (jcells (l.drop p)) Try.underlying31 size_j hg (by rw [jcells_length, List.length_drop]; show _ = min _ _; omega) (fun j u hj => by
      rw [Addr.add_lit]
      rw [jcells_drop, List.getElem?_drop] at hj
      exact hcg (p + j) u hj) (by rw [jcells_length, List.length_drop, hcs]; omega) (jcells_one _)
  obtain ⟨R1, hR1⟩ : ∃ R1 : Array Value, R1 = (cur.toList.take (p + 1) ++ jcells (l.drop p) ++ cur.toList.drop (p + 1 + (jcells (l.drop p)).length)).toArray := ⟨_, rfl⟩
  rw [← hR1] at hc1
  have hR1s : R1.size = cap := by rw [hR1]; simp [jcells]; omega
  obtain ⟨W1, hW1⟩ : ∃ W1, W1 = w.drew.setRow g R1 := ⟨_, rfl⟩
  rw [← hW1] at hc1
  have hb1 : W1.heap[g]? = some (.cells R1 2 (0, 0)) := by rw [hW1]; exact setRow_heap w.drew g cur _ _ _ hg
  have hch1 : Chg (fun y => y = g) w W1 := by rw [hW1]; exact ((Chg.refl (fun y => y = g) w).drew).trans (chg_setRow _) (fun _ _ h => h)
  have hv1 : W1.cell? ⟨vb, 0, none⟩ = some (.int .i64 x) := hch1.cell (by rw [cell_of hvb]; rfl) hne
  have hc2 : ∀ ty dc, (Builtin.copy_ #[31, 31] ty #[.slice (some ⟨g, p, none⟩) (n + 1 - p) dc, .slice (some ⟨vb, 0, none⟩) 1 1]).run Try.prog W1 = _ := fun ty dc =>
    run_copy_row1 W1 31 ty 2 g p (n + 1 - p) dc ⟨vb, 0, none⟩ 1 1 R1 2 (jcells [x]) Try.underlying31 size_j hb1 (by rw [jcells_length]; show 1 = min 1 _; omega) (fun j u hj => by
      cases j with
      | zero => simp [jcells] at hj; subst hj; exact hv1
      | succ j => simp [jcells] at hj) (by rw [jcells_length, hR1s]; simp; omega) (jcells_one _)
  obtain ⟨R2, hR2⟩ : ∃ R2 : Array Value, R2 = (R1.toList.take p ++ jcells [x] ++ R1.toList.drop (p + (jcells [x]).length)).toArray := ⟨_, rfl⟩
  rw [← hR2] at hc2
  have hR2s : R2.size = cap := by rw [hR2]; simp [jcells]; omega
  obtain ⟨W2, hW2⟩ : ∃ W2, W2 = W1.setRow g R2 := ⟨_, rfl⟩
  rw [← hW2] at hc2
  have hb2 : W2.heap[g]? = some (.cells R2 2 (0, 0)) := by rw [hW2]; exact setRow_heap W1 g R1 _ _ _ hb1
  have hch2 : Chg (fun y => y = g) w W2 := by rw [hW2]; exact hch1.trans (chg_setRow _) (fun _ _ h => h)
  have hR2t : R2.toList.take (n + 1) = jcells (l.take p ++ x :: l.drop p) := by
    have e1 : R1.toList.take p = jcells (l.take p) := by
      rw [hR1]
      simp only []
      rw [List.append_assoc, List.take_append_of_le_length (by simp; omega), List.take_take, Nat.min_eq_left (by omega), jcells_take, ← hct, List.take_take, Nat.min_eq_left (by omega)]
    have e2 : (R1.toList.drop (p + 1)).take (n - p) = jcells (l.drop p) := by
      rw [hR1]
      simp only []
      rw [List.append_assoc, List.drop_append_of_le_length (by simp; omega), List.drop_eq_nil_of_le (by simp; omega), List.nil_append, List.take_append_of_le_length (by simp [jcells_length]; omega), List.take_of_length_le (by simp [jcells_length]; omega)]
    rw [hR2]
    simp only [jcells_length, List.length_singleton]
    rw [e1, List.take_append, List.take_of_length_le (by simp [jcells_length]; omega)]
    have e3 : (jcells (l.take p) ++ jcells [x]).length = p + 1 := by simp [jcells_length]; omega
    rw [e3, show n + 1 - (p + 1) = n - p by omega, e2]
    simp [jcells]
  have HOW := hide (OwnJ.mk (n := n + 1) (cap := cap) hb2 (by rw [take_ins l p x (by omega), hl]) hcap hcm hR2s hR2t)
  have HC2 := hide hch2
  have e1 : IntKind.i64.wrap ((n : Int) + 1) = (n : Int) + 1 := by rw [IntKind.wrap_i64]; omega
  have e3 : IntKind.i64.wrap ((p : Int) + 1) = (p : Int) + 1 := by rw [IntKind.wrap_i64]; omega
  have t1 : decide ((n : Int) + 1 > (cap : Int)) = false := decide_eq_false (by omega)
  have t2 : ((p : Int) == (n : Int)) = false := by simp; omega
  have p0 : (0 : Int) ≤ (p : Int) := by omega
  have p1 : (p : Int) ≤ (n : Int) := by omega
  have p2 : (0 : Int) ≤ (p : Int) + 1 := by omega
  have p3 : (0 : Int) ≤ (n : Int) + 1 := by omega
  have p4 : (n : Int) + 1 ≤ (cap : Int) := by omega
  have htn : ((p : Int) + 1).toNat = p + 1 := by omega
  have htn2 : ((n : Int) + 1).toNat = n + 1 := by omega
  have q1 : ¬ (cap = p) := by omega
  have q3 : ¬ (cap = p + 1) := by omega
  have q4 : (p : Int) + 1 ≤ (n : Int) + 1 := by omega
  have q5 : (p : Int) ≤ (n : Int) + 1 := by omega
  clear hb1 hb2 hch1 hch2 hR2t hR2 hR1 hW1 hW2 hR1s hR2s hg hcs hct hcg hsa hsb hfa hfe hvb hv1
  --G3
  go_enter Try.func27, Try.ntmps27
  go_wp2_with (simp only [hov])
  --G4
  go_region
  all_goals
    go_wp2
    go_ret
    exact ⟨_, rfl, HOW.out, HC2.out.mono (fun y _ h => by rw [h]; rfl), .inl rfl⟩

/-- All roads. -/
theorem insJ_calls (v : Value) (l : List Int) (x : Int) (p vb : Nat) (w : World) (h : OwnJ w 0 v l) (hl : l ≠ []) (hn : l.length ≤ 1000) (hp : p ≤ l.length) (hvb : w.heap[vb]? = some (.cells #[.int .i64 x] 2 (0, 0))) (hne : ¬ v.ownBlock = some vb) :
    Calls Try.prog 27 #[v, .int .i64 p, .slice (some ⟨vb, 0, none⟩) 1 1] w fun e w' => InsPost w v (l.take p ++ x :: l.drop p) e w' := by
  have h0 := h
  obtain ⟨g, cap, cur, rfl, _, hg, h1, h2, h3, h4⟩ := h.block hl
  have hvg : ¬ vb = g := fun e => hne (by rw [e]; rfl)
  by_cases hpn : p = l.length
  · subst hpn
    have := insJ_end g cap vb l.length l x w h0 rfl hn (by rw [cell_of hvb]; rfl)
    simpa using this
  · by_cases hr : l.length + 1 ≤ cap
    · exact insJ_room g cap vb _ p cur l x w hg h3 h4 rfl hn hr h2 (by omega) hvb hvg
    · obtain rfl : cap = l.length := by omega
      refine insJ_grow g vb _ p cur l x w hg h3 ?_ rfl hn (by omega) (by rw [cell_of hvb]; rfl)
      rw [← h4, List.take_of_length_le (by rw [Array.length_toList]; omega)]

end Go.Proofs.Ytofpakpbbpcalaa
