/-
  A number goes out of a row of numbers (slices.Delete), as the library's text runs.
-/
import Derived.Test.YtofpakpbbpcalaaHaIns
import Derived.Lib.SliceRun
namespace Go.Proofs.Ytofpakpbbpcalaa
open Go.ChangeShapes Go.WideShapes Go.ChangeAt Go.RowKit
set_option linter.unusedVariables false
set_option maxRecDepth 100000
attribute [local go_sem ↓] Go.wp_at_zero Go.wp_at_succ

theorem run_append_row1 {P : Program} (w : World) (t ty e : TypeId) (g p cap : Nat) (a : Addr) (m c : Nat) (cur : Array Value) (te : TypeId) (news : List Value)
    (ht : P.underlying t = some (.slice e)) (hs : (P.info? e).map (·.size) = some 1) (hg : w.heap[g]? = some (.cells cur te (0, 0))) (hn : news.length = m)
    (hsrc : ∀ j v, news[j]? = some v → w.cell? (a.add j) = some v) (h1 : ∀ v ∈ news, v.oneCell' = true) (hroom : p + m ≤ cap) (hfit : p + m ≤ cur.size) :
    (Builtin.append_ #[t, t] ty #[.slice (some ⟨g, 0, none⟩) p cap, .slice (some a) m c]).run P w = .ok (.slice (some ⟨g, 0, none⟩) (p + m) cap) (w.setRow g (cur.toList.take p ++ news ++ cur.toList.drop (p + news.length)).toArray) := by
  have hst := run_storeCells_at P g p te news 0 cur w hg (by rw [hn]; simpa using hfit) h1
  cases hq : P.info? e with
  | none => simp [hq] at hs
  | some i =>
    have hi : i.size = 1 := by simpa [hq] using hs
    have hfc := run_firstCells_some (P := P) w 1 m a m c news (by omega) hsrc
    simp [Builtin.append_, run_underlying ht, sizeOf, typeInfo, hq, hi, Builtin.lenOf, hroom, hfc, Addr.add_lit, hst]
theorem step_append_run {P : Program} {ops : Array Oper} {o : Oper} {a : Act} {w : World} {K : Act → World → Prop} {Q : Exit → Act → World → Prop} {E : Prop}
    (hg : o.guard = none) (s x : Operand) (t : TypeId) (hop : o.op = .call { callee := .builtin .append, args := #[s, x], argTypes := #[t, t] })
    (v u : Value) (hd : a.eval s = v) (hx : a.eval x = u) {v' : Value} {w' : World} (hr : (Builtin.append_ #[t, t] o.type #[v, u]).run P w = .ok v' w') (hK : K (a.put o.dst v') w') :
    if Region.wanted o (yielded ops a.tmps) = true then Oper.wp P o a w K Q else E := by
  have hw : Region.wanted o (yielded ops a.tmps) = true := by simp [Region.wanted, hg]
  rw [if_pos hw]
  unfold Oper.wp
  simp [execOp, hop, resolve, invoke, builtin, hd, hx, hr, Result.andThen]
  exact hK

set_option maxHeartbeats 8000000 in
theorem delJ_some (g cap n p : Nat) (cur : Array Value) (l : List Int) (w : World) (hg : w.heap[g]? = some (.cells cur 2 (0, 0))) (hcs : cur.size = cap) (hct : cur.toList.take n = jcells l) (hl : l.length = n) (hn : n ≤ 1000) (hcap : n ≤ cap) (hcm : cap ≤ maxLen) (hp : p < n) :
    Calls Try.prog 30 #[.slice (some ⟨g, 0, none⟩) n cap, .int .i64 p, .int .i64 ((p : Int) + 1)] w fun e w' => e = .returned (.slice (some ⟨g, 0, none⟩) (n - 1) cap) ∧ OwnJ w' 0 (.slice (some ⟨g, 0, none⟩) (n - 1) cap) (l.take p ++ l.drop (p + 1)) ∧ Chg (fun y => y = g) w w' := by
  have hcg : ∀ j u, (jcells l)[j]? = some u → w.cell? ⟨g, j, none⟩ = some u := fun j u hj => by
    rw [cell_of hg, ← Array.getElem?_toList]
    rw [← hct, List.getElem?_take] at hj
    split at hj
    · exact hj
    · cases hj
  obtain ⟨A, hA, hsrc⟩ : ∃ A : Addr, (if cap = p + 1 then some (⟨g, 0, none⟩ : Addr) else some ⟨g, p + 1, none⟩) = some A ∧ ∀ j u, (jcells (l.drop (p + 1)))[j]? = some u → w.drew.cell? (A.add j) = some u := by
    by_cases h : cap = p + 1
    · refine ⟨⟨g, 0, none⟩, by simp [h], fun t u hu => ?_⟩
      rw [List.getElem?_eq_none (by rw [jcells_length, List.length_drop]; omega)] at hu
      cases hu
    · refine ⟨⟨g, p + 1, none⟩, by simp [h], fun t u hu => ?_⟩
      rw [Addr.add_lit]
      rw [jcells_drop, List.getElem?_drop] at hu
      exact hcg _ u hu
  have hc1 : ∀ ty c, (Builtin.append_ #[31, 31] ty #[.slice (some ⟨g, 0, none⟩) p cap, .slice (some A) (n - (p + 1)) c]).run Try.prog w.drew = _ := fun ty c =>
    run_append_row1 w.drew 31 ty 2 g p cap A (n - (p + 1)) c cur 2 (jcells (l.drop (p + 1))) Try.underlying31 size_j hg (by rw [jcells_length, List.length_drop]; omega) hsrc (jcells_one _) (by omega) (by omega)
  have hpn : p + (n - (p + 1)) = n - 1 := by omega
  rw [hpn] at hc1
  obtain ⟨R1, hR1⟩ : ∃ R1 : Array Value, R1 = (cur.toList.take p ++ jcells (l.drop (p + 1)) ++ cur.toList.drop (p + (jcells (l.drop (p + 1))).length)).toArray := ⟨_, rfl⟩
  rw [← hR1] at hc1
  have hR1s : R1.size = cap := by rw [hR1]; simp [jcells]; omega
  obtain ⟨W1, hW1⟩ : ∃ W1, W1 = w.drew.setRow g R1 := ⟨_, rfl⟩
  rw [← hW1] at hc1
  have hb1 : W1.heap[g]? = some (.cells R1 2 (0, 0)) := by rw [hW1]; exact setRow_heap w.drew g cur _ _ _ hg
  have hch1 : Chg (fun y => y = g) w W1 := by rw [hW1]; exact ((Chg.refl (fun y => y = g) w).drew).trans (chg_setRow _) (fun _ _ h => h)
  have hR1t : R1.toList.take (n - 1) = jcells (l.take p ++ l.drop (p + 1)) := by
    have e1 : cur.toList.take p = jcells (l.take p) := by rw [jcells_take, ← hct, List.take_take, Nat.min_eq_left (by omega)]
    rw [hR1]
    simp only []
    rw [e1, List.take_append_of_le_length (by simp [jcells_length]; omega), List.take_of_length_le (by simp [jcells_length]; omega)]
    simp [jcells]
  obtain ⟨z, hz⟩ : ∃ z, W1.cell? ⟨g, n - 1, none⟩ = some z := ⟨R1[n - 1]'(by omega), by rw [cell_of hb1, Array.getElem?_eq_getElem (by omega)]⟩
  have hfz : W1.frozen? ⟨g, n - 1, none⟩ = false := by simp [World.frozen?, hb1]
  have e1 : IntKind.i64.wrap ((p : Int) + 1) = (p : Int) + 1 := by rw [IntKind.wrap_i64]; omega
  have t2 : ((p : Int) == (p : Int) + 1) = false := by simp; omega
  have p0 : (0 : Int) ≤ (p : Int) := by omega
  have p1 : (p : Int) ≤ (p : Int) + 1 := by omega
  have p2 : (p : Int) + 1 ≤ (n : Int) := by omega
  have p3 : (p : Int) ≤ (n : Int) := by omega
  have p4 : (p : Int) ≤ (cap : Int) := by omega
  have p5 : (0 : Int) ≤ (p : Int) + 1 := by omega
  have p6 : (p : Int) + 1 ≤ (cap : Int) := by omega
  have p7 : (n : Int) ≤ (cap : Int) := by omega
  have htn : ((p : Int) + 1).toNat = p + 1 := by omega
  have q1 : ¬ (cap = p) := by omega
  have q2 : ¬ (n = p) := by omega
  have q3 : ((n - 1 : Nat) : Int) ≤ (n : Int) := by omega
  have q4 : ¬ (cap = n - 1) := by omega
  have q5 : n - (n - 1) = 1 := by omega
  have q6 : (0 : Int) ≤ ((n - 1 : Nat) : Int) := by omega
  have hclr : ∀ ty c, (Builtin.clear_ #[31] ty #[.slice (some ⟨g, n - 1, none⟩) 1 c]).run Try.prog W1 = .ok (.tuple #[]) (W1.setCell ⟨g, n - 1, none⟩ (.int .i64 0)) := fun ty c => by
    have z1 : ∀ j, j < 1 → (W1.cell? ⟨g, n - 1 + j, none⟩).isSome = true := fun j hj => by
      have ej : j = 0 := by omega
      rw [ej, Nat.add_zero, hz]; rfl
    have z2 : ∀ j, j < 1 → W1.frozen? ⟨g, n - 1 + j, none⟩ = false := fun j hj => by
      have ej : j = 0 := by omega
      rw [ej, Nat.add_zero]; exact hfz
    have := Lib.run_clear_slice (P := Try.prog) W1 31 2 ty (.int .i64 0) Try.underlying31 (fun w => by kernel_rfl) rfl rfl g (n - 1) 1 c (by omega) z1 z2
    exact this
  clear hcg hsrc hR1 hW1
  have HB1 := hide hb1
  have HC1 := hide hch1
  have HT1 := hide hR1t
  have HS1 := hide hR1s
  have HL := hide hl
  have HPN := hide hpn
  have HG := hide hg
  clear hb1 hch1 hR1t hR1s hl hpn hg hcs hct
  --D1
  go_enter Try.func30, Try.ntmps30
  go_wp2_with fail
  --D2
  go_region_law (refine step_append_run rfl _ _ 31 rfl _ _ rfl rfl (hc1 _ _) ?_)
  --D3
  all_goals
    go_wp2
    go_ret
    have hc2 : Chg (fun y => y = g) W1 (W1.setCell ⟨g, n - 1, none⟩ (.int .i64 0)) := (Chg.refl _ W1).set (C := fun y => y = g) (p := ⟨g, n - 1, none⟩) (fun _ => rfl) _
    refine ⟨rfl, OwnJ.mk (cur := R1.setIfInBounds (n - 1) (.int .i64 0)) ?_ (by rw [List.length_append, List.length_take, List.length_drop, HL.out]; omega) (by omega) hcm (by simp; exact HS1.out) ?_, HC1.out.trans hc2 (fun _ _ h => h)⟩
    · exact heap_setCell_same W1 g (n - 1) R1 _ _ HB1.out
    · rw [Array.toList_setIfInBounds, List.take_set_of_le (Nat.le_refl _)]
      exact HT1.out

theorem delJ_calls (v : Value) (l : List Int) (p : Nat) (w : World) (h : OwnJ w 0 v l) (hn : l.length ≤ 1000) (hp : p < l.length) :
    Calls Try.prog 30 #[v, .int .i64 p, .int .i64 ((p : Int) + 1)] w fun e w' => ∃ v', e = .returned v' ∧ OwnJ w' 0 v' (l.take p ++ l.drop (p + 1)) ∧ Chg (fun y => v.ownBlock = some y) w w' ∧ v'.ownBlock = v.ownBlock := by
  have hl : l ≠ [] := fun e => by rw [e] at hp; exact absurd hp (Nat.not_lt_zero _)
  obtain ⟨g, cap, cur, rfl, _, hg, h1, h2, h3, h4⟩ := h.block hl
  refine (delJ_some g cap _ p cur l w hg h3 h4 rfl hn h1 h2 hp).mono ?_
  rintro e w' ⟨rfl, ho, hc⟩
  exact ⟨_, rfl, ho, hc.mono (fun y _ h => by rw [h]; rfl), rfl⟩

/-- A number more; one less. -/
def insF (l : List Int) (x : Int) : List Int := l.filter (fun y => decide (y < x)) ++ x :: l.filter (fun y => decide (x < y))
def eraF (l : List Int) (x : Int) : List Int := l.filter (fun y => !decide (y = x))
theorem getD_mem {l : List Int} {i : Nat} (h : i < l.length) : l.getD i 0 = l[i] := by rw [List.getD_eq_getElem?_getD, List.getElem?_eq_getElem h]; rfl
theorem Stands.parts {l : List Int} {x : Int} {p : Nat} (h : Stands l x p) : (∀ y ∈ l.take p, y < x) ∧ ∀ y ∈ l.drop p, x ≤ y := by
  refine ⟨fun y hy => ?_, fun y hy => ?_⟩
  · obtain ⟨k, hk, rfl⟩ := List.getElem_of_mem hy
    rw [List.length_take] at hk
    have := h.low k (by omega)
    rw [getD_mem (by omega)] at this
    simpa using this
  · obtain ⟨k, hk, rfl⟩ := List.getElem_of_mem hy
    rw [List.length_drop] at hk
    have := h.high (p + k) (by omega) (by omega)
    rw [getD_mem (by omega)] at this
    simpa using this
theorem Stands.ins {l : List Int} {x : Int} {p : Nat} (h : Stands l x p) (hx : x ∉ l) : l.take p ++ x :: l.drop p = insF l x := by
  obtain ⟨h1, h2⟩ := h.parts
  have h3 : ∀ y ∈ l.drop p, x < y := fun y hy => by
    have := h2 y hy
    have hne : y ≠ x := fun e => hx (by rw [← e]; exact List.mem_of_mem_drop hy)
    omega
  have e1 : l.filter (fun y => decide (y < x)) = l.take p := by
    conv => lhs; rw [← List.take_append_drop p l, List.filter_append]
    rw [List.filter_eq_self.2 (fun y hy => by simpa using h1 y hy), List.filter_eq_nil_iff.2 (fun y hy => by have := h3 y hy; simp; omega), List.append_nil]
  have e2 : l.filter (fun y => decide (x < y)) = l.drop p := by
    conv => lhs; rw [← List.take_append_drop p l, List.filter_append]
    rw [List.filter_eq_nil_iff.2 (fun y hy => by have := h1 y hy; simp; omega), List.filter_eq_self.2 (fun y hy => by simpa using h3 y hy), List.nil_append]
  rw [insF, e1, e2]
theorem Stands.era {l : List Int} {x : Int} {p : Nat} (h : Stands l x p) (hr : Rise l) (hx : x ∈ l) : l.take p ++ l.drop (p + 1) = eraF l x := by
  obtain ⟨hp, hpx⟩ := (h.mem hr).1 hx
  obtain ⟨h1, h2⟩ := h.parts
  have e : l = l.take p ++ x :: l.drop (p + 1) := by
    rw [← hpx, getD_mem hp, List.getElem_cons_drop, List.take_append_drop]
  have h3 : ∀ y ∈ l.drop (p + 1), x < y := fun y hy => by
    have hr' := hr
    unfold Rise at hr'
    rw [e, List.pairwise_append] at hr'
    exact (List.pairwise_cons.1 hr'.2.1).1 y hy
  rw [eraF]
  conv => rhs; rw [e, List.filter_append, List.filter_cons]
  rw [List.filter_eq_self.2 (fun y hy => by have := h1 y hy; simp; omega), List.filter_eq_self.2 (fun y hy => by have := h3 y hy; simp; omega)]
  simp
theorem insF_mem {l : List Int} {x y : Int} : y ∈ insF l x ↔ y = x ∨ (y ∈ l ∧ y ≠ x) := by
  simp only [insF, List.mem_append, List.mem_cons, List.mem_filter, decide_eq_true_eq]
  constructor
  · rintro (⟨h1, h2⟩ | h | ⟨h1, h2⟩)
    · exact .inr ⟨h1, by omega⟩
    · exact .inl h
    · exact .inr ⟨h1, by omega⟩
  · rintro (h | ⟨h1, h2⟩)
    · exact .inr (.inl h)
    · rcases Int.lt_or_gt_of_ne h2 with h | h
      · exact .inl ⟨h1, h⟩
      · exact .inr (.inr ⟨h1, h⟩)
theorem eraF_mem {l : List Int} {x y : Int} : y ∈ eraF l x ↔ y ∈ l ∧ y ≠ x := by simp [eraF]
theorem insF_rise {l : List Int} {x : Int} (h : Rise l) : Rise (insF l x) := by
  unfold Rise insF
  rw [List.pairwise_append]
  refine ⟨h.filter _, ?_, fun a ha b hb => ?_⟩
  · rw [List.pairwise_cons]
    exact ⟨fun y hy => by simpa using (List.mem_filter.1 hy).2, h.filter _⟩
  · have h1 : a < x := by simpa using (List.mem_filter.1 ha).2
    rcases List.mem_cons.1 hb with rfl | hb
    · exact h1
    · have h2 : x < b := by simpa using (List.mem_filter.1 hb).2
      omega
theorem eraF_rise {l : List Int} {x : Int} (h : Rise l) : Rise (eraF l x) := h.filter _
theorem insF_length {l : List Int} {x : Int} {p : Nat} (h : Stands l x p) (hx : x ∉ l) : (insF l x).length = l.length + 1 := by
  rw [← h.ins hx, take_ins l p x h.le]
/-- Rising rows with the same numbers are the same. -/
theorem rise_unique {l m : List Int} (hl : Rise l) (hm : Rise m) (h : ∀ y, y ∈ l ↔ y ∈ m) : l = m := by
  induction l generalizing m with
  | nil =>
    cases m with
    | nil => rfl
    | cons b m => exact absurd ((h b).2 (by simp)) (by simp)
  | cons a l ih =>
    cases m with
    | nil => exact absurd ((h a).1 (by simp)) (by simp)
    | cons b m =>
      obtain ⟨h1, h2⟩ := List.pairwise_cons.1 hl
      obtain ⟨h3, h4⟩ := List.pairwise_cons.1 hm
      have hab : a = b := by
        rcases List.mem_cons.1 ((h a).1 (by simp)) with e | e
        · exact e
        · rcases List.mem_cons.1 ((h b).2 (by simp)) with e' | e'
          · exact e'.symm
          · have := h3 a e; have := h1 b e'; omega
      subst hab
      rw [ih h2 h4 (fun y => ?_)]
      constructor
      · intro hy
        rcases List.mem_cons.1 ((h y).1 (List.mem_cons_of_mem _ hy)) with e | e
        · have := h1 y hy; omega
        · exact e
      · intro hy
        rcases List.mem_cons.1 ((h y).2 (List.mem_cons_of_mem _ hy)) with e | e
        · have := h3 y hy; omega
        · exact e

end Go.Proofs.Ytofpakpbbpcalaa
