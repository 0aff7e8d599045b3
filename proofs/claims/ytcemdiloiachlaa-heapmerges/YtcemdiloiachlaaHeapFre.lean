/-
  The landed bag of numbers (Free): its heap's methods, NewFree, Put, Take, Len, as their text runs.
-/
import Derived.Test.YtcemdiloiachlaaHeapOps
import Derived.Test.YtcemdiloiachlaaHeapCells
import Derived.Test.YtcemdiloiachlaaQuietUp
import Derived.Deep.AppendLies
import Derived.Deep.RegionLaw
namespace Go.Proofs.Ytcemdiloiachlaa
open Go.ChangeShapes Go.WideShapes Go.ChangeAt Go.RowKit
set_option linter.unusedVariables false

/-- append at a step of a region that draws its order. -/
theorem step_append_own {α : Type} {cs : α → List Value} {P : Program} {t e : TypeId} {z : Value} {k bytes : Nat} (ht : P.underlying t = some (.slice e)) (hi' : (P.info? e).map (fun i => (i.zero, i.size, i.bytes)) = some (some z, k, bytes)) (hzl : z.cells.size = k) (hk0 : 0 < k) (hb1 : bytes ≤ 64)
    (hk : ∀ v, (cs v).length = k) (hone : ∀ v, ∀ u ∈ cs v, u.oneCell' = true)
    {w : World} {ops : Array Oper} {o : Oper} {a : Act} {K : Act → World → Prop} {Q : Exit → Act → World → Prop} {E : Prop} (hgd : o.guard = none) (s x : Operand)
    (ho : o.op = .call { callee := .builtin .append, args := #[s, x], argTypes := #[t, t] }) (base : Nat) (v : Value) (l : List α) (hs : a.eval s = v) (hown : OwnG e k cs w base v l)
    (ad : Addr) (c : Nat) (new : α) (hx : a.eval x = .slice (some ad) 1 c) (hnews : ∀ j u, (cs new)[j]? = some u → w.cell? (ad.add j) = some u)
    (hlen : l.length + 1 ≤ 1000000) (hbase : base ≤ w.heap.size)
    (h : ∀ g cap w', OwnG e k cs w' base (.slice (some ⟨g, 0, none⟩) (l.length + 1) cap) (l ++ [new]) → w.grownBy w' v.ownBlock → (v.ownBlock = some g ∨ w.heap.size ≤ g) → K (a.put o.dst (.slice (some ⟨g, 0, none⟩) (l.length + 1) cap)) w') : if Region.wanted o (yielded ops a.tmps) = true then Oper.wp P o a w K Q else E := by
  obtain ⟨i0, hi, hz0, hz1, hz2⟩ := info_parts hi'
  refine step_append_lies w hgd s x t ho base e i0 z k bytes ht hi hz0 hz1 hz2 hzl hk0 v l.length (l.flatMap cs) hs hown ad 1 c (cs new) hx (by rw [hk]; omega) hnews (hone new) (by decide) (by unfold maxLen; omega) ?_ hbase w.heap.size rfl fun g cap w' h1 h2 h3 h4 => h g cap w' ?_ h2 ?_
  · have : (l.length + 1) * bytes ≤ 1000000 * 64 := Nat.mul_le_mul hlen hb1
    omega
  · unfold OwnG
    rw [List.length_append, List.flatMap_append, List.flatMap_singleton]
    exact h1
  · rcases h3 with h3 | h3
    · exact .inl h3
    · exact .inr (Nat.le_of_eq h3.symm)

def nCells (e : Int) : List Value := [.int .i64 e]
abbrev OwnN := OwnG (α := Int) 68 1 nCells
def ahN (a b : Int) : Bool := decide (a < b)
theorem ahN_order : Order ahN := by
  constructor
  · intro a b h; simp only [ahN, decide_eq_true_eq, decide_eq_false_iff_not] at *; omega
  · intro a b c h1 h2; simp only [ahN, decide_eq_false_iff_not] at *; omega
theorem nflat (l : List Int) : l.flatMap nCells = l.map (fun x => .int .i64 x) := by
  induction l with
  | nil => rfl
  | cons x l ih => rw [List.flatMap_cons, ih]; rfl
theorem info_num : (Try.prog.info? 68).map (fun i => (i.zero, i.size, i.bytes)) = some (some (.int .i64 0), 1, 8) := by kernel_rfl

/-- The bag's heap in memory: p the bag, b its array. -/
structure StF (p b : Nat) (w : World) (xs : List Int) : Prop where
  cell : ∃ v, w.cell? ⟨p, 0, none⟩ = some v ∧ OwnN w (p + 1) v xs ∧ ∀ g, v.ownBlock = some g → g = b
  frozen : w.frozen? ⟨p, 0, none⟩ = false
  small : xs.length ≤ 100000
theorem StF.any {p b : Nat} {w : World} {xs : List Int} (h : StF p b w xs) : ∃ a cap, w.cell? ⟨p, 0, none⟩ = some (.slice a xs.length cap) := by
  obtain ⟨v, hc, ho, hg⟩ := h.cell
  rcases ho.2 with ⟨rfl, hn⟩ | ⟨g, cap, cur, rfl, _⟩
  · exact ⟨none, 0, by rw [hc, hn]⟩
  · exact ⟨_, cap, hc⟩
theorem StF.form {p b : Nat} {w : World} {xs : List Int} (h : StF p b w xs) (h0 : 0 < xs.length) :
    ∃ cap, w.cell? ⟨p, 0, none⟩ = some (.slice (some ⟨b, 0, none⟩) xs.length cap) ∧ xs.length ≤ cap ∧ cap ≤ maxLen ∧ p < b ∧ b < w.heap.size ∧ (∀ i, w.frozen? ⟨b, i, none⟩ = false) ∧ (∀ i, i < xs.length → w.cell? ⟨b, i, none⟩ = some (.int .i64 (xs.getD i 0))) ∧ OwnN w (p + 1) (.slice (some ⟨b, 0, none⟩) xs.length cap) xs := by
  obtain ⟨v, hc, ho, hg⟩ := h.cell
  have ho' := ho
  rcases ho.2 with ⟨rfl, hn⟩ | ⟨g, cap, cur, rfl, hb, hh, h1, h2, _⟩
  · omega
  · obtain rfl := hg g rfl
    refine ⟨cap, hc, h1, h2, by omega, (ho'.lt g rfl).2, fun i => World.ownsRow.frozenAt ho' i, fun i hi => ?_, ho'⟩
    rw [World.ownsRow.cellAt ho' i (by omega), nflat, List.getElem?_map, List.getElem?_eq_getElem hi, List.getD_eq_getElem?_getD, List.getElem?_eq_getElem hi]
    rfl
theorem StF.up {p b : Nat} {w w' : World} {xs : List Int} (h : StF p b w xs) (hu : Up w w') : StF p b w' xs := by
  obtain ⟨v, hc, ho, hg⟩ := h.cell
  exact ⟨⟨v, hu.cell hc, ho.up hu, hg⟩, (hu.frozen (World.block_lt_of_cell? w ⟨p, 0, none⟩ hc)).trans h.frozen, h.small⟩
theorem StF.chg {p b : Nat} {C : Nat → Prop} {w w' : World} {xs : List Int} (h : StF p b w xs) (hu : Chg C w w') (hp : ¬ C p) (hb : ¬ C b) : StF p b w' xs := by
  obtain ⟨v, hc, ho, hg⟩ := h.cell
  refine ⟨⟨v, hu.cell hc hp, ⟨ho.1, ?_⟩, hg⟩, (hu.frozen (World.block_lt_of_cell? w ⟨p, 0, none⟩ hc) hp).trans h.frozen, h.small⟩
  rcases ho.2 with h0 | ⟨g, cap, cur, rfl, h1, h2, h3⟩
  · exact .inl h0
  · obtain rfl := hg g rfl
    exact .inr ⟨g, cap, cur, rfl, h1, (hu.2 g (ho.lt g rfl).2 hb).trans h2, h3⟩
/-- Two numbers have changed places. -/
theorem StF.swapped {p b : Nat} {w : World} {xs : List Int} (h : StF p b w xs) {i j : Nat} (hi : i < xs.length) (hj : j < xs.length) (w' : World) (e : w' = ((w.setCell ⟨b, i, none⟩ (.int .i64 (xs.getD j 0))).setCell ⟨b, j, none⟩ (.int .i64 (xs.getD i 0))).drew) :
    StF p b w' (swapL 0 xs i j) ∧ Chg (PB p b) w w' := by
  obtain ⟨cap, hc, h1, h2, hpb, hbw, hf, hx, ho⟩ := h.form (by omega)
  have hch : Chg (fun x => x = b) w w' := by rw [e]; exact (((Chg.refl _ w).set (C := fun x => x = b) (p := ⟨b, i, none⟩) (fun _ => rfl) _).set (p := ⟨b, j, none⟩) (fun _ => rfl) _).drew
  refine ⟨⟨⟨.slice (some ⟨b, 0, none⟩) xs.length cap, hch.cell hc (by simp only; omega), ?_, fun g hg => by cases hg; rfl⟩, ?_, by rw [swapL_length]; exact h.small⟩, hch.mono (fun x _ e => .inr e)⟩
  · have h3 := (World.ownsRow.stored (World.ownsRow.stored ho i (.int .i64 (xs.getD j 0))).1 j (.int .i64 (xs.getD i 0))).1
    rw [e]
    unfold OwnN OwnG
    rw [swapL_length, nflat]
    rw [nflat] at h3
    unfold swapL
    rw [List.map_set, List.map_set]
    exact h3
  · rw [hch.frozen (p := ⟨p, 0, none⟩) (World.block_lt_of_cell? w ⟨p, 0, none⟩ hc) (by simp only; omega)]
    exact h.frozen
/-- The last one has gone. -/
theorem StF.cut {p b n : Nat} {w : World} {xs : List Int} (h : StF p b w xs) (hN : xs.length = n + 1) (cap : Nat) (hc : w.cell? ⟨p, 0, none⟩ = some (.slice (some ⟨b, 0, none⟩) (n + 1) cap)) (w' : World) (e : w' = w.setCell ⟨p, 0, none⟩ (.slice (some ⟨b, 0, none⟩) n cap)) :
    StF p b w' (xs.take n) ∧ Chg (PB p b) w w' := by
  obtain ⟨cap', hc', h1, h2, hpb, hbw, hf, hx, ho⟩ := h.form (by omega)
  rw [hc', hN] at hc
  obtain rfl : cap' = cap := by cases hc; rfl
  have hch : Chg (fun x => x = p) w w' := by rw [e]; exact (Chg.refl _ w).set (C := fun x => x = p) (p := ⟨p, 0, none⟩) (fun _ => rfl) _
  have hlen : (xs.take n).length = n := by rw [List.length_take]; omega
  refine ⟨⟨⟨.slice (some ⟨b, 0, none⟩) n cap', by rw [e]; exact World.cell?_setCell_same _ _ _ hc', ?_, fun g hg => by cases hg; rfl⟩, by rw [e, World.frozen?_setCell]; exact h.frozen, by rw [hlen]; have := h.small; omega⟩, hch.mono (fun x _ e => .inl e)⟩
  rcases ho.2 with ⟨h0, _⟩ | ⟨g, cap2, cur, hv, h4, h5, h6, h7, h8, h9⟩
  · cases h0
  · cases hv
    refine ⟨by rw [nflat, List.length_map]; omega, .inr ⟨b, cap', cur, by rw [hlen], h4, (hch.2 b hbw (by omega)).trans h5, by omega, h7, h8, ?_⟩⟩
    rw [hlen, nflat, List.map_take, ← nflat, ← h9, hN, List.take_take]
    congr 1
    omega

theorem methF_len0 (p : Nat) (w : World) : (method 214 67 (.pointer (some ⟨p, 0, none⟩)) "Len").run Try.prog w = (do let v ← load ⟨p, 0, none⟩; pure (55, v) : Sem (FuncId × Value)).run Try.prog w := by kernel_rfl
theorem methF_less0 (p : Nat) (w : World) : (method 214 67 (.pointer (some ⟨p, 0, none⟩)) "Less").run Try.prog w = (do let v ← load ⟨p, 0, none⟩; pure (56, v) : Sem (FuncId × Value)).run Try.prog w := by kernel_rfl
theorem methF_swap0 (p : Nat) (w : World) : (method 214 67 (.pointer (some ⟨p, 0, none⟩)) "Swap").run Try.prog w = (do let v ← load ⟨p, 0, none⟩; pure (57, v) : Sem (FuncId × Value)).run Try.prog w := by kernel_rfl
theorem methF_pop (p : Nat) (w : World) : (method 214 67 (.pointer (some ⟨p, 0, none⟩)) "Pop").run Try.prog w = .ok (58, .pointer (some ⟨p, 0, none⟩)) w := by kernel_rfl
theorem methF_push (p : Nat) (w : World) : (method 214 67 (.pointer (some ⟨p, 0, none⟩)) "Push").run Try.prog w = .ok (59, .pointer (some ⟨p, 0, none⟩)) w := by kernel_rfl
theorem methF_ahead (v : Value) (w : World) : (method 214 68 v "rialto/heaps.ahead").run Try.prog w = .ok (60, v) w := by kernel_rfl

theorem lenF_calls (a : Option Addr) (n c : Nat) (w : World) : Calls Try.prog 55 #[.slice a n c] w fun e w' => e = .returned (.int .i64 n) ∧ w' = w := by
  go_enter Try.func55, Try.ntmps55
  go_wp2
  go_ret
  exact ⟨rfl, rfl⟩

theorem aheadF_calls (x y : Int) (w : World) : Calls Try.prog 60 #[.int .i64 x, .int .i64 y] w fun e w' => e = .returned (.bool (ahN x y)) ∧ Up w w' := by
  unfold ahN
  go_enter Try.func60, Try.ntmps60
  go_wp2
  go_ret
  exact ⟨rfl, Up.refl _⟩

set_option maxRecDepth 20000 in
set_option maxHeartbeats 8000000 in
theorem lessF_calls (b i j n cap : Nat) (x y : Int) (w : World) (hi : i < n) (hj : j < n) (hn : n ≤ cap) (hc : n ≤ 100000) (a0 : w.cell? ⟨b, i, none⟩ = some (.int .i64 x)) (b0 : w.cell? ⟨b, j, none⟩ = some (.int .i64 y)) :
    Calls Try.prog 56 #[.slice (some ⟨b, 0, none⟩) n cap, .int .i64 i, .int .i64 j] w fun e w' => e = .returned (.bool (ahN x y)) ∧ Up w w' := by
  have hm := methF_ahead
  go_enter Try.func56, Try.ntmps56
  go_wp2_with fail
  refine region_up (by kernel_rfl) (by kernel_rfl) ?_
  repeat (first
    | go_big_quiet_skip
    | (go_big_quiet_want; go_big_quiet_op; go_big_quiet_on)
    | (go_big_quiet_want
       apply Exists.intro
       refine ⟨fun w' hw' => ?_, ?_⟩
       (skip
        have a0 := hw'.cell a0
        have b0 := hw'.cell b0
        go_simp
        first
        | done
        | with_reducible rfl
        | (go_at_call 60; exact quiet_call hw' (aheadF_calls x y _))
       )
       go_big_quiet_on
       try simp only [Act.put, List.setIfInBounds_toArray, List.set_cons_zero, List.set_cons_succ]))
  intro w2 hu2
  go_wp2
  go_ret
  exact ⟨rfl, hu2⟩

set_option maxRecDepth 20000 in
set_option maxHeartbeats 8000000 in
theorem swapF_ne (b i j n cap : Nat) (x y : Int) (w : World) (hij : ¬ i = j) (hi : i < n) (hj : j < n) (hn : n ≤ cap) (hc : n ≤ 100000) (a0 : w.cell? ⟨b, i, none⟩ = some (.int .i64 x)) (b0 : w.cell? ⟨b, j, none⟩ = some (.int .i64 y)) (hf : ∀ o, w.frozen? ⟨b, o, none⟩ = false) :
    Calls Try.prog 57 #[.slice (some ⟨b, 0, none⟩) n cap, .int .i64 i, .int .i64 j] w fun e w' => e = .returned (.tuple #[]) ∧ w' = ((w.setCell ⟨b, i, none⟩ (.int .i64 y)).setCell ⟨b, j, none⟩ (.int .i64 x)).drew := by
  have g0 := hf i
  have g1 := hf j
  clear hf
  go_enter Try.func57, Try.ntmps57
  go_wp2
  go_region
  all_goals (go_end0; refine ⟨rfl, ?_⟩; with_reducible rfl)

set_option maxRecDepth 20000 in
set_option maxHeartbeats 8000000 in
theorem swapF_same (b n cap : Nat) (x : Int) (w : World) (hi : 0 < n) (hn : n ≤ cap) (hc : n ≤ 100000) (a0 : w.cell? ⟨b, 0, none⟩ = some (.int .i64 x)) (hf : ∀ o, w.frozen? ⟨b, o, none⟩ = false) :
    Calls Try.prog 57 #[.slice (some ⟨b, 0, none⟩) n cap, .int .i64 0, .int .i64 0] w fun e w' => e = .returned (.tuple #[]) ∧ w' = ((w.setCell ⟨b, 0, none⟩ (.int .i64 x)).setCell ⟨b, 0, none⟩ (.int .i64 x)).drew := by
  have g0 := hf 0
  clear hf
  go_enter Try.func57, Try.ntmps57
  go_wp2
  go_region
  all_goals (go_end0; refine ⟨rfl, ?_⟩; with_reducible rfl)

set_option maxRecDepth 20000 in
set_option maxHeartbeats 8000000 in
theorem popF_calls (p b n : Nat) (xs : List Int) (w : World) (hN : xs.length = n + 1) (h : StF p b w xs) :
    Calls Try.prog 58 #[.pointer (some ⟨p, 0, none⟩)] w fun e w' => (∃ x, e = .returned x) ∧ StF p b w' (xs.take n) ∧ Chg (PB p b) w w' := by
  obtain ⟨cap, hc, h1, h2, hpb, hbw, hf, hx, ho⟩ := h.form (by omega)
  have a0 := hx n (by omega)
  have hfp := h.frozen
  have hsm := h.small
  rw [hN] at hc h1 hsm
  have H := hide h
  have HN := hide hN
  have hc' := hide hc
  clear h hN hf hx ho
  have hne : ¬ p = b := by omega
  go_enter Try.func58, Try.ntmps58
  go_wp2
  go_ret
  obtain ⟨h3, h4⟩ := H.out.cut HN.out cap hc'.out _ rfl
  exact ⟨⟨_, rfl⟩, h3, h4⟩

/-- The bag's heap can be handed to container/heap. -/
theorem pileF (p b : Nat) : Pile 0 ahN (fun _ => True) 67 (.pointer (some ⟨p, 0, none⟩)) (PB p b) (StF p b) where
  len w xs h := by
    obtain ⟨a, cap, hc⟩ := h.any
    exact ⟨_, _, ⟨by rw [methF_len0]; simp [go_sem, hc], fun _ _ => by kernel_rfl⟩, lenF_calls a _ cap w⟩
  less w xs i j h hi hj _ _ := by
    obtain ⟨cap, hc, h1, h2, hpb, hbw, hf, hx, ho⟩ := h.form (by omega)
    exact ⟨_, _, ⟨by rw [methF_less0]; simp [go_sem, hc], fun _ _ => by kernel_rfl⟩, lessF_calls b i j _ cap _ _ w hi hj h1 h.small (hx i hi) (hx j hj)⟩
  swap w xs i j h hi hj hij := by
    obtain ⟨cap, hc, h1, h2, hpb, hbw, hf, hx, ho⟩ := h.form (by omega)
    refine ⟨57, .slice (some ⟨b, 0, none⟩) xs.length cap, ⟨by rw [methF_swap0]; simp [go_sem, hc], fun _ _ => by kernel_rfl⟩, ?_⟩
    rcases hij with hij | ⟨rfl, rfl⟩
    · refine (swapF_ne b i j _ cap _ _ w hij hi hj h1 h.small (hx i hi) (hx j hj) hf).mono ?_
      rintro e w' ⟨h1, h2⟩
      exact ⟨h1, h.swapped hi hj w' h2⟩
    · refine (swapF_same b _ cap _ w hi h1 h.small (hx 0 hi) hf).mono ?_
      rintro e w' ⟨h1, h2⟩
      exact ⟨h1, h.swapped hi hj w' h2⟩
  up w w' xs h hu := h.up hu
  small w xs h := by have := h.small; omega

theorem chg_grown {X w3 : World} {v : Value} {b : Nat} (hg3 : X.grownBy w3 v.ownBlock) (hg : ∀ g, v.ownBlock = some g → g = b) : Chg (fun x => x = b) X w3 :=
  ⟨⟨hg3.os, hg3.tape, hg3.output, hg3.size, fun k hk => absurd hk (Nat.not_lt_zero k)⟩, fun y hy hn => hg3.block y hy (fun e => hn (hg y e.symm))⟩
theorem StF.pushed {p b g cap : Nat} {w X w3 : World} {v : Value} {xs : List Int} {x : Int} (hpb : p < w.heap.size) (hg : ∀ g, v.ownBlock = some g → g = b) (hX : Up w X) (hs : xs.length < 100000) (ho3 : OwnN w3 (p + 1) (.slice (some ⟨g, 0, none⟩) (xs.length + 1) cap) (xs ++ [x])) (hg3 : X.grownBy w3 v.ownBlock) (hgb : v.ownBlock = some g ∨ X.heap.size ≤ g)
    (c3 : w3.cell? ⟨p, 0, none⟩ = some v) (f3 : w3.frozen? ⟨p, 0, none⟩ = false) (w' : World) (e : w' = w3.setCell ⟨p, 0, none⟩ (.slice (some ⟨g, 0, none⟩) (xs.length + 1) cap)) :
    ∃ b', StF p b' w' (xs ++ [x]) ∧ Chg (PB p b) w w' ∧ (b' = b ∨ w.heap.size ≤ b') := by
  have h1 : Chg (fun x => x = b) w w3 := (Chg.of_up (C := fun x => x = b) hX).trans (chg_grown hg3 hg) (fun _ _ h => h)
  have h2 : Chg (fun x => x = p) w3 w' := by rw [e]; exact (Chg.refl _ w3).set (C := fun x => x = p) (p := ⟨p, 0, none⟩) (fun _ => rfl) _
  have hlt := (ho3.lt g rfl).1
  refine ⟨g, ⟨⟨.slice (some ⟨g, 0, none⟩) (xs.length + 1) cap, by rw [e]; exact World.cell?_setCell_same _ _ _ c3, OwnG.chg ho3 h2 (fun y hy e => by omega), fun g' hg' => by cases hg'; rfl⟩, by rw [e, World.frozen?_setCell]; exact f3, by rw [List.length_append]; simp; omega⟩, (h1.mono (fun y _ h => .inr h)).trans h2 (fun y _ h => .inl h), ?_⟩
  rcases hgb with h | h
  · exact .inl (hg g h)
  · exact .inr (Nat.le_trans hX.size h)
theorem num_new {w : World} {t : TypeId} (v : Int) : ∀ j u, (nCells v)[j]? = some u → (w.alloc (.cells #[.int .i64 v] t)).cell? ((⟨w.heap.size, 0, none⟩ : Addr).add j) = some u := by
  intro j u hj
  match j with
  | 0 => simp [nCells] at hj; subst hj; simp [Addr.add]
  | j + 1 => simp [nCells] at hj

theorem assertF (x : Int) (w : World) : (Instr.typeAssert (.iface 68 (.int .i64 x)) 20 68 false).run Try.prog w = .ok (.int .i64 x) w := by kernel_rfl

set_option maxRecDepth 20000 in
set_option maxHeartbeats 8000000 in
theorem pushF_calls (p b : Nat) (xs : List Int) (x : Int) (w : World) (hsm : xs.length < 100000) (h : StF p b w xs) :
    Calls Try.prog 59 #[.pointer (some ⟨p, 0, none⟩), .iface 68 (.int .i64 x)] w fun e w' => e = .returned (.tuple #[]) ∧ ∃ b', StF p b' w' (xs ++ [x]) ∧ Chg (PB p b) w w' ∧ (b' = b ∨ w.heap.size ≤ b') := by
  obtain ⟨v, hc, ho, hg⟩ := h.cell
  have hfp := h.frozen
  have hpw : p < w.heap.size := World.block_lt_of_cell? w ⟨p, 0, none⟩ hc
  clear h
  have HG := hide hg
  clear hg
  have hta := assertF
  go_enter Try.func59, Try.ntmps59
  go_wp2_with fail
  go_region_law
    (first
      | (refine step_append_own Try.underlying63 info_num rfl (by decide) (by decide) (fun _ => rfl) (fun v u hu => by simp only [nCells, List.mem_singleton] at hu; subst hu; rfl) rfl _ _ (by rfl) (p + 1) _ xs (by rfl) (OwnG.alloc (w := w.drew) ho _) _ 1 x (by rfl) (num_new x) (by omega) (by simp; omega) ?_; intro g cap w3 ho3 hg3 hgb; have hb3 := OwnG.below (Below.refl (p + 1) _) (by simp; omega) (OwnG.alloc (w := w.drew) ho _) hg3; have ub := ((Up.refl w).drew).alloc (.cells #[.int .i64 x] 68); have c3 := (hb3.cell (p := ⟨p, 0, none⟩) (Nat.lt_succ_self p)).trans (ub.cell hc); have f3 := (hb3.frozen (p := ⟨p, 0, none⟩) (Nat.lt_succ_self p)).trans ((ub.frozen (p := ⟨p, 0, none⟩) hpw).trans hfp)))
  all_goals
    have ub' := hide ub
    have ho3' := hide ho3
    have hg3' := hide hg3
    have hgb' := hide hgb
    have c3' := hide c3
    have f3' := hide f3
    clear ub ho3 hg3 hgb c3 f3 hb3 ho hc
    go_end0
    exact ⟨rfl, StF.pushed hpw HG.out ub'.out hsm ho3'.out hg3'.out hgb'.out c3'.out f3'.out _ rfl⟩

theorem Up.thenChg {C : Nat → Prop} {w w1 w2 : World} (h : Up w w1) (hc : Chg C w1 w2) (hC : ∀ x, x < w.heap.size → ¬ C x) : Up w w2 := ((Chg.of_up (C := C) h).trans hc (fun _ _ h => h)).up hC
/-- A new bag. -/
theorem newFree_calls (w : World) : Calls Try.prog 16 #[] w fun e w' => e = .returned (.pointer (some ⟨w.heap.size, 0, none⟩)) ∧ StF w.heap.size w.heap.size w' [] ∧ Up w w' ∧ w'.heap.size = w.heap.size + 1 := by
  go_enter Try.func16, Try.ntmps16
  go_wp2
  go_ret
  refine ⟨rfl, ⟨⟨.slice none 0 0, by go_simp, OwnG.nil _ _ _ _ _, fun g hg => by cases hg⟩, by go_simp, by simp⟩, (Up.refl _).alloc _, by simp⟩

set_option maxRecDepth 20000 in
set_option maxHeartbeats 4000000 in
theorem put_calls (p b : Nat) (xs : List Int) (x : Int) (w : World) (hsm : xs.length < 100000) (h : StF p b w xs) :
    Calls Try.prog 17 #[.pointer (some ⟨p, 0, none⟩), .int .i64 x] w fun e w' => e = .returned (.tuple #[]) ∧ ∃ b', StF p b' w' (pushL 0 ahN xs x) ∧ Chg (PB p b) w w' ∧ (b' = b ∨ w.heap.size ≤ b') := by
  have H := hide h
  clear h
  go_enter Try.func17, Try.ntmps17
  go_wp2_with fail
  go_at_call 27
  refine (push_calls (C := PB p) (st := StF p) (fun b => pileF p b) b w xs x _ H.out (fun b' y hy => by rcases hy with h | h; exact .inl (.inl h); exact .inr h) ⟨_, _, ⟨methF_push p w, fun _ _ => by kernel_rfl⟩, pushF_calls p b xs x w hsm H.out⟩).mono ?_
  rintro _ w1 ⟨rfl, h1⟩
  replace h1 := hide h1
  go_wp2
  go_end0
  exact ⟨rfl, h1.out⟩

set_option maxRecDepth 20000 in
set_option maxHeartbeats 4000000 in
theorem take_none (p b : Nat) (w : World) (h : StF p b w []) :
    Calls Try.prog 18 #[.pointer (some ⟨p, 0, none⟩)] w fun e w' => e = .returned (.tuple #[.int .i64 0, .bool false]) ∧ w' = w := by
  obtain ⟨a, cap, hc⟩ := h.any
  simp only [List.length_nil] at hc
  clear h
  go_enter Try.func18, Try.ntmps18
  go_wp2
  go_ret2
  exact ⟨rfl, rfl⟩

set_option maxRecDepth 20000 in
set_option maxHeartbeats 4000000 in
theorem take_some (p b : Nat) (xs : List Int) (w : World) (h : StF p b w xs) (h0 : 0 < xs.length) :
    Calls Try.prog 18 #[.pointer (some ⟨p, 0, none⟩)] w fun e w' => e = .returned (.tuple #[.int .i64 (xs.getD 0 0), .bool true]) ∧ StF p b w' (popL 0 ahN xs) ∧ Chg (PB p b) w w' := by
  obtain ⟨cap, hc, h1, h2, hpb, hbw, hf, hx, ho⟩ := h.form h0
  have a0 := hx 0 h0
  obtain ⟨n, hn⟩ : ∃ n, n = xs.length := ⟨_, rfl⟩
  obtain ⟨y, hy⟩ : ∃ y, y = xs.getD 0 0 := ⟨_, rfl⟩
  rw [← hn] at hc h1
  rw [← hy] at a0 ⊢
  have hn0 : ¬ n = 0 := by omega
  have hn1 : 0 < n := by omega
  have hn2 : ((n : Int) == 0) = false := by rw [beq_eq_false_iff_ne]; omega
  have hn3 : n ≤ 100000 := by rw [hn]; exact h.small
  have H := hide h
  clear h hf hx ho
  have HN := hide hn
  clear hn hy
  go_enter Try.func18, Try.ntmps18
  go_wp2_with fail
  go_at_call 28
  refine (pop_calls (pileF p b) w xs H.out (by have := HN.out; omega) (fun _ _ _ => trivial) (fun w ys h h0 => ?_)).mono ?_
  · obtain ⟨n, hn⟩ : ∃ n, ys.length = n + 1 := ⟨ys.length - 1, by omega⟩
    rw [show ys.length - 1 = n by omega]
    exact ⟨_, _, ⟨methF_pop p w, fun _ _ => by kernel_rfl⟩, popF_calls p b n ys w hn h⟩
  · rintro _ w1 ⟨⟨x, rfl⟩, h3, h4⟩
    replace h3 := hide h3
    replace h4 := hide h4
    go_wp2
    go_ret2
    exact ⟨rfl, h3.out, h4.out⟩

theorem flen_calls (p b : Nat) (xs : List Int) (w : World) (h : StF p b w xs) :
    Calls Try.prog 19 #[.pointer (some ⟨p, 0, none⟩)] w fun e w' => e = .returned (.int .i64 xs.length) ∧ w' = w := by
  obtain ⟨a, cap, hc⟩ := h.any
  clear h
  go_enter Try.func19, Try.ntmps19
  go_wp2
  go_ret
  exact ⟨rfl, rfl⟩

end Go.Proofs.Ytcemdiloiachlaa
