/-
  What is left of a row of strings, and what a trie tells of it.
-/
import Derived.Test.YtmbniakobhaomaaTePre
import Derived.Test.YtmbniakobhaomaaTgPut
namespace Go.Proofs.Ytmbniakobhaomaa
open Go.ChangeShapes Go.WideShapes Go.ChangeAt Go.RowKit
set_option linter.unusedVariables false
set_option maxRecDepth 100000

abbrev SZ := List (ByteArray × Int)
/-- What a trie tells of what is left. -/
def gE (z : SZ) (s : List UInt8) : List Int := (z.filter (fun p => decide (p.1.data.toList = s))).map (·.2)
def GRise (z : SZ) : Prop := (z.map (·.2)).Pairwise (· < ·)
theorem gE_nil : gE [] = fun _ => [] := rfl
theorem gE_mem {z : SZ} {s : List UInt8} {x : Int} (h : x ∈ gE z s) : x ∈ z.map (·.2) := by
  obtain ⟨p, hp, rfl⟩ := List.mem_map.1 h
  exact List.mem_map.2 ⟨p, (List.mem_filter.1 hp).1, rfl⟩
theorem gE_app (a b : SZ) (s : List UInt8) : gE (a ++ b) s = gE a s ++ gE b s := by simp [gE]
theorem gE_cons_same (p : ByteArray × Int) (b : SZ) : gE (p :: b) p.1.data.toList = p.2 :: gE b p.1.data.toList := by simp [gE]
theorem gE_cons_other (p : ByteArray × Int) (b : SZ) {s : List UInt8} (h : ¬ s = p.1.data.toList) : gE (p :: b) s = gE b s := by
  have : ¬ p.1.data.toList = s := fun e => h e.symm
  simp only [gE, List.filter_cons, this, decide_false, Bool.false_eq_true, if_false]
theorem insF_last {l : List Int} {x : Int} (h : ∀ y ∈ l, y < x) : insF l x = l ++ [x] := by
  unfold insF
  rw [List.filter_eq_self.2 (fun y hy => decide_eq_true (h y hy)), List.filter_eq_nil_iff.2 (fun y hy => by have := h y hy; simp; omega)]
theorem gE_snoc {z : SZ} (x : ByteArray) {i : Int} (h : ∀ y ∈ z.map (·.2), y < i) : i ∉ gE z x.data.toList ∧ gE (z ++ [(x, i)]) = updE (gE z) x.data.toList (insF (gE z x.data.toList) i) := by
  refine ⟨fun e => by have := h i (gE_mem e); omega, ?_⟩
  funext s
  rw [insF_last (fun y hy => h y (gE_mem hy)), gE_app]
  unfold updE
  by_cases e : s = x.data.toList
  · subst e
    rw [if_pos rfl, gE_cons_same]
    rfl
  · rw [if_neg e, gE_cons_other _ _ e]
    simp [gE]
theorem gE_del {z : SZ} (h : GRise z) {k : Nat} (hk : k < z.length) : z[k].2 ∈ gE z z[k].1.data.toList ∧ gE (z.take k ++ z.drop (k + 1)) = updE (gE z) z[k].1.data.toList (eraF (gE z z[k].1.data.toList) z[k].2) ∧ z[k].2 ∉ gE (z.take k ++ z.drop (k + 1)) z[k].1.data.toList ∧ GRise (z.take k ++ z.drop (k + 1)) := by
  obtain ⟨p, hp⟩ : ∃ p, p = z[k] := ⟨_, rfl⟩
  obtain ⟨A, hA⟩ : ∃ A, A = z.take k := ⟨_, rfl⟩
  obtain ⟨B, hB⟩ : ∃ B, B = z.drop (k + 1) := ⟨_, rfl⟩
  have hz : z = A ++ p :: B := by
    rw [hA, hB, hp]
    conv => lhs; rw [← List.take_append_drop k z, List.drop_eq_getElem_cons hk]
  rw [← hp, ← hA, ← hB]
  clear hp hA hB hk
  subst hz
  unfold GRise at h ⊢
  rw [List.map_append, List.map_cons, List.pairwise_append, List.pairwise_cons] at h
  obtain ⟨h1, ⟨h2, h3⟩, h4⟩ := h
  have nA : ∀ y ∈ A.map (·.2), y ≠ p.2 := fun y hy e => by have := h4 y hy p.2 (List.mem_cons_self ..); omega
  have nB : ∀ y ∈ B.map (·.2), y ≠ p.2 := fun y hy e => by have := h2 y hy; omega
  have hno : p.2 ∉ gE (A ++ B) p.1.data.toList := fun e => by
    rw [gE_app, List.mem_append] at e
    rcases e with e | e
    · exact nA _ (gE_mem e) rfl
    · exact nB _ (gE_mem e) rfl
  refine ⟨by rw [gE_app, gE_cons_same]; simp, ?_, hno, ?_⟩
  · funext s
    unfold updE
    by_cases e : s = p.1.data.toList
    · subst e
      rw [if_pos rfl, gE_app, gE_app, gE_cons_same]
      unfold eraF
      rw [List.filter_append, List.filter_cons]
      simp only [decide_true, Bool.not_true, Bool.false_eq_true, if_false]
      rw [List.filter_eq_self.2 (fun y hy => by simp [nA y (gE_mem hy)]), List.filter_eq_self.2 (fun y hy => by simp [nB y (gE_mem hy)])]
    · rw [if_neg e, gE_app, gE_app, gE_cons_other _ _ e]
  · rw [List.map_append, List.pairwise_append]
    exact ⟨h1, h3, fun a ha b hb => h4 a ha b (List.mem_cons_of_mem _ hb)⟩
/-- The first i strings of a row, each with its place. -/
def zF (l : List ByteArray) (i : Nat) : SZ := (List.range i).map (fun j => (l.getD j ByteArray.empty, (j : Int)))
theorem zF_0 (l : List ByteArray) : zF l 0 = [] := rfl
theorem zF_s (l : List ByteArray) {i : Nat} (hi : i < l.length) : zF l (i + 1) = zF l i ++ [(l[i], (i : Int))] := by
  unfold zF
  rw [List.range_succ, List.map_append]
  congr 1
  simp [List.getD_eq_getElem?_getD, List.getElem?_eq_getElem hi]
theorem zF_len (l : List ByteArray) (i : Nat) : (zF l i).length = i := by simp [zF]
theorem zF_2 (l : List ByteArray) (i : Nat) : (zF l i).map (·.2) = (List.range i).map (fun j : Nat => (j : Int)) := by simp [zF, Function.comp_def]
theorem zF_lt (l : List ByteArray) (i : Nat) : ∀ y ∈ (zF l i).map (·.2), y < (i : Int) := by
  rw [zF_2]
  intro y hy
  obtain ⟨j, hj, rfl⟩ := List.mem_map.1 hy
  have := List.mem_range.1 hj
  omega
theorem zF_rise (l : List ByteArray) (i : Nat) : GRise (zF l i) := by
  unfold GRise
  rw [zF_2, List.pairwise_map]
  exact List.pairwise_lt_range.imp (fun h => by omega)
theorem zF_1 (l : List ByteArray) : (zF l l.length).map (·.1) = l := by
  refine List.ext_getElem (by simp [zF]) (fun i h1 h2 => ?_)
  simp [zF, List.getD_eq_getElem?_getD, List.getElem?_eq_getElem h2]
/-- Numbers as the second loop writes them. -/
def iF (n i : Nat) : List Int := (List.range i).map (fun j : Nat => (j : Int)) ++ List.replicate (n - i) 0
theorem iF_len {n i : Nat} (h : i ≤ n) : (iF n i).length = n := by simp [iF]; omega
theorem iF_0 (n : Nat) : iF n 0 = List.replicate n 0 := by simp [iF]
theorem iF_n (n : Nat) : iF n n = (List.range n).map (fun j : Nat => (j : Int)) := by simp [iF]
theorem iF_s {n i : Nat} (h : i < n) : (iF n i).set i (i : Int) = iF n (i + 1) := by
  unfold iF
  have hl : ((List.range i).map (fun j : Nat => (j : Int))).length = i := by simp
  rw [List.set_append_right _ _ (by omega), hl, Nat.sub_self, List.range_succ, List.map_append, List.append_assoc]
  obtain ⟨m, hm⟩ : ∃ m, n - i = m + 1 := ⟨n - i - 1, by omega⟩
  rw [hm, show n - (i + 1) = m by omega, List.replicate_succ]
  rfl
theorem OwnR.set {α : Type} {e : TypeId} {enc : α → Value} {w : World} {base g n cap : Nat} {l : List α} (h : OwnR e enc w base (.slice (some ⟨g, 0, none⟩) n cap) l) (k : Nat) (x : α) :
    OwnR e enc (w.setCell ⟨g, k, none⟩ (enc x)) base (.slice (some ⟨g, 0, none⟩) n cap) (l.set k x) := by
  obtain ⟨a, c, h0, _⟩ := h.slice
  obtain rfl : n = l.length := by injection h0
  have h1 := (World.ownsRow.stored h k (enc x)).1
  unfold OwnR
  rw [List.length_set, List.map_set]
  exact h1
theorem OwnR.made {e : TypeId} (w : World) (n : Nat) (hn : n ≤ maxLen) : OwnR e (Value.int .i64) (w.alloc (.cells (madeCells #[.int .i64 0] n) e)) w.heap.size (.slice (some ⟨w.heap.size, 0, none⟩) n n) (List.replicate n (0 : Int)) := by
  refine OwnR.mk (Nat.le_refl _) (heap_alloc_new _ _) (by simp) (Nat.le_refl _) hn (by simp [madeCells]) ?_
  refine List.ext_getElem (by simp [madeCells]) (fun i h1 h2 => ?_)
  simp [madeCells, Nat.mod_one]

/-- The statement's trie and rows: what the trie tells, what is left, its numbers. -/
structure GR (w0 w : World) (T : Nat) (v8 v9 : Value) (z : SZ) (S : List ByteArray) (L : List Int) : Prop where
  tr : ∃ O kk, TrI w T O (gE z) z.length kk ∧ kk ≤ 60 ∧ (∀ y, O y → w0.heap.size ≤ y) ∧ (∀ g, v8.ownBlock = some g → ¬ O g) ∧ (∀ g, v9.ownBlock = some g → ¬ O g)
  up : Up w0 w
  left : OwnR 9 Value.string w w0.heap.size v8 S
  ids : OwnR 2 (Value.int .i64) w w0.heap.size v9 L
  few : z.length ≤ 30
theorem GR.upw {w0 w w' : World} {T : Nat} {v8 v9 : Value} {z : SZ} {S : List ByteArray} {L : List Int} (h : GR w0 w T v8 v9 z S L) (hu : Up w w') : GR w0 w' T v8 v9 z S L := by
  obtain ⟨O, kk, h1, h2, h3, h4, h5⟩ := h.tr
  exact ⟨⟨O, kk, h1.up hu, h2, h3, h4, h5⟩, h.up.trans hu, h.left.up hu, h.ids.up hu, h.few⟩
/-- Other rows, made since. -/
theorem GR.rows {w0 w w' : World} {T : Nat} {v8 v9 v8' v9' : Value} {z : SZ} {S S' : List ByteArray} {L L' : List Int} (h : GR w0 w T v8 v9 z S L) (hu : Up w w') (h8 : OwnR 9 Value.string w' w.heap.size v8' S') (h9 : OwnR 2 (Value.int .i64) w' w.heap.size v9' L') : GR w0 w' T v8' v9' z S' L' := by
  obtain ⟨O, kk, h1, h2, h3, h4, h5⟩ := h.tr
  have hs := h.up.size
  exact ⟨⟨O, kk, h1.up hu, h2, h3, fun g hg e => by have := (h8.lt g hg).1; have := h1.lt g e; omega, fun g hg e => by have := (h9.lt g hg).1; have := h1.lt g e; omega⟩, h.up.trans hu, h8.base hs, h9.base hs, h.few⟩
theorem GR.row8 {w0 w w' : World} {T : Nat} {v8 v9 v8' : Value} {z : SZ} {S S' : List ByteArray} {L : List Int} (h : GR w0 w T v8 v9 z S L) (hu : Up w w') (h8 : OwnR 9 Value.string w' w.heap.size v8' S') : GR w0 w' T v8' v9 z S' L := by
  obtain ⟨O, kk, h1, h2, h3, h4, h5⟩ := h.tr
  have hs := h.up.size
  exact ⟨⟨O, kk, h1.up hu, h2, h3, fun g hg e => by have := (h8.lt g hg).1; have := h1.lt g e; omega, h5⟩, h.up.trans hu, h8.base hs, h.ids.up hu, h.few⟩
theorem GR.row9 {w0 w w' : World} {T : Nat} {v8 v9 v9' : Value} {z : SZ} {S : List ByteArray} {L L' : List Int} (h : GR w0 w T v8 v9 z S L) (hu : Up w w') (h9 : OwnR 2 (Value.int .i64) w' w.heap.size v9' L') : GR w0 w' T v8 v9' z S L' := by
  obtain ⟨O, kk, h1, h2, h3, h4, h5⟩ := h.tr
  have hs := h.up.size
  exact ⟨⟨O, kk, h1.up hu, h2, h3, h4, fun g hg e => by have := (h9.lt g hg).1; have := h1.lt g e; omega⟩, h.up.trans hu, h.left.up hu, h9.base hs, h.few⟩
/-- A number is written. -/
theorem GR.store {w0 w : World} {T g n c : Nat} {v8 : Value} {z : SZ} {S : List ByteArray} {L : List Int} (h : GR w0 w T v8 (.slice (some ⟨g, 0, none⟩) n c) z S L) (hne : ∀ b, v8.ownBlock = some b → b ≠ g) (k : Nat) (x : Int) : GR w0 (w.setCell ⟨g, k, none⟩ (.int .i64 x)) T v8 (.slice (some ⟨g, 0, none⟩) n c) z S (L.set k x) := by
  obtain ⟨O, kk, h1, h2, h3, h4, h5⟩ := h.tr
  have hc := chg_set w ⟨g, k, none⟩ (.int .i64 x)
  have hg := h5 g rfl
  have hge := (h.ids.lt g rfl).1
  exact ⟨⟨O, kk, h1.chg hc (fun y hy (e : y = g) => hg (by rw [← e]; exact hy)), h2, h3, h4, h5⟩, ((Chg.of_up (C := fun y => y = g) h.up).trans hc (fun y _ h => h)).up (fun x hx e => by omega), h.left.chg hc (fun b hb e => hne b hb e), h.ids.set k x, h.few⟩
/-- The trie alone, as the first strings are put in. -/
structure G1 (w0 w : World) (T i : Nat) (l : List ByteArray) : Prop where
  tr : ∃ O, TrI w T O (gE (zF l i)) (i : Int) (2 * i) ∧ (∀ y, O y → w0.heap.size ≤ y)
  up : Up w0 w
theorem g1_insert {w0 w : World} {T i : Nat} {l : List ByteArray} (h : G1 w0 w T i l) (hi : i < l.length) (h30 : l.length ≤ 30) (hs : l[i].size ≤ 60) :
    Calls Try.prog 9 #[.pointer (some ⟨T, 0, none⟩), .string l[i], .int .i64 i] w fun e w' => e = .returned (.int .i64 0) ∧ G1 w0 w' T (i + 1) l := by
  obtain ⟨O, h1, h2⟩ := h.tr
  obtain ⟨e1, e2⟩ := gE_snoc l[i] (zF_lt l i)
  refine (insert_calls T O _ i (2 * i) l[i] i w h1 (by omega) (by omega) (by omega)).mono ?_
  intro e w' ho
  unfold InsOut at ho
  rw [if_neg e1, ← e2, ← zF_s l hi] at ho
  obtain ⟨he, O', r1, r2, r3⟩ := ho
  have hs' := h.up.size
  refine ⟨he, ⟨O', by exact_mod_cast r1, fun y hy => ?_⟩, ((Chg.of_up (C := O) h.up).trans r2 (fun _ _ h => h)).up (fun x hx e => by have := h2 x e; omega)⟩
  rcases r3 y hy with h4 | h4
  · exact h2 y h4
  · omega
theorem G1.gr {w0 w : World} {T : Nat} {l : List ByteArray} (h : G1 w0 w T l.length l) (h30 : l.length ≤ 30) : GR w0 w T (.slice none 0 0) (.slice none 0 0) (zF l l.length) [] [] := by
  obtain ⟨O, h1, h2⟩ := h.tr
  refine ⟨⟨O, 2 * l.length, by rw [zF_len]; exact h1, by omega, h2, nofun, nofun⟩, h.up, OwnR.nil _ _ _ _, OwnR.nil _ _ _ _, by rw [zF_len]; exact h30⟩
/-- One is taken out. -/
theorem gr_erase {w0 w : World} {T : Nat} {v8 v9 : Value} {z : SZ} {S : List ByteArray} {L : List Int} (h : GR w0 w T v8 v9 z S L) (hr : GRise z) {k : Nat} (hk : k < z.length) :
    Calls Try.prog 14 #[.pointer (some ⟨T, 0, none⟩), .string z[k].1, .int .i64 z[k].2] w fun e w' => e = .returned (.int .i64 0) ∧ GR w0 w' T v8 v9 (z.take k ++ z.drop (k + 1)) S L := by
  obtain ⟨O, kk, h1, h2, h3, h4, h5⟩ := h.tr
  obtain ⟨e1, e2, e3, e4⟩ := gE_del hr hk
  have hf := h.few
  refine (erase_calls T O _ _ kk z[k].1 z[k].2 w h1 (by omega) (by omega)).mono ?_
  intro e w' ho
  unfold EraOut at ho
  rw [if_pos e1, ← e2] at ho
  obtain ⟨he, O', r1, r2, r3⟩ := ho
  have hs' := h.up.size
  have hl : (z.take k ++ z.drop (k + 1)).length = z.length - 1 := by simp; omega
  have hl2 : (((z.take k ++ z.drop (k + 1)).length : Nat) : Int) = (z.length : Int) - 1 := by rw [hl]; omega
  have nO : ∀ g, ¬ O g → g < w.heap.size → ¬ O' g := fun g hg hlt e => by
    rcases r3 g e with h | h
    · exact hg h
    · omega
  refine ⟨he, ⟨O', kk, by rw [hl2]; exact r1, h2, fun y hy => ?_, fun g hg => nO g (h4 g hg) (h.left.lt g hg).2, fun g hg => nO g (h5 g hg) (h.ids.lt g hg).2⟩, ((Chg.of_up (C := O) h.up).trans r2 (fun _ _ h => h)).up (fun x hx e => by have := h3 x e; omega), h.left.chg r2 h4, h.ids.chg r2 h5, by omega⟩
  rcases r3 y hy with h6 | h6
  · exact h3 y h6
  · omega
/-- One that isn't there is not. -/
theorem gr_gone {w0 w : World} {T : Nat} {v8 v9 : Value} {z : SZ} {S : List ByteArray} {L : List Int} (h : GR w0 w T v8 v9 z S L) (x : ByteArray) (i : Int) (hx : i ∉ gE z x.data.toList) :
    Calls Try.prog 14 #[.pointer (some ⟨T, 0, none⟩), .string x, .int .i64 i] w fun e w' => e = .returned (.int .i64 71) ∧ GR w0 w' T v8 v9 z S L := by
  obtain ⟨O, kk, h1, h2, h3, h4, h5⟩ := h.tr
  have hf := h.few
  refine (erase_calls T O _ _ kk x i w h1 (by omega) (by omega)).mono ?_
  intro e w' ho
  unfold EraOut at ho
  rw [if_neg hx] at ho
  exact ⟨ho.1, h.upw ho.2⟩
theorem gr_len {w0 w : World} {T : Nat} {v8 v9 : Value} {z : SZ} {S : List ByteArray} {L : List Int} (h : GR w0 w T v8 v9 z S L) : Calls Try.prog 18 #[.pointer (some ⟨T, 0, none⟩)] w fun e w' => e = .returned (.int .i64 z.length) ∧ w' = w := by
  obtain ⟨O, kk, h1, h2, h3, h4, h5⟩ := h.tr
  exact trlen_calls T O _ _ kk w h1
/-- Nothing is left: a root alone. -/
theorem gr_nodes {w0 w : World} {T : Nat} {v8 v9 : Value} {S : List ByteArray} {L : List Int} (h : GR w0 w T v8 v9 [] S L) : Calls Try.prog 19 #[.pointer (some ⟨T, 0, none⟩)] w fun e w' => ∃ nd : Nat, nd ≤ 1 ∧ e = .returned (.int .i64 nd) ∧ w' = w := by
  obtain ⟨O, kk, h1, h2, h3, h4, h5⟩ := h.tr
  refine (trnodes_calls T O _ _ kk w h1).mono ?_
  rintro e w' ⟨nd, ⟨ss, q1, q2, q3⟩, _, he, hw⟩
  refine ⟨nd, ?_, he, hw⟩
  cases ss with
  | nil => simpa using q3
  | cons s ss => exact absurd rfl (q2 s (List.mem_cons_self ..))
theorem gr_all {w0 w : World} {T : Nat} {v8 v9 : Value} {S : List ByteArray} {L : List Int} (h : GR w0 w T v8 v9 [] S L) : Calls Try.prog 10 #[.pointer (some ⟨T, 0, none⟩)] w fun e w' => ∃ a c, e = .returned (.slice a 0 c) ∧ Up w w' := by
  obtain ⟨O, kk, h1, h2, h3, h4, h5⟩ := h.tr
  refine (all_calls 12 T O _ _ kk w sort_few h1 (by omega) ((kids_of_few [] (fun s hs => absurd rfl hs)).mono (by decide))).mono ?_
  rintro e w' ⟨v, l, he, hv, _, hE, _, _, hu⟩
  have hl : l = [] := by
    cases l with
    | nil => rfl
    | cons x l =>
      have := (hE.mem (prX x).1 (prX x).2).1 (by simp)
      exact absurd this.2 (by simp [gE])
  subst hl
  obtain ⟨a, c, rfl⟩ : ∃ a c, v = .slice a 0 c := by
    rcases hv.2 with ⟨rfl, h0⟩ | ⟨g', cap, cur, rfl, _⟩
    · exact ⟨_, _, rfl⟩
    · exact ⟨_, _, rfl⟩
  exact ⟨a, c, he, hu⟩
theorem gr_find {w0 w : World} {T : Nat} {v8 v9 : Value} {S : List ByteArray} {L : List Int} (h : GR w0 w T v8 v9 [] S L) (s : ByteArray) : Calls Try.prog 13 #[.pointer (some ⟨T, 0, none⟩), .string s] w fun e w' => ∃ v, e = .returned v ∧ RdJ w' v [] ∧ Up w w' := by
  obtain ⟨O, kk, h1, h2, h3, h4, h5⟩ := h.tr
  refine (find_calls T O _ _ kk s w h1 (by omega)).mono ?_
  rintro e w' ⟨v, he, hv, hu⟩
  exact ⟨v, he, hv.rd, hu⟩
theorem OwnR.at {α : Type} {e : TypeId} {enc : α → Value} {w : World} {base n cap : Nat} {a : Option Addr} {l : List α} (h : OwnR e enc w base (.slice a n cap) l) {i : Nat} (hi : i < l.length) :
    ∃ g, a = some ⟨g, 0, none⟩ ∧ w.cell? ⟨g, i, none⟩ = some (enc l[i]) ∧ w.frozen? ⟨g, i, none⟩ = false := by
  obtain ⟨g, cp, cur, hv, _, hg, _, _, h3, h4⟩ := h.block (by intro e; rw [e] at hi; simp at hi)
  refine ⟨g, by injection hv, ?_, by simp only [World.frozen?, hg]; simp⟩
  rw [cell_of hg, ← Array.getElem?_toList, ← List.getElem?_take_of_lt hi, h4, List.getElem?_map, List.getElem?_eq_getElem hi]
  rfl
end Go.Proofs.Ytmbniakobhaomaa
