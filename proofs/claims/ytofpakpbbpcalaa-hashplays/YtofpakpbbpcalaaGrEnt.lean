/-
  A row of entries that grows: All of an index.
-/
import Derived.Test.YtofpakpbbpcalaaHaEmp
import Derived.Test.YtofpakpbbpcalaaHaKnw
namespace Go.Proofs.Ytofpakpbbpcalaa
open Go.ChangeShapes Go.WideShapes Go.ChangeAt Go.RowKit
set_option linter.unusedVariables false

/-- An entry's cells. -/
structure ET where
  a : Option Addr
  n : Nat
  c : Nat
  id : Int
def zeroET : ET := ⟨none, 0, 0, 0⟩
def eC (x : ET) : List Value := [.slice x.a x.n x.c, .int .i64 x.id]
theorem eC_one (x : ET) : ∀ u ∈ eC x, u.oneCell' = true := fun u hu => by
  simp only [eC, List.mem_cons, List.not_mem_nil, or_false] at hu
  rcases hu with rfl | rfl <;> rfl
/-- A row of entries that lies in a block of its own. -/
abbrev OwnE := OwnG (α := ET) 39 2 eC
/-- An entry, as it is told: its key, its number. -/
abbrev EN := List VT × Int
/-- The keys of entries lie in blocks of O. -/
def EntR (O : Nat → Prop) (w : World) (l : List ET) (es : List EN) : Prop :=
  l.length = es.length ∧ ∀ (i : Nat) (x : ET) (e : EN), l[i]? = some x → es[i]? = some e → x.id = e.2 ∧ x.n ≤ x.c ∧ x.c ≤ maxLen ∧ ValsO O w x.a x.n e.1
theorem EntR.chg {O C : Nat → Prop} {w w' : World} {l : List ET} {es : List EN} (h : EntR O w l es) (hc : Chg C w w') (hC : ∀ x, O x → ¬ C x) : EntR O w' l es :=
  ⟨h.1, fun i x e h1 h2 => by obtain ⟨h3, h4, h5, h6⟩ := h.2 i x e h1 h2; exact ⟨h3, h4, h5, h6.chg hc hC⟩⟩
theorem EntR.mono {O O' : Nat → Prop} {w : World} {l : List ET} {es : List EN} (h : EntR O w l es) (hO : ∀ x, O x → O' x) : EntR O' w l es :=
  ⟨h.1, fun i x e h1 h2 => by obtain ⟨h3, h4, h5, h6⟩ := h.2 i x e h1 h2; exact ⟨h3, h4, h5, h6.mono hO⟩⟩
theorem EntR.snoc {O : Nat → Prop} {w : World} {l : List ET} {es : List EN} {x : ET} {e : EN} (h : EntR O w l es) (hx : x.id = e.2 ∧ x.n ≤ x.c ∧ x.c ≤ maxLen ∧ ValsO O w x.a x.n e.1) : EntR O w (l ++ [x]) (es ++ [e]) := by
  refine ⟨by simp [h.1], fun i y d h1 h2 => ?_⟩
  by_cases hi : i < l.length
  · rw [List.getElem?_append_left hi] at h1
    rw [List.getElem?_append_left (by rw [← h.1]; exact hi)] at h2
    exact h.2 i y d h1 h2
  · rw [List.getElem?_append_right (by omega)] at h1
    rw [List.getElem?_append_right (by rw [← h.1]; omega), ← h.1] at h2
    obtain ⟨j, hj⟩ : ∃ j, j = i - l.length := ⟨_, rfl⟩
    rw [← hj] at h1 h2
    cases j with
    | zero => cases h1; cases h2; exact hx
    | succ j => simp at h1
theorem chg_grown {X w3 : World} {v : Value} (hg : X.grownBy w3 v.ownBlock) : Chg (fun x => v.ownBlock = some x) X w3 :=
  ⟨⟨hg.os, hg.tape, hg.output, hg.size, fun k hk => absurd hk (Nat.not_lt_zero k)⟩, fun b hb hn => hg.block b hb (fun e => hn e.symm)⟩
theorem cells_ent_new {w : World} {t : TypeId} (x : ET) : ∀ j u, (eC x)[j]? = some u → (w.alloc (.cells #[.slice x.a x.n x.c, .int .i64 x.id] t)).cell? ((⟨w.heap.size, 0, none⟩ : Addr).add j) = some u := by
  intro j u hj
  match j, hj with
  | 0, hj => cases hj; go_simp
  | 1, hj => cases hj; go_simp
  | j + 2, hj => simp [eC] at hj

theorem append_ents {w : World} {ops : Array Oper} {rest : List Oper} {o : Oper} {a : Act} {Q : Exit → Act → World → Prop} (hgd : o.guard = none) (s x : Operand)
    (ho : o.op = .call { callee := .builtin .append, args := #[s, x], argTypes := #[26, 26] }) (base : Nat) (v : Value) (l : List ET) (hs : a.eval s = v) (hown : OwnE w base v l)
    (ad : Addr) (n c : Nat) (new : List ET) (hx : a.eval x = .slice (some ad) n c) (hn : new.length = n) (hnews : ∀ j u, (new.flatMap eC)[j]? = some u → w.cell? (ad.add j) = some u) (hlen : l.length + new.length ≤ 10000000) (hbase : base ≤ w.heap.size)
    (h : ∀ v' w', OwnE w' base v' (l ++ new) → w.grownBy w' v.ownBlock → (v'.ownBlock = v.ownBlock ∨ v'.ownBlock = some w.heap.size) → wpList Try.prog ops Q rest (a.put o.dst v') w') : wpList Try.prog ops Q (o :: rest) a w := by
  obtain ⟨i0, hi, hz0, hz1, hz2⟩ := info_parts info_ent
  refine wpList_append_own_at w hgd s x 26 ho base 39 i0 (.agg #[.slice none 0 0, .int .i64 0]) 2 32 Try.underlying26 hi hz0 hz1 hz2 rfl (by decide) v l.length (l.flatMap eC) hs hown ad n c (new.flatMap eC) hx
    (by rw [flatG_length (k := 2) (fun _ => rfl), hn]) hnews ?_ (by unfold maxLen; omega) (by omega) hbase fun v' w' h1 h2 _ h4 => h v' w' ?_ h2 h4
  · intro u hu
    obtain ⟨y, _, hy⟩ := List.mem_flatMap.1 hu
    exact eC_one y u hy
  · unfold OwnE OwnG
    rw [List.length_append, List.flatMap_append, hn]
    exact h1

end Go.Proofs.Ytofpakpbbpcalaa
