/-
  The index of HashChains, step by step: a number comes, is there already, goes.
-/
import Derived.Test.YtofpakpbbpcalaaHaMor
import Derived.Test.YtofpakpbbpcalaaHaChm
namespace Go.Proofs.Ytofpakpbbpcalaa
open Go.ChangeShapes Go.WideShapes Go.ChangeAt Go.RowKit
set_option linter.unusedVariables false
set_option maxRecDepth 100000

structure ChI (p A : Nat) (w wr : World) (n c : Nat) (T : Tab) (O : Nat → Prop) : Prop where
  up : Up w wr
  idx : Idx p O wr false T ((sumT T n : Nat) : Int) c
  new : ∀ x, O x → w.heap.size ≤ x
  notA : ¬ O A
  ltA : A < wr.heap.size
  short : ∀ m, (T m).length ≤ 256
theorem ChI.upto {p A : Nat} {w wr w' : World} {n c : Nat} {T : Tab} {O : Nat → Prop} (h : ChI p A w wr n c T O) (hu : Up wr w') : ChI p A w w' n c T O :=
  ⟨h.up.trans hu, h.idx.up hu, h.new, h.notA, Nat.lt_of_lt_of_le h.ltA hu.size, h.short⟩
theorem ChI.next {p A : Nat} {w wr w' : World} {n c c' : Nat} {T T' : Tab} {O : Nat → Prop} (h : ChI p A w wr n c T O) (hc : Chg O wr w') (hi : Idx p (fun y => O y ∨ (wr.heap.size ≤ y ∧ y < w'.heap.size)) w' false T' ((sumT T' n : Nat) : Int) c') (hs : ∀ m, (T' m).length ≤ 256) :
    ChI p A w w' n c' T' (fun y => O y ∨ (wr.heap.size ≤ y ∧ y < w'.heap.size)) :=
  ⟨h.up.thenChg hc (fun x hx e => by have := h.new x e; omega), hi, fun x hx => hx.elim (h.new x) (fun q => Nat.le_trans h.up.size q.1), fun hx => hx.elim h.notA (fun q => by have := h.ltA; omega), Nat.lt_of_lt_of_le h.ltA hc.size, hs⟩
theorem short_set {T : Tab} {m : List VT} {l : List Int} (h : ∀ m, (T m).length ≤ 256) (hl : l.length ≤ 256) (x : List VT) : (setT T m l x).length ≤ 256 := by
  by_cases e : x = m
  · rw [e, setT_same]; exact hl
  · rw [setT_other _ _ e]; exact h x

/-- A number comes. -/
theorem chI_ins {p A : Nat} {w wr : World} {n c : Nat} {T : Tab} {O : Nat → Prop} (h : ChI p A w wr n c T O) (hn : n ≤ 5) {k : Nat} (hk : k < n) (a : Option Addr) (cp : Nat) (x : Int) (hv : Vals wr a 1 (kI k)) (hx : x ∉ T (kI k)) (hlen : (insF (T (kI k)) x).length = (T (kI k)).length + 1) (hl2 : (insF (T (kI k)) x).length ≤ 256) (hc : c ≤ 1000) :
    Calls Try.prog 11 #[.pointer (some ⟨p, 0, none⟩), .slice a 1 cp, .int .i64 x] wr fun e w' => e = .returned (.int .i64 0) ∧ Chg O wr w' ∧ ∃ c' O', c' ≤ c + 1 ∧ ChI p A w w' n c' (setT T (kI k) (insF (T (kI k)) x)) O' := by
  have hsum := (sumT_set T k (insF (T (kI k)) x) n).1 hk
  have hle := sumT_le (B := 256) h.short n
  have hbig : sumT T n ≤ 100000 := by
    have : n * 256 ≤ 5 * 256 := Nat.mul_le_mul_right _ hn
    omega
  have hs : sumT (setT T (kI k) (insF (T (kI k)) x)) n = sumT T n + 1 := by omega
  have hgk : GoodK (kI k) := good_kI (by omega)
  by_cases h0 : T (kI k) = []
  · refine (insert_new p O false T (sumT T n) c a 1 cp (kI k) x wr h.idx hgk hv h0 hbig (by omega)).mono ?_
    rintro e w' ⟨rfl, hch, hi⟩
    have e1 : insF (T (kI k)) x = [x] := by rw [h0]; rfl
    refine ⟨rfl, hch, c + 1, _, Nat.le_refl _, h.next hch ?_ (short_set h.short hl2)⟩
    rw [hs, e1]
    exact hi
  · refine (insert_more p O T (sumT T n) c a 1 cp (kI k) x wr h.idx hgk hv h0 hx hbig (by omega) (by have := h.short (kI k); omega)).mono ?_
    rintro e w' ⟨rfl, hch, hi⟩
    refine ⟨rfl, hch, c, _, by omega, h.next hch ?_ (short_set h.short hl2)⟩
    rw [hs]
    exact hi
/-- A number is there. -/
theorem chI_there {p A : Nat} {w wr : World} {n c : Nat} {T : Tab} {O : Nat → Prop} (h : ChI p A w wr n c T O) (hn : n ≤ 5) {k : Nat} (hk : k < n) (a : Option Addr) (cp : Nat) (x : Int) (hv : Vals wr a 1 (kI k)) (hx : x ∈ T (kI k)) :
    Calls Try.prog 11 #[.pointer (some ⟨p, 0, none⟩), .slice a 1 cp, .int .i64 x] wr fun e w' => e = .returned (.int .i64 72) ∧ Up wr w' := by
  refine (insert_not p O false T _ c a 1 cp (kI k) x wr h.idx (good_kI (by omega)) hv (.inl hx)).mono ?_
  rintro e w' ⟨rfl, hu⟩
  exact ⟨by rw [if_pos hx], hu⟩
/-- The first of a chain goes. -/
theorem chI_era {p A : Nat} {w wr : World} {n c : Nat} {T : Tab} {O : Nat → Prop} (h : ChI p A w wr n c T O) (hn : n ≤ 5) {k : Nat} (hk : k < n) (a : Option Addr) (cp : Nat) (x : Int) (rest : List Int) (hv : Vals wr a 1 (kI k)) (hx : T (kI k) = x :: rest) (hr : Rise (x :: rest)) (hc : c ≤ 1000) :
    Calls Try.prog 14 #[.pointer (some ⟨p, 0, none⟩), .slice a 1 cp, .int .i64 x] wr fun e w' => e = .returned (.int .i64 0) ∧ Chg O wr w' ∧ ∃ c' , c' ≤ c ∧ ChI p A w w' n c' (setT T (kI k) rest) (fun y => O y ∨ (wr.heap.size ≤ y ∧ y < w'.heap.size)) := by
  have hsum := (sumT_set T k rest n).1 hk
  rw [hx] at hsum
  have hle := sumT_le (B := 256) h.short n
  have hbig : sumT T n ≤ 100000 := by
    have : n * 256 ≤ 5 * 256 := Nat.mul_le_mul_right _ hn
    omega
  have hs : sumT T n = sumT (setT T (kI k) rest) n + 1 := by simp at hsum; omega
  have hgk : GoodK (kI k) := good_kI (by omega)
  have hl2 : rest.length ≤ 256 := by have := h.short (kI k); rw [hx] at this; simp at this; omega
  have hidx := h.idx
  rw [hs] at hidx
  cases hrest : rest with
  | nil =>
    rw [hrest] at hx hidx
    refine (erase_last p O false T (sumT (setT T (kI k) []) n) c a 1 cp (kI k) x wr hidx hgk hv hx (by rw [← hrest]; omega)).mono ?_
    rintro e w' ⟨rfl, hch, hi, _⟩
    exact ⟨rfl, hch, c - 1, by omega, h.next hch hi (short_set h.short (by simp))⟩
  | cons y r =>
    rw [← hrest]
    have he : eraF (T (kI k)) x = rest := by rw [hx]; exact eraF_head hr
    refine (erase_more p O false T (sumT (setT T (kI k) rest) n) c a 1 cp (kI k) x wr hidx hgk hv (by rw [hx]; simp) (by rw [hx, hrest]; simp) (by omega) (by omega)).mono ?_
    rintro e w' ⟨rfl, hch, hi⟩
    rw [he] at hi
    exact ⟨rfl, hch, c, Nat.le_refl _, h.next hch hi (short_set h.short hl2)⟩

end Go.Proofs.Ytofpakpbbpcalaa
