/-
  An index and the plain row beside it, from call to call.
-/
import Derived.Test.YtofpakpbbpcalaaHpPln
import Derived.Test.YtofpakpbbpcalaaHpEnt
import Derived.Test.YtofpakpbbpcalaaHpOpn
import Derived.Test.YtofpakpbbpcalaaHaMor
namespace Go.Proofs.Ytofpakpbbpcalaa
open Go.ChangeShapes Go.WideShapes Go.ChangeAt Go.RowKit
set_option linter.unusedVariables false

/-- The index p and the row v tell the same entries. -/
structure HI (p : Nat) (w wr : World) (u : Bool) (es : List EN) (v : Value) (k : List ET) (c : Nat) (O : Nat → Prop) : Prop where
  up : Up w wr
  idx : Idx p O wr u (idsF es) (es.length : Int) c
  new : ∀ x, O x → w.heap.size ≤ x
  ent : Ent es
  own : OwnE wr w.heap.size v k
  rel : EntR (fun b => b < w.heap.size) w k es
  apart : ∀ g, v.ownBlock = some g → ¬ O g
theorem HI.upto {p : Nat} {w wr w' : World} {u : Bool} {es : List EN} {v : Value} {k : List ET} {c : Nat} {O : Nat → Prop} (h : HI p w wr u es v k c O) (hu : Up wr w') : HI p w w' u es v k c O :=
  ⟨h.up.trans hu, h.idx.up hu, h.new, h.ent, h.own.up hu, h.rel, h.apart⟩
theorem insF_nil (x : Int) : insF [] x = [x] := by simp [insF]
theorem rise_few {p : Nat} {O : Nat → Prop} {w : World} {u : Bool} {T : Tab} {len : Int} {c : Nat} (h : Idx p O w u T len c) (m : List VT) : (T m).length ≤ 1000 := by
  obtain ⟨_, K, bl, M, f, _, hG, _⟩ := h
  exact (hG.rise m).2
theorem idsF_len (es : List EN) (key : List VT) : (idsF es key).length ≤ es.length := by
  unfold idsF
  rw [List.length_map]
  exact List.length_filter_le _ _
/-- Insert of what isn't there. -/
theorem HI.insert {p : Nat} {w wr : World} {u : Bool} {es : List EN} {v : Value} {k : List ET} {c : Nat} {O : Nat → Prop} (h : HI p w wr u es v k c O) (a : Option Addr) (n cp : Nat) (key : List VT) (id : Int) (hk : GoodK key) (hv : Vals wr a n key) (hn : (key, id) ∉ es) (hu : u = false ∨ idsF es key = []) (hl : es.length ≤ 80) (hc : c ≤ 1000) :
    Calls Try.prog 11 #[.pointer (some ⟨p, 0, none⟩), .slice a n cp, .int .i64 id] wr fun e w' => e = .returned (.int .i64 0) ∧ ∃ c' O', c' ≤ c + 1 ∧ Chg O wr w' ∧ (∀ x, O' x → O x ∨ wr.heap.size ≤ x) ∧ Up w w' ∧ Idx p O' w' u (setT (idsF es) key (insF (idsF es key) id)) ((es.length + 1 : Nat) : Int) c' ∧ (∀ x, O' x → w.heap.size ≤ x) ∧ OwnE w' w.heap.size v k ∧ ∀ g, v.ownBlock = some g → ¬ O' g := by
  have fin : ∀ w' c', Chg O wr w' → Idx p (fun y => O y ∨ (wr.heap.size ≤ y ∧ y < w'.heap.size)) w' u (setT (idsF es) key (insF (idsF es key) id)) ((es.length + 1 : Nat) : Int) c' → c' ≤ c + 1 → ∃ c' O', c' ≤ c + 1 ∧ Chg O wr w' ∧ (∀ x, O' x → O x ∨ wr.heap.size ≤ x) ∧ Up w w' ∧ Idx p O' w' u (setT (idsF es) key (insF (idsF es key) id)) ((es.length + 1 : Nat) : Int) c' ∧ (∀ x, O' x → w.heap.size ≤ x) ∧ OwnE w' w.heap.size v k ∧ ∀ g, v.ownBlock = some g → ¬ O' g := fun w' c' h1 h2 h3 =>
    ⟨c', _, h3, h1, fun x hx => hx.imp (fun q => q) (fun q => q.1), h.up.thenChg2 h1 (fun x hx e => by have := h.new x e; omega), h2, fun x hx => hx.elim (h.new x) (fun q => Nat.le_trans h.up.size q.1), OwnG.chg h.own h1 (fun g hg => h.apart g hg), fun g hg e => e.elim (h.apart g hg) (fun q => by have := (h.own.lt g hg).2; omega)⟩
  by_cases hT : idsF es key = []
  · refine (insert_new p O u (idsF es) es.length c a n cp key id wr h.idx hk hv hT (by omega) (by omega)).mono ?_
    rintro e w' ⟨rfl, h1, h2⟩
    refine ⟨rfl, fin w' (c + 1) h1 ?_ (Nat.le_refl _)⟩
    rw [hT, insF_nil]
    exact h2
  · have hu0 : u = false := hu.resolve_right hT
    subst hu0
    refine (insert_more p O (idsF es) es.length c a n cp key id wr h.idx hk hv hT (fun q => hn (mem_idsF.1 q)) (by omega) (by omega) (by have := idsF_len es key; omega)).mono ?_
    rintro e w' ⟨rfl, h1, h2⟩
    exact ⟨rfl, fin w' c h1 h2 (by omega)⟩
/-- Erase of what is there. -/
theorem HI.erase {p : Nat} {w wr : World} {u : Bool} {es : List EN} {v : Value} {k : List ET} {c : Nat} {O : Nat → Prop} {len : Nat} (h : HI p w wr u es v k c O) (a : Option Addr) (n cp : Nat) (key : List VT) (id : Int) (hk : GoodK key) (hv : Vals wr a n key) (hn : (key, id) ∈ es) (hlen : es.length = len + 1) (hl : es.length ≤ 80) (hc : c ≤ 1000) :
    Calls Try.prog 14 #[.pointer (some ⟨p, 0, none⟩), .slice a n cp, .int .i64 id] wr fun e w' => e = .returned (.int .i64 0) ∧ ∃ c' O', c' ≤ c ∧ Chg O wr w' ∧ (∀ x, O' x → O x ∨ wr.heap.size ≤ x) ∧ Up w w' ∧ Idx p O' w' u (setT (idsF es) key (eraF (idsF es key) id)) (len : Int) c' ∧ (∀ x, O' x → w.heap.size ≤ x) ∧ OwnE w' w.heap.size v k ∧ ∀ g, v.ownBlock = some g → ¬ O' g := by
  have fin : ∀ w' c', Chg O wr w' → Idx p (fun y => O y ∨ (wr.heap.size ≤ y ∧ y < w'.heap.size)) w' u (setT (idsF es) key (eraF (idsF es key) id)) (len : Int) c' → c' ≤ c → ∃ c' O', c' ≤ c ∧ Chg O wr w' ∧ (∀ x, O' x → O x ∨ wr.heap.size ≤ x) ∧ Up w w' ∧ Idx p O' w' u (setT (idsF es) key (eraF (idsF es key) id)) (len : Int) c' ∧ (∀ x, O' x → w.heap.size ≤ x) ∧ OwnE w' w.heap.size v k ∧ ∀ g, v.ownBlock = some g → ¬ O' g := fun w' c' h1 h2 h3 =>
    ⟨c', _, h3, h1, fun x hx => hx.imp (fun q => q) (fun q => q.1), h.up.thenChg2 h1 (fun x hx e => by have := h.new x e; omega), h2, fun x hx => hx.elim (h.new x) (fun q => Nat.le_trans h.up.size q.1), OwnG.chg h.own h1 (fun g hg => h.apart g hg), fun g hg e => e.elim (h.apart g hg) (fun q => by have := (h.own.lt g hg).2; omega)⟩
  have hmem := mem_idsF.2 hn
  have hidx := h.idx
  rw [hlen] at hidx
  by_cases h2 : 2 ≤ (idsF es key).length
  · refine (erase_more p O u (idsF es) len c a n cp key id wr hidx hk hv hmem h2 (by omega) (by omega)).mono ?_
    rintro e w' ⟨rfl, h1, h2⟩
    exact ⟨rfl, fin w' c h1 h2 (Nat.le_refl _)⟩
  · have hone : idsF es key = [id] := by
      match hq : idsF es key with
      | [] => rw [hq] at hmem; cases hmem
      | [x] => rw [hq] at hmem; simp at hmem; rw [hmem]
      | x :: y :: r => rw [hq] at h2; simp at h2
    refine (erase_last p O u (idsF es) len c a n cp key id wr hidx hk hv hone (by omega)).mono ?_
    rintro e w' ⟨rfl, h1, h2, _⟩
    refine ⟨rfl, fin w' (c - 1) h1 ?_ (by omega)⟩
    have : eraF (idsF es key) id = [] := by rw [hone]; simp [eraF]
    rw [this]
    exact h2

end Go.Proofs.Ytofpakpbbpcalaa
