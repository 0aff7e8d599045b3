/-
  A trie as it lies in memory. No function of the program.
-/
import Derived.Test.YtmbniakobhaomaaTeMap
import Derived.Test.YtmbniakobhaomaaTeOpd
import Derived.Test.YtmbniakobhaomaaHaIns
import Derived.Test.YtmbniakobhaomaaHaDel
namespace Go.Proofs.Ytmbniakobhaomaa
open Go.RowKit Go.Maps Go.ChangeMaps
set_option linter.unusedVariables false
set_option maxRecDepth 100000

abbrev tNode : TypeId := 62
abbrev tTrie : TypeId := 56
/-- Of what kind a block is. -/
def kd (w : World) (b : Nat) : Nat := match w.heap[b]? with
  | some (.cells _ t _) => if t = tNode then 1 else if t = 2 then 2 else if t = tTrie then 4 else 5
  | some (.map _ _) => 3
  | _ => 0
/-- A node in memory. -/
structure NAt (w : World) (p : Nat) (n : ND) : Prop where
  blk : w.heap[p]? = some (.cells #[.string n.lab, n.v, .map (some n.mp)] tNode (0, 0))
  ids : OwnJ w 0 n.v n.ids
  map : MapB w n.mp n.kid n.ks.length
theorem lt_of_heap {w : World} {p : Nat} {o : Obj} (h : w.heap[p]? = some o) : p < w.heap.size := by
  rcases Nat.lt_or_ge p w.heap.size with h' | h'
  · exact h'
  · rw [Array.getElem?_eq_none h'] at h; cases h
theorem NAt.lt {w : World} {p : Nat} {n : ND} (h : NAt w p n) : p < w.heap.size := lt_of_heap h.blk
theorem NAt.kd1 {w : World} {p : Nat} {n : ND} (h : NAt w p n) : kd w p = 1 := by unfold kd; rw [h.blk]; rfl
theorem own_kd {w : World} {base : Nat} {v : Value} {l : List Int} (h : OwnJ w base v l) {b : Nat} (hb : v.ownBlock = some b) : kd w b = 2 := by
  rcases h.2 with ⟨rfl, _⟩ | ⟨g, cap, cur, rfl, _, hg, _⟩
  · cases hb
  · cases hb
    unfold kd
    rw [hg]
    rfl
theorem map_kd {w : World} {M c : Nat} {f : UInt8 → Option Nat} (h : MapB w M f c) : kd w M = 3 := by
  obtain ⟨es, clock, h⟩ := h.block
  unfold kd; rw [h]
theorem NAt.kd2 {w : World} {p : Nat} {n : ND} (h : NAt w p n) {b : Nat} (hb : n.v.ownBlock = some b) : kd w b = 2 := own_kd h.ids hb
theorem NAt.kd3 {w : World} {p : Nat} {n : ND} (h : NAt w p n) : kd w n.mp = 3 := map_kd h.map
theorem kd_ne {w : World} {a b : Nat} {i j : Nat} (ha : kd w a = i) (hb : kd w b = j) (h : i ≠ j) : a ≠ b := fun e => h (by rw [← ha, ← hb, e])
theorem OwnG.chgT {α : Type} {e : TypeId} {k : Nat} {cs : α → List Value} {C : Nat → Prop} {w w' : World} {base : Nat} {v : Value} {l : List α} (h : OwnG e k cs w base v l) (hc : Chg C w w') (hC : ∀ g, v.ownBlock = some g → ¬ C g) : OwnG e k cs w' base v l := by
  refine ⟨h.1, ?_⟩
  rcases h.2 with h0 | ⟨g, cap, cur, hv, hb, hg, hr⟩
  · exact .inl h0
  · have hlt : g < w.heap.size := by
      rcases Nat.lt_or_ge g w.heap.size with h' | h'
      · exact h'
      · rw [Array.getElem?_eq_none h'] at hg; cases hg
    exact .inr ⟨g, cap, cur, hv, hb, (hc.2 g hlt (hC g (by rw [hv]; rfl))).trans hg, hr⟩
theorem NAt.chg {C : Nat → Prop} {w w' : World} {p : Nat} {n : ND} (h : NAt w p n) (hc : Chg C w w') (h1 : ¬ C p) (h2 : ∀ b, n.v.ownBlock = some b → ¬ C b) (h3 : ¬ C n.mp) : NAt w' p n :=
  ⟨(hc.2 p h.lt h1).trans h.blk, OwnG.chgT h.ids hc h2, h.map.chg hc h3⟩
theorem NAt.up {w w' : World} {p : Nat} {n : ND} (h : NAt w p n) (hu : Up w w') : NAt w' p n := h.chg (Chg.of_up (C := fun _ => False) hu) (fun h => h) (fun _ _ h => h) (fun h => h)
theorem NAt.c0 {w : World} {p : Nat} {n : ND} (h : NAt w p n) : w.cell? ⟨p, 0, none⟩ = some (.string n.lab) := by simp [World.cell?, h.blk]
theorem NAt.c1 {w : World} {p : Nat} {n : ND} (h : NAt w p n) : w.cell? ⟨p, 1, none⟩ = some n.v := by simp [World.cell?, h.blk]
theorem NAt.c2 {w : World} {p : Nat} {n : ND} (h : NAt w p n) : w.cell? ⟨p, 2, none⟩ = some (.map (some n.mp)) := by simp [World.cell?, h.blk]
theorem NAt.fz {w : World} {p : Nat} {n : ND} (h : NAt w p n) (o : Nat) : w.frozen? ⟨p, o, none⟩ = false := by simp [World.frozen?, h.blk]

/-- The trie's own block. -/
def TopAt (w : World) (T : Nat) (r : Value) (a l : Int) : Prop := w.heap[T]? = some (.cells #[r, .int .i64 a, .int .i64 l] tTrie (0, 0))
theorem TopAt.lt {w : World} {T : Nat} {r : Value} {a l : Int} (h : TopAt w T r a l) : T < w.heap.size := lt_of_heap h
theorem TopAt.kd4 {w : World} {T : Nat} {r : Value} {a l : Int} (h : TopAt w T r a l) : kd w T = 4 := by unfold kd; rw [h]; rfl
theorem TopAt.c0 {w : World} {T : Nat} {r : Value} {a l : Int} (h : TopAt w T r a l) : w.cell? ⟨T, 0, none⟩ = some r := by unfold TopAt at h; simp [World.cell?, h]
theorem TopAt.c1 {w : World} {T : Nat} {r : Value} {a l : Int} (h : TopAt w T r a l) : w.cell? ⟨T, 1, none⟩ = some (.int .i64 a) := by unfold TopAt at h; simp [World.cell?, h]
theorem TopAt.c2 {w : World} {T : Nat} {r : Value} {a l : Int} (h : TopAt w T r a l) : w.cell? ⟨T, 2, none⟩ = some (.int .i64 l) := by unfold TopAt at h; simp [World.cell?, h]
theorem TopAt.fz {w : World} {T : Nat} {r : Value} {a l : Int} (h : TopAt w T r a l) (o : Nat) : w.frozen? ⟨T, o, none⟩ = false := by unfold TopAt at h; simp [World.frozen?, h]
theorem TopAt.chg {C : Nat → Prop} {w w' : World} {T : Nat} {r : Value} {a l : Int} (h : TopAt w T r a l) (hc : Chg C w w') (h1 : ¬ C T) : TopAt w' T r a l := (hc.2 T h.lt h1).trans h
theorem TopAt.up {w w' : World} {T : Nat} {r : Value} {a l : Int} (h : TopAt w T r a l) (hu : Up w w') : TopAt w' T r a l := h.chg (Chg.of_up (C := fun _ => False) hu) (fun h => h)
theorem TopAt.set0 {w : World} {T : Nat} {r : Value} {a l : Int} (h : TopAt w T r a l) (r' : Value) : TopAt (w.setCell ⟨T, 0, none⟩ r') T r' a l := heap_setCell_same w T 0 _ _ _ h
theorem TopAt.set1 {w : World} {T : Nat} {r : Value} {a l : Int} (h : TopAt w T r a l) (a' : Int) : TopAt (w.setCell ⟨T, 1, none⟩ (.int .i64 a')) T r a' l := heap_setCell_same w T 1 _ _ _ h
theorem TopAt.set2 {w : World} {T : Nat} {r : Value} {a l : Int} (h : TopAt w T r a l) (l' : Int) : TopAt (w.setCell ⟨T, 2, none⟩ (.int .i64 l')) T r a l' := heap_setCell_same w T 2 _ _ _ h
theorem chg_set (w : World) (p : Addr) (v : Value) : Chg (fun y => y = p.block) w (w.setCell p v) := Chg.set (C := fun y => y = p.block) (Chg.refl _ w) (fun _ => rfl) v

/-- The nodes of a trie in memory. -/
structure GMem (w : World) (g : Gr) : Prop where
  node : ∀ p n, g p = some n → NAt w p n
  mpi : ∀ p q n m, g p = some n → g q = some m → n.mp = m.mp → p = q
  vi : ∀ p q n m b, g p = some n → g q = some m → n.v.ownBlock = some b → m.v.ownBlock = some b → p = q
/-- Blocks of no node. -/
structure Apart (g : Gr) (C : Nat → Prop) : Prop where
  p : ∀ q m, g q = some m → ¬ C q
  v : ∀ q m b, g q = some m → m.v.ownBlock = some b → ¬ C b
  m : ∀ q m, g q = some m → ¬ C m.mp
theorem GMem.chg {C : Nat → Prop} {w w' : World} {g : Gr} (h : GMem w g) (hc : Chg C w w') (ha : Apart g C) : GMem w' g :=
  ⟨fun p n hp => (h.node p n hp).chg hc (ha.p p n hp) (fun b hb => ha.v p n b hp hb) (ha.m p n hp), h.mpi, h.vi⟩
theorem GMem.up {w w' : World} {g : Gr} (h : GMem w g) (hu : Up w w') : GMem w' g := h.chg (Chg.of_up (C := fun _ => False) hu) ⟨fun _ _ _ h => h, fun _ _ _ _ _ h => h, fun _ _ _ h => h⟩
/-- The trie's own block is none of a node's. -/
theorem GMem.top {w : World} {g : Gr} (h : GMem w g) {T : Nat} {r : Value} {a l : Int} (ht : TopAt w T r a l) : Apart g (fun y => y = T) :=
  ⟨fun q m hq => kd_ne (h.node q m hq).kd1 ht.kd4 (by decide), fun q m b hq hb => kd_ne ((h.node q m hq).kd2 hb) ht.kd4 (by decide), fun q m hq => kd_ne (h.node q m hq).kd3 ht.kd4 (by decide)⟩
/-- One node has turned. -/
theorem GMem.set {C : Nat → Prop} {w w' : World} {g : Gr} (h : GMem w g) {p : Nat} {n n' : ND} (hc : Chg C w w') (hp : g p = some n) (hC : ∀ y, y < w.heap.size → C y → y = p ∨ n.v.ownBlock = some y ∨ y = n.mp) (hn : NAt w' p n')
    (hm : ∀ q m, g q = some m → q ≠ p → n'.mp ≠ m.mp) (hv : ∀ q m b, g q = some m → q ≠ p → n'.v.ownBlock = some b → m.v.ownBlock ≠ some b) : GMem w' (updG g p (some n')) := by
  have N := h.node p n hp
  have hin : ∀ q m, g q = some m → q ≠ p → NAt w' q m := fun q m hq hne => by
    have M := h.node q m hq
    refine M.chg hc (fun e => ?_) (fun b hb e => ?_) (fun e => ?_)
    · rcases hC q M.lt e with e | e | e
      · exact hne e
      · exact kd_ne M.kd1 (N.kd2 e) (by decide) rfl
      · exact kd_ne M.kd1 N.kd3 (by decide) e
    · rcases hC b (M.ids.lt b hb).2 e with e | e | e
      · exact kd_ne (M.kd2 hb) N.kd1 (by decide) e
      · exact hne (h.vi q p m n b hq hp hb e)
      · exact kd_ne (M.kd2 hb) N.kd3 (by decide) e
    · rcases hC m.mp M.map.lt e with e | e | e
      · exact kd_ne M.kd3 N.kd1 (by decide) e
      · exact kd_ne M.kd3 (N.kd2 e) (by decide) rfl
      · exact hne (h.mpi q p m n hq hp e)
  refine ⟨fun q m hq => ?_, fun x y r s hx hy e => ?_, fun x y r s b hx hy e1 e2 => ?_⟩
  · by_cases e : q = p
    · rw [e, updG_same] at hq; cases hq; rw [e]; exact hn
    · rw [updG_other _ _ e] at hq; exact hin q m hq e
  · by_cases ex : x = p
    · by_cases ey : y = p
      · rw [ex, ey]
      · rw [ex, updG_same] at hx; cases hx; rw [updG_other _ _ ey] at hy; exact absurd e (hm y s hy ey)
    · rw [updG_other _ _ ex] at hx
      by_cases ey : y = p
      · rw [ey, updG_same] at hy; cases hy; exact absurd e.symm (hm x r hx ex)
      · rw [updG_other _ _ ey] at hy; exact h.mpi x y r s hx hy e
  · by_cases ex : x = p
    · by_cases ey : y = p
      · rw [ex, ey]
      · rw [ex, updG_same] at hx; cases hx; rw [updG_other _ _ ey] at hy; exact absurd e2 (hv y s b hy ey e1)
    · rw [updG_other _ _ ex] at hx
      by_cases ey : y = p
      · rw [ey, updG_same] at hy; cases hy; exact absurd e1 (hv x r b hx ex e2)
      · rw [updG_other _ _ ey] at hy; exact h.vi x y r s b hx hy e1 e2
/-- The same map, and the same row or a new one. -/
theorem GMem.set1 {C : Nat → Prop} {w w' : World} {g : Gr} (h : GMem w g) {p : Nat} {n n' : ND} (hc : Chg C w w') (hp : g p = some n) (hC : ∀ y, y < w.heap.size → C y → y = p ∨ n.v.ownBlock = some y ∨ y = n.mp) (hn : NAt w' p n')
    (hm : n'.mp = n.mp) (hv : ∀ b, n'.v.ownBlock = some b → n.v.ownBlock = some b ∨ w.heap.size ≤ b) : GMem w' (updG g p (some n')) :=
  h.set hc hp hC hn (fun q m hq hne e => hne (h.mpi q p m n hq hp (by rw [← e, hm]))) (fun q m b hq hne h1 h2 => by
    rcases hv b h1 with h3 | h3
    · exact hne (h.vi q p m n b hq hp h2 h3)
    · have := ((h.node q m hq).ids.lt b h2).2
      omega)
/-- A node has come. -/
theorem GMem.new {w w' : World} {g : Gr} (h0 : GMem w g) (h : GMem w' g) {q : Nat} {n : ND} (hq : w.heap.size ≤ q) (hn : NAt w' q n) (hm : w.heap.size ≤ n.mp) (hv : n.v = .slice none 0 0) : GMem w' (updG g q (some n)) := by
  refine ⟨fun x m hx => ?_, fun x y r s hx hy e => ?_, fun x y r s b hx hy e1 e2 => ?_⟩
  · by_cases e : x = q
    · rw [e, updG_same] at hx; cases hx; rw [e]; exact hn
    · rw [updG_other _ _ e] at hx; exact h.node x m hx
  · by_cases ex : x = q
    · by_cases ey : y = q
      · rw [ex, ey]
      · rw [ex, updG_same] at hx; cases hx; rw [updG_other _ _ ey] at hy
        have := (h0.node y s hy).map.lt
        omega
    · rw [updG_other _ _ ex] at hx
      by_cases ey : y = q
      · rw [ey, updG_same] at hy; cases hy
        have := (h0.node x r hx).map.lt
        omega
      · rw [updG_other _ _ ey] at hy; exact h.mpi x y r s hx hy e
  · by_cases ex : x = q
    · rw [ex, updG_same] at hx; cases hx; rw [hv] at e1; cases e1
    · rw [updG_other _ _ ex] at hx
      by_cases ey : y = q
      · rw [ey, updG_same] at hy; cases hy; rw [hv] at e2; cases e2
      · rw [updG_other _ _ ey] at hy; exact h.vi x y r s b hx hy e1 e2
theorem GMem.del {w : World} {g : Gr} (h : GMem w g) (c : Nat) : GMem w (updG g c none) := by
  have old : ∀ x m, updG g c none x = some m → g x = some m := fun x m hx => by
    unfold updG at hx
    split at hx
    · cases hx
    · exact hx
  exact ⟨fun x m hx => h.node x m (old x m hx), fun x y r s hx hy e => h.mpi x y r s (old x r hx) (old y s hy) e, fun x y r s b hx hy e1 e2 => h.vi x y r s b (old x r hx) (old y s hy) e1 e2⟩

/-- The trie's blocks. -/
def OB (g : Gr) (T y : Nat) : Prop := y = T ∨ ∃ p n, g p = some n ∧ (y = p ∨ n.v.ownBlock = some y ∨ y = n.mp)
theorem OB.lt {w : World} {g : Gr} {T y : Nat} {r : Value} {a l : Int} (h : GMem w g) (ht : TopAt w T r a l) (hy : OB g T y) : y < w.heap.size := by
  rcases hy with rfl | ⟨p, n, hp, rfl | hv | rfl⟩
  · exact ht.lt
  · exact (h.node _ n hp).lt
  · exact ((h.node p n hp).ids.lt y hv).2
  · exact (h.node p n hp).map.lt
/-- A step of the trie. -/
structure TStep (T : Nat) (g g' : Gr) (w w' : World) : Prop where
  chg : Chg (OB g T) w w'
  new : ∀ y, OB g' T y → OB g T y ∨ w.heap.size ≤ y
theorem TStep.refl (T : Nat) (g : Gr) (w : World) : TStep T g g w w := ⟨Chg.refl _ w, fun y h => .inl h⟩
theorem TStep.up {T : Nat} {g : Gr} {w w' : World} (h : Up w w') : TStep T g g w w' := ⟨Chg.of_up h, fun y h => .inl h⟩
theorem TStep.trans {T : Nat} {g g1 g2 : Gr} {w w1 w2 : World} (h : TStep T g g1 w w1) (k : TStep T g1 g2 w1 w2) : TStep T g g2 w w2 :=
  ⟨h.chg.trans k.chg (fun y hy ho => (h.new y ho).resolve_right (by omega)), fun y hy => by
    rcases k.new y hy with h1 | h1
    · exact h.new y h1
    · exact .inr (Nat.le_trans h.chg.size h1)⟩
/-- The trie's own block has turned. -/
theorem TStep.top {T : Nat} {g : Gr} {w w' : World} (h : Chg (fun y => y = T) w w') : TStep T g g w w' := ⟨h.mono (fun y _ e => .inl e), fun y h => .inl h⟩
/-- One node has turned. -/
theorem TStep.set {C : Nat → Prop} {T p : Nat} {g : Gr} {n n' : ND} {w w' : World} (hp : g p = some n) (hc : Chg C w w') (hC : ∀ y, y < w.heap.size → C y → y = p ∨ n.v.ownBlock = some y ∨ y = n.mp) (hm : n'.mp = n.mp) (hv : ∀ b, n'.v.ownBlock = some b → n.v.ownBlock = some b ∨ w.heap.size ≤ b) : TStep T g (updG g p (some n')) w w' := by
  refine ⟨hc.mono (fun y hy h => .inr ⟨p, n, hp, hC y hy h⟩), fun y hy => ?_⟩
  rcases hy with rfl | ⟨x, m, hx, h⟩
  · exact .inl (.inl rfl)
  · by_cases e : x = p
    · rw [e, updG_same] at hx
      cases hx
      rcases h with rfl | h | rfl
      · exact .inl (.inr ⟨p, n, hp, .inl e⟩)
      · exact (hv y h).imp (fun h => .inr ⟨p, n, hp, .inr (.inl h)⟩) id
      · exact .inl (.inr ⟨p, n, hp, .inr (.inr hm)⟩)
    · rw [updG_other _ _ e] at hx
      exact .inl (.inr ⟨x, m, hx, h⟩)
theorem TStep.new1 {T q : Nat} {g : Gr} {n : ND} {w w' : World} (hc : Chg (fun y => y = T) w w') (hq : w.heap.size ≤ q) (hm : w.heap.size ≤ n.mp) (hv : n.v = .slice none 0 0) : TStep T g (updG g q (some n)) w w' := by
  refine ⟨hc.mono (fun y _ e => .inl e), fun y hy => ?_⟩
  rcases hy with rfl | ⟨x, m, hx, h⟩
  · exact .inl (.inl rfl)
  · by_cases e : x = q
    · rw [e, updG_same] at hx
      cases hx
      rcases h with rfl | h | rfl
      · right; omega
      · rw [hv] at h; cases h
      · exact .inr hm
    · rw [updG_other _ _ e] at hx
      exact .inl (.inr ⟨x, m, hx, h⟩)

end Go.Proofs.Ytmbniakobhaomaa
