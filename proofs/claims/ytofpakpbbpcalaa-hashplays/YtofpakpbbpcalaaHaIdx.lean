/-
  A hash index as it lies in memory (Idx): its cells, its map, its keys, its rows of numbers; what stays when other memory turns. No function of the program is walked here.
-/
import Derived.Test.YtofpakpbbpcalaaHaMap
import Derived.Test.YtofpakpbbpcalaaHaSpell
import Derived.Test.YtofpakpbbpcalaaHaIds
import Derived.Test.YtofpakpbbpcalaaHaClone
namespace Go.Proofs.Ytofpakpbbpcalaa
open Go.ChangeShapes Go.WideShapes Go.ChangeAt Go.RowKit
set_option linter.unusedVariables false
set_option maxRecDepth 100000

theorem At.chg {C : Nat → Prop} {w w' : World} {b off : Nat} {v : VT} (h : At w b off v) (hc : Chg C w w') (hb : ¬ C b) : At w' b off v :=
  ⟨hc.cell h.1 hb, hc.cell h.2.1 hb, hc.cell h.2.2.1 hb, hc.cell h.2.2.2 hb⟩
/-- A row of values whose block is one of O. -/
def ValsO (O : Nat → Prop) (w : World) (a : Option Addr) (n : Nat) (m : List VT) : Prop := Vals w a n m ∧ (n = 0 ∨ ∃ g o, a = some ⟨g, o, none⟩ ∧ O g)
theorem ValsO.chg {O C : Nat → Prop} {w w' : World} {a : Option Addr} {n : Nat} {m : List VT} (h : ValsO O w a n m) (hc : Chg C w w') (hC : ∀ x, O x → ¬ C x) : ValsO O w' a n m := by
  obtain ⟨⟨h1, h2, h3⟩, h4⟩ := h
  refine ⟨⟨h1, h2, ?_⟩, h4⟩
  rcases h3 with h3 | ⟨b, off, rfl, hx⟩
  · exact .inl h3
  · rcases h4 with h4 | ⟨g, o, e, hg⟩
    · exact .inl h4
    · cases e
      exact .inr ⟨b, off, rfl, fun i hi => (hx i hi).chg hc (hC b hg)⟩
theorem ValsO.mono {O O' : Nat → Prop} {w : World} {a : Option Addr} {n : Nat} {m : List VT} (h : ValsO O w a n m) (hO : ∀ x, O x → O' x) : ValsO O' w a n m :=
  ⟨h.1, h.2.imp id (fun ⟨g, o, e, hg⟩ => ⟨g, o, e, hO g hg⟩)⟩
theorem OwnG.chg {α : Type} {e : TypeId} {k : Nat} {cs : α → List Value} {C : Nat → Prop} {w w' : World} {base : Nat} {v : Value} {l : List α} (h : OwnG e k cs w base v l) (hc : Chg C w w') (hC : ∀ g, v.ownBlock = some g → ¬ C g) : OwnG e k cs w' base v l := by
  refine ⟨h.1, ?_⟩
  rcases h.2 with h0 | ⟨g, cap, cur, hv, hb, hg, hr⟩
  · exact .inl h0
  · have hlt : g < w.heap.size := by
      rcases Nat.lt_or_ge g w.heap.size with h' | h'
      · exact h'
      · rw [Array.getElem?_eq_none h'] at hg; cases hg
    exact .inr ⟨g, cap, cur, hv, hb, (hc.2 g hlt (hC g (by rw [hv]; rfl))).trans hg, hr⟩
theorem OwnG.base0 {α : Type} {e : TypeId} {k : Nat} {cs : α → List Value} {w : World} {base : Nat} {v : Value} {l : List α} (h : OwnG e k cs w base v l) : OwnG e k cs w 0 v l := by
  refine ⟨h.1, ?_⟩
  rcases h.2 with h0 | ⟨g, cap, cur, hv, hb, hg, hr⟩
  · exact .inl h0
  · exact .inr ⟨g, cap, cur, hv, Nat.zero_le _, hg, hr⟩

/-- A key's bytes, as a list. -/
def kb (m : List VT) : List UInt8 := putL (spellL m)
theorem keyB_kb (m : List VT) : (keyB m).data.toList = kb m := by simp [keyB, kb]
theorem kb_inj {a b : List VT} (ha : GoodK a) (hb : GoodK b) (h : kb a = kb b) : a = b := keyB_inj ha hb (by unfold keyB; unfold kb at h; rw [h])

/-- A group in a map: its key in a block of K, its numbers in block g. -/
def GrpIn (K : Nat → Prop) (g : Nat) (w : World) (val : Value) (m : List VT) (ids : List Int) : Prop :=
  ∃ a n c v, val = .agg #[.slice a n c, v] ∧ ValsO K w a n m ∧ OwnJ w 0 v ids ∧ v.ownBlock = some g
theorem GrpIn.chg {K C : Nat → Prop} {g : Nat} {w w' : World} {val : Value} {m : List VT} {ids : List Int} (h : GrpIn K g w val m ids) (hc : Chg C w w') (hK : ∀ x, K x → ¬ C x) (hg : ¬ C g) : GrpIn K g w' val m ids := by
  obtain ⟨a, n, c, v, h1, h2, h3, h4⟩ := h
  exact ⟨a, n, c, v, h1, h2.chg hc hK, OwnG.chg h3 hc (fun x hx => by rw [h4] at hx; cases hx; exact hg), h4⟩
theorem GrpIn.mono {K K' : Nat → Prop} {g : Nat} {w : World} {val : Value} {m : List VT} {ids : List Int} (h : GrpIn K g w val m ids) (hK : ∀ x, K x → K' x) : GrpIn K' g w val m ids := by
  obtain ⟨a, n, c, v, h1, h2, h3, h4⟩ := h
  exact ⟨a, n, c, v, h1, h2.mono hK, h3, h4⟩

/-- What stands with each key. -/
abbrev Tab := List VT → List Int
def setT (T : Tab) (m : List VT) (l : List Int) : Tab := fun x => if x = m then l else T x
theorem setT_same (T : Tab) (m : List VT) (l : List Int) : setT T m l m = l := if_pos rfl
theorem setT_other (T : Tab) {m x : List VT} (l : List Int) (h : x ≠ m) : setT T m l x = T x := if_neg h

/-- An index's own cells. -/
structure IdxC (p M : Nat) (w : World) (u : Bool) (len : Int) (c : Nat) (f : List UInt8 → Option Value) : Prop where
  c0 : w.cell? ⟨p, 0, none⟩ = some (.bool u)
  c1 : w.cell? ⟨p, 1, none⟩ = some (.map (some M))
  c2 : w.cell? ⟨p, 2, none⟩ = some (.int .i64 len)
  fz : ∀ o, w.frozen? ⟨p, o, none⟩ = false
  map : MapS w M f c
  pM : ¬ p = M
theorem IdxC.chg {C : Nat → Prop} {p M : Nat} {w w' : World} {u : Bool} {len : Int} {c : Nat} {f : List UInt8 → Option Value} (h : IdxC p M w u len c f) (hc : Chg C w w') (hp : ¬ C p) (hM : ¬ C M) : IdxC p M w' u len c f :=
  ⟨hc.cell h.c0 hp, hc.cell h.c1 hp, hc.cell h.c2 hp, fun o => (hc.frozen (p := ⟨p, o, none⟩) (World.block_lt_of_cell? w ⟨p, 0, none⟩ h.c0) hp).trans (h.fz o), h.map.chg hc hM, h.pM⟩
/-- An index's groups. -/
structure IdxG (K : Nat → Prop) (bl : List VT → Nat) (p M : Nat) (w : World) (T : Tab) (f : List UInt8 → Option Value) : Prop where
  here : ∀ m, T m ≠ [] → GoodK m ∧ ∃ val, f (kb m) = some val ∧ GrpIn K (bl m) w val m (T m)
  gone : ∀ m, GoodK m → T m = [] → f (kb m) = none
  all : ∀ x v, f x = some v → ∃ m, T m ≠ [] ∧ x = kb m
  inj : ∀ m m', T m ≠ [] → T m' ≠ [] → bl m = bl m' → m = m'
  apart : ∀ m, T m ≠ [] → ¬ K (bl m) ∧ ¬ bl m = p ∧ ¬ bl m = M
  kpart : ∀ x, K x → ¬ x = p ∧ ¬ x = M
  rise : ∀ m, Rise (T m) ∧ (T m).length ≤ 1000
/-- The blocks of an index. -/
def iblk (K : Nat → Prop) (bl : List VT → Nat) (p M : Nat) (T : Tab) : Nat → Prop := fun x => K x ∨ x = p ∨ x = M ∨ ∃ m, T m ≠ [] ∧ x = bl m
/-- An index: its block, the blocks that it has, whether it is unique, what stands with each key, how many entries, how many keys. -/
def Idx (p : Nat) (O : Nat → Prop) (w : World) (u : Bool) (T : Tab) (len : Int) (c : Nat) : Prop :=
  (∀ x, O x → x < w.heap.size) ∧ ∃ K bl M f, IdxC p M w u len c f ∧ IdxG K bl p M w T f ∧ ∀ x, iblk K bl p M T x → O x
theorem IdxG.chg {C : Nat → Prop} {K : Nat → Prop} {bl : List VT → Nat} {p M : Nat} {w w' : World} {T : Tab} {f : List UInt8 → Option Value} (h : IdxG K bl p M w T f) (hc : Chg C w w') (hC : ∀ x, iblk K bl p M T x → ¬ C x) : IdxG K bl p M w' T f :=
  ⟨fun m hm => by
    obtain ⟨h1, val, h2, h3⟩ := h.here m hm
    exact ⟨h1, val, h2, h3.chg hc (fun x hx => hC x (.inl hx)) (hC _ (.inr (.inr (.inr ⟨m, hm, rfl⟩))))⟩, h.gone, h.all, h.inj, h.apart, h.kpart, h.rise⟩
theorem Idx.chg {C : Nat → Prop} {p : Nat} {O : Nat → Prop} {w w' : World} {u : Bool} {T : Tab} {len : Int} {c : Nat} (h : Idx p O w u T len c) (hc : Chg C w w') (hC : ∀ x, O x → ¬ C x) : Idx p O w' u T len c := by
  obtain ⟨h0, K, bl, M, f, h1, h2, h3⟩ := h
  exact ⟨fun x hx => Nat.lt_of_lt_of_le (h0 x hx) hc.size, K, bl, M, f, h1.chg hc (hC p (h3 p (.inr (.inl rfl)))) (hC M (h3 M (.inr (.inr (.inl rfl))))), h2.chg hc (fun x hx => hC x (h3 x hx)), h3⟩
theorem Idx.up {p : Nat} {O : Nat → Prop} {w w' : World} {u : Bool} {T : Tab} {len : Int} {c : Nat} (h : Idx p O w u T len c) (hu : Up w w') : Idx p O w' u T len c := h.chg (Chg.of_up (C := fun _ => False) hu) (fun _ _ h => h)
/-- What the map tells of a key that nothing stands with, and of another one. -/
theorem IdxG.told_none {K : Nat → Prop} {bl : List VT → Nat} {p M : Nat} {w : World} {T : Tab} {f : List UInt8 → Option Value} (h : IdxG K bl p M w T f) {m : List VT} (hm : GoodK m) (h0 : T m = []) : toldS f (keyB m).data.toList = .agg #[.slice none 0 0, .slice none 0 0] ∧ f (keyB m).data.toList = none := by
  rw [keyB_kb, toldS, h.gone m hm h0]
  exact ⟨rfl, rfl⟩
theorem IdxG.told_some {K : Nat → Prop} {bl : List VT → Nat} {p M : Nat} {w : World} {T : Tab} {f : List UInt8 → Option Value} (h : IdxG K bl p M w T f) {m : List VT} (h0 : T m ≠ []) : ∃ a n c v, toldS f (keyB m).data.toList = .agg #[.slice a n c, v] ∧ (f (keyB m).data.toList).isSome = true ∧ ValsO K w a n m ∧ OwnJ w 0 v (T m) ∧ v.ownBlock = some (bl m) := by
  obtain ⟨_, val, h1, a, n, c, v, rfl, h2, h3, h4⟩ := h.here m h0
  refine ⟨a, n, c, v, ?_, ?_, h2, h3, h4⟩
  · rw [keyB_kb, toldS, h1]; rfl
  · rw [keyB_kb, h1]; rfl
theorem maxS {m : List VT} (h : GoodK m) : (keyB m).size ≤ maxLen := Nat.le_trans (keyB_size h) (by unfold maxLen; omega)

/-- A new group's entry is written. -/
theorem IdxG.add {K : Nat → Prop} {bl : List VT → Nat} {p M : Nat} {w w' : World} {T : Tab} {f : List UInt8 → Option Value} (h : IdxG K bl p M w T f) {C : Nat → Prop} (hc : Chg C w w') {m : List VT} (hm : GoodK m) {l : List Int} (hl : l ≠ []) (hr : Rise l) (hn : l.length ≤ 1000) {a : Option Addr} {n c : Nat} {v : Value} {g : Nat} {K' : Nat → Prop}
    (hC : ∀ x, iblk K bl p M (setT T m []) x → ¬ x = M → ¬ x = p → ¬ C x) (hK' : ∀ x, K x → K' x) (hKn : ∀ x, K' x → K x ∨ w.heap.size ≤ x)
    (hv : ValsO K' w' a n m) (ho : OwnJ w' 0 v l) (hg : v.ownBlock = some g) (hgs : (T m ≠ [] ∧ g = bl m) ∨ (w.heap.size ≤ g ∧ ¬ K' g)) (hlt : ∀ x, iblk K bl p M T x → x < w.heap.size) :
    IdxG K' (fun x => if x = m then g else bl x) p M w' (setT T m l) (updS f (keyB m).data.toList (some (.agg #[.slice a n c, v]))) := by
  have hpl : p < w.heap.size := hlt p (.inr (.inl rfl))
  have hMl : M < w.heap.size := hlt M (.inr (.inr (.inl rfl)))
  have hgp : ¬ K' g ∧ ¬ g = p ∧ ¬ g = M := by
    rcases hgs with ⟨h1, rfl⟩ | ⟨h1, h2⟩
    · obtain ⟨q1, q2, q3⟩ := h.apart m h1
      have := hlt (bl m) (.inr (.inr (.inr ⟨m, h1, rfl⟩)))
      exact ⟨fun hk => (hKn _ hk).elim q1 (fun h => by omega), q2, q3⟩
    · exact ⟨h2, by omega, by omega⟩
  have hoth : ∀ m', ¬ m' = m → T m' ≠ [] → ¬ bl m' = g := fun m' hne hT => by
    rcases hgs with ⟨h1, rfl⟩ | ⟨h1, h2⟩
    · exact fun e => hne (h.inj m' m hT h1 e)
    · have := hlt (bl m') (.inr (.inr (.inr ⟨m', hT, rfl⟩)))
      omega
  refine ⟨fun m' hm' => ?_, fun m' hg' hT => ?_, fun x v' hx => ?_, fun m1 m2 h1 h2 he => ?_, fun m' hm' => ?_, fun x hx => ?_, fun m' => ?_⟩
  · by_cases e : m' = m
    · subst e
      rw [keyB_kb, updS_same, setT_same, if_pos rfl]
      exact ⟨hm, _, rfl, a, n, c, v, rfl, hv, ho, hg⟩
    · rw [setT_other T l e] at hm' ⊢
      rw [if_neg e]
      obtain ⟨h1, val, h2, h3⟩ := h.here m' hm'
      have hk : kb m' ≠ (keyB m).data.toList := fun q => e (kb_inj h1 hm (by rw [q, keyB_kb]))
      rw [updS_other _ _ hk]
      have hT0 : setT T m [] m' ≠ [] := by rw [setT_other T _ e]; exact hm'
      refine ⟨h1, val, h2, (h3.chg hc (fun x hx => ?_) ?_).mono hK'⟩
      · exact hC x (.inl hx) (h.kpart x hx).2 (h.kpart x hx).1
      · exact hC (bl m') (.inr (.inr (.inr ⟨m', hT0, rfl⟩))) (h.apart m' hm').2.2 (h.apart m' hm').2.1
  · by_cases e : m' = m
    · subst e; rw [setT_same] at hT; exact absurd hT hl
    · rw [setT_other T l e] at hT
      have hk : kb m' ≠ (keyB m).data.toList := fun q => e (kb_inj hg' hm (by rw [q, keyB_kb]))
      rw [updS_other _ _ hk]
      exact h.gone m' hg' hT
  · by_cases e : x = (keyB m).data.toList
    · exact ⟨m, by rw [setT_same]; exact hl, by rw [e, keyB_kb]⟩
    · rw [updS_other _ _ e] at hx
      obtain ⟨m', h1, rfl⟩ := h.all x v' hx
      have hne : m' ≠ m := fun q => e (by rw [q, keyB_kb])
      exact ⟨m', by rw [setT_other T l hne]; exact h1, rfl⟩
  · by_cases e1 : m1 = m
    · by_cases e2 : m2 = m
      · rw [e1, e2]
      · rw [setT_other T l e2] at h2
        rw [if_pos e1, if_neg e2] at he
        exact absurd he.symm (hoth m2 e2 h2)
    · rw [setT_other T l e1] at h1
      by_cases e2 : m2 = m
      · rw [if_neg e1, if_pos e2] at he
        exact absurd he (hoth m1 e1 h1)
      · rw [setT_other T l e2] at h2
        rw [if_neg e1, if_neg e2] at he
        exact h.inj m1 m2 h1 h2 he
  · by_cases e : m' = m
    · rw [if_pos e]; exact hgp
    · rw [setT_other T l e] at hm'
      rw [if_neg e]
      obtain ⟨q1, q2, q3⟩ := h.apart m' hm'
      have := hlt (bl m') (.inr (.inr (.inr ⟨m', hm', rfl⟩)))
      exact ⟨fun hk => (hKn _ hk).elim q1 (fun h => by omega), q2, q3⟩
  · rcases hKn x hx with h1 | h1
    · exact h.kpart x h1
    · exact ⟨by omega, by omega⟩
  · by_cases e : m' = m
    · subst e; rw [setT_same]; exact ⟨hr, hn⟩
    · rw [setT_other T l e]; exact h.rise m'

/-- The index behind it. -/
theorem idx_put {K : Nat → Prop} {bl : List VT → Nat} {p M : Nat} {O : Nat → Prop} {w w8 : World} {u : Bool} {T : Tab} {f : List UInt8 → Option Value} (h0 : ∀ x, O x → x < w.heap.size) (hO : ∀ x, iblk K bl p M T x → O x) (hG : IdxG K bl p M w T f)
    {m : List VT} (hm : GoodK m) {l : List Int} (hl : l ≠ []) (hr : Rise l) (hn : l.length ≤ 1000) {a : Option Addr} {n c : Nat} {v : Value} {g : Nat} {K' : Nat → Prop} {len' : Int} {c' : Nat}
    (hc : Chg (fun y => y = M ∨ y = p ∨ (T m ≠ [] ∧ y = bl m)) w w8) (hC8 : IdxC p M w8 u len' c' (updS f (keyB m).data.toList (some (.agg #[.slice a n c, v]))))
    (hK' : ∀ x, K x → K' x) (hKn : ∀ x, K' x → K x ∨ (w.heap.size ≤ x ∧ x < w8.heap.size)) (hv : ValsO K' w8 a n m) (ho : OwnJ w8 0 v l) (hg : v.ownBlock = some g) (hgs : (T m ≠ [] ∧ g = bl m) ∨ (w.heap.size ≤ g ∧ g < w8.heap.size ∧ ¬ K' g)) :
    Chg O w w8 ∧ Idx p (fun y => O y ∨ (w.heap.size ≤ y ∧ y < w8.heap.size)) w8 u (setT T m l) len' c' := by
  have hlt : ∀ x, iblk K bl p M T x → x < w.heap.size := fun x hx => h0 x (hO x hx)
  refine ⟨hc.mono (fun x _ hx => ?_), fun x hx => ?_, K', _, M, _, hC8, hG.add hc hm hl hr hn (fun x hx h1 h2 h3 => ?_) hK' (fun x hx => (hKn x hx).imp id (fun h => h.1)) hv ho hg (hgs.imp id (fun h => ⟨h.1, h.2.2⟩)) hlt, fun x hx => ?_⟩
  · rcases hx with rfl | rfl | ⟨h1, rfl⟩
    · exact hO _ (.inr (.inr (.inl rfl)))
    · exact hO _ (.inr (.inl rfl))
    · exact hO _ (.inr (.inr (.inr ⟨m, h1, rfl⟩)))
  · exact hx.elim (fun h => Nat.lt_of_lt_of_le (h0 x h) hc.size) (fun h => h.2)
  · rcases h3 with h3 | h3 | ⟨h3, rfl⟩
    · exact h1 h3
    · exact h2 h3
    · rcases hx with hx | hx | hx | ⟨m', hx, e⟩
      · exact (hG.apart m h3).1 hx
      · exact h2 hx
      · exact h1 hx
      · by_cases q : m' = m
        · subst q; rw [setT_same] at hx; exact hx rfl
        · rw [setT_other T _ q] at hx
          exact q (hG.inj m' m hx h3 e.symm)
  · rcases hx with hx | rfl | rfl | ⟨m', hx, rfl⟩
    · exact (hKn x hx).imp (fun h => hO x (.inl h)) id
    · exact .inl (hO _ (.inr (.inl rfl)))
    · exact .inl (hO _ (.inr (.inr (.inl rfl))))
    · dsimp only
      by_cases q : m' = m
      · rw [if_pos q]
        rcases hgs with ⟨h1, rfl⟩ | ⟨h1, h2, _⟩
        · exact .inl (hO _ (.inr (.inr (.inr ⟨m, h1, rfl⟩))))
        · exact .inr ⟨h1, h2⟩
      · rw [if_neg q]
        rw [setT_other T _ q] at hx
        exact .inl (hO _ (.inr (.inr (.inr ⟨m', hx, rfl⟩))))

end Go.Proofs.Ytofpakpbbpcalaa
