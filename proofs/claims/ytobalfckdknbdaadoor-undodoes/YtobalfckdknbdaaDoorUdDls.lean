/-
  The log of the law UndoDoes: steps that append a number to got.
-/
import Derived.Test.YtobalfckdknbdaaDoorUdKnw
import Derived.Test.YtobalfckdknbdaaDoorTrRow
import Derived.Deep.QuietTactic
import Derived.BigQuiet
namespace Go.Proofs.YtobalfckdknbdaaDoor
open Go.ChangeShapes Go.WideShapes Go.ChangeAt Go.RowKit
set_option linter.unusedVariables false
set_option maxRecDepth 20000
attribute [local go_sem ↓] Go.wp_at_zero Go.wp_at_succ

theorem elemL : ElemT (α := Int) Tryd.prog 25 2 (Value.int .i64) (.int .i64 0) 8 where
  ht := Tryd.underlying25
  hi := by kernel_rfl
  hb := by decide
  one := fun _ => rfl
  zc := rfl
  zo := rfl

/-- A row of numbers that was made since the heap had n0 blocks. -/
abbrev OwnL (w : World) (n0 : Nat) (v : Value) (l : List Int) : Prop := Own 2 (Value.int .i64) w n0 v l

theorem Own.takeN {w : World} {n0 : Nat} {a : Option Addr} {n cap : Nat} {l : List Int} (h : OwnL w n0 (.slice a n cap) l) {k : Nat} (hk : k ≤ l.length) : OwnL w n0 (.slice a k cap) (l.take k) := by
  by_cases hl : l = []
  · subst hl
    obtain ⟨a', c', e, hc⟩ := h.slice
    cases e
    have : k = 0 := Nat.le_zero.1 hk
    subst this
    exact h
  · obtain ⟨g, cap', cur, e, h1, h2, h3, h4, h5, h6⟩ := h.block hl
    cases e
    refine Own.mk h1 h2 (by rw [List.length_take]; omega) (by omega) h4 h5 ?_
    rw [List.map_take, ← h6, List.take_take, Nat.min_eq_left hk]

/-- The block of the number that a step has captured. -/
def xbOf (k : Bk) : Nat := match (k.cap[1]? : Option Value) with
  | some (Value.pointer (some a)) => a.block
  | _ => k.blk
/-- A step that appends x to got (in block G). -/
def Stp (G : Nat) (k : Bk) (x : Int) (W : World) : Prop := (k.fn = 10 ∧ k.cap = #[.pointer (some ⟨G, 0, none⟩), .pointer (some ⟨xbOf k, 0, none⟩)] ∧ W.cell? ⟨xbOf k, 0, none⟩ = some (.int .i64 x)) ∨ (k.fn = 7 ∧ k.cap = #[.pointer (some ⟨G, 0, none⟩)] ∧ x = -1)
theorem Stp.chg {C : Nat → Prop} {G : Nat} {k : Bk} {x : Int} {W W' : World} (h : Stp G k x W) (hc : Chg C W W') (hn : ¬ C (xbOf k)) : Stp G k x W' := by
  rcases h with ⟨a, b, c⟩ | h
  · exact .inl ⟨a, b, hc.cell (p := ⟨xbOf k, 0, none⟩) c hn⟩
  · exact .inr h
/-- The blocks of a log, of got and of what its steps have captured. -/
def LB (T G : Nat) (l : List Bk) : Nat → Prop := fun y => y = T ∨ y = G ∨ ∃ k ∈ l, y = k.blk ∨ y = xbOf k
theorem LB.cons {T G : Nat} {k : Bk} {l : List Bk} {y : Nat} (h : LB T G l y) : LB T G (k :: l) y := by
  rcases h with h | h | ⟨q, hq, h⟩
  · exact .inl h
  · exact .inr (.inl h)
  · exact .inr (.inr ⟨q, List.mem_cons_of_mem _ hq, h⟩)
theorem LB.sub {T G : Nat} {l l' : List Bk} (hl : ∀ k ∈ l, k ∈ l') {y : Nat} (h : LB T G l y) : LB T G l' y := by
  rcases h with h | h | ⟨q, hq, h⟩
  · exact .inl h
  · exact .inr (.inl h)
  · exact .inr (.inr ⟨q, hl q hq, h⟩)

/-- The steps of a log with the numbers that they append, and got. -/
structure PlR (n0 T G : Nat) (l : List Bk) (xs : List Int) (vg : Value) (gs : List Int) (W : World) : Prop where
  len : l.length = xs.length
  st : ∀ p ∈ l.zip xs, Stp G p.1 p.2 W
  cg : W.cell? ⟨G, 0, none⟩ = some vg
  fg : W.frozen? ⟨G, 0, none⟩ = false
  og : OwnL W n0 vg gs
  ag : ∀ g, vg.ownBlock = some g → ¬ LB T G l g
  kg : ∀ k ∈ l, k.blk ≠ G ∧ xbOf k ≠ T ∧ xbOf k ≠ G
  tg : T ≠ G
  old : ∀ y, LB T G l y → y < W.heap.size
  low : n0 ≤ T ∧ n0 ≤ G

theorem PlR.chg {n0 T G : Nat} {l : List Bk} {xs : List Int} {vg : Value} {gs : List Int} {W W' : World} {C : Nat → Prop} (h : PlR n0 T G l xs vg gs W) (hc : Chg C W W') (h1 : ¬ C G) (h2 : ∀ k ∈ l, ¬ C (xbOf k)) (h3 : ∀ g, vg.ownBlock = some g → ¬ C g) : PlR n0 T G l xs vg gs W' := by
  refine ⟨h.len, fun p hp => ?_, hc.cell (p := ⟨G, 0, none⟩) h.cg h1, (hc.frozen (p := ⟨G, 0, none⟩) (h.old G (.inr (.inl rfl))) h1).trans h.fg, h.og.chg hc h3, h.ag, h.kg, h.tg, fun y hy => Nat.lt_of_lt_of_le (h.old y hy) hc.size, h.low⟩
  exact (h.st p hp).chg hc (h2 p.1 (List.of_mem_zip hp).1)
theorem PlR.up {n0 T G : Nat} {l : List Bk} {xs : List Int} {vg : Value} {gs : List Int} {W W' : World} (h : PlR n0 T G l xs vg gs W) (hu : Up W W') : PlR n0 T G l xs vg gs W' :=
  h.chg (C := fun _ => False) (Chg.of_up hu) id (fun _ _ => id) (fun _ _ => id)
/-- T alone may have turned. -/
theorem PlR.turn {n0 T G : Nat} {l : List Bk} {xs : List Int} {vg : Value} {gs : List Int} {W W' : World} (h : PlR n0 T G l xs vg gs W) (hc : Chg (fun y => y = T) W W') : PlR n0 T G l xs vg gs W' :=
  h.chg hc (fun e => h.tg e.symm) (fun k hk e => (h.kg k hk).2.1 e) (fun g hg e => h.ag g hg (.inl e))
/-- The elder steps. -/
theorem PlR.rest {n0 T G : Nat} {l p r : List Bk} {xs zs ys : List Int} {vg : Value} {gs : List Int} {W : World} (h : PlR n0 T G l xs vg gs W) (hl : l = p ++ r) (hx : xs = zs ++ ys) (hp : p.length = zs.length) : PlR n0 T G r ys vg gs W := by
  have hsub : ∀ k ∈ r, k ∈ l := fun k hk => by rw [hl]; exact List.mem_append_right _ hk
  refine ⟨?_, fun q hq => h.st q ?_, h.cg, h.fg, h.og, fun g hg hb => h.ag g hg (hb.sub hsub), fun k hk => h.kg k (hsub k hk), h.tg, fun y hy => h.old y (hy.sub hsub), h.low⟩
  · have := h.len
    rw [hl, hx, List.length_append, List.length_append] at this
    omega
  · rw [hl, hx, List.zip_append hp]
    exact List.mem_append_right _ hq

set_option maxHeartbeats 1600000 in
theorem pl_one (n0 G xb : Nat) (x : Int) (vg : Value) (gs : List Int) (W : World) (hx : W.cell? ⟨xb, 0, none⟩ = some (.int .i64 x)) (hg : W.cell? ⟨G, 0, none⟩ = some vg) (hf : W.frozen? ⟨G, 0, none⟩ = false) (ho : OwnL W n0 vg gs) (hn : gs.length ≤ 100000) (h0 : n0 ≤ W.heap.size) (hG : vg.ownBlock ≠ some G) :
    Calls Tryd.prog 10 #[.pointer (some ⟨G, 0, none⟩), .pointer (some ⟨xb, 0, none⟩)] W fun e W' => e = .returned (.tuple #[]) ∧ ∃ vg', W'.cell? ⟨G, 0, none⟩ = some vg' ∧ W'.frozen? ⟨G, 0, none⟩ = false ∧ OwnL W' n0 vg' (gs ++ [x]) ∧ Chg (fun y => y = G ∨ vg.ownBlock = some y) W W' ∧ (vg'.ownBlock = vg.ownBlock ∨ ∃ n, W.heap.size ≤ n ∧ vg'.ownBlock = some n) := by
  have hGl : G < W.heap.size := World.block_lt_of_cell? W ⟨G, 0, none⟩ hg
  have hu : Up W (W.alloc (.cells #[.int .i64 x] 2)) := (Up.refl _).alloc _
  have HO := hide (ho.up hu)
  have HR : Hid (Rd (Value.int .i64) (fun _ => False) (W.alloc (.cells #[.int .i64 x] 2)) (.slice (some ⟨W.heap.size, 0, none⟩) 1 1) [x]) := hide ((Own.new1 (e := 2) W x).rd (fun _ _ h => h))
  have HC := hide (⟨hg, hf, hu, h0, hG, hGl, hn⟩ : _ ∧ _ ∧ _ ∧ _ ∧ _ ∧ _ ∧ _)
  clear ho hf hu h0 hG hGl hn
  go_enter Tryd.func10, Tryd.ntmps10
  go_wp2_with (at_builtin; refine append_rd elemL rfl _ _ rfl n0 _ _ gs [x] rfl rfl HO.out HR.out (by have := HC.out; simp; omega) (by have := HC.out; simp; omega) ?_)
  intro v' w' ho' hg' hb'
  obtain ⟨c1, c2, c3, c4, c5, c6, c7⟩ := HC.out
  have hch := chg_grown hg'
  have cg' : w'.cell? ⟨G, 0, none⟩ = some vg := hch.cell (p := ⟨G, 0, none⟩) (c3.cell c1) c5
  have fg' : w'.frozen? ⟨G, 0, none⟩ = false := (hch.frozen (p := ⟨G, 0, none⟩) (Nat.lt_of_lt_of_le c6 c3.size) c5).trans ((c3.frozen (p := ⟨G, 0, none⟩) c6).trans c2)
  have hb2 : Hid (v'.ownBlock = vg.ownBlock ∨ ∃ n, W.heap.size < n ∧ v'.ownBlock = some n) := by
    rcases hb' with h | h
    · exact .inl h
    · exact .inr ⟨_, by simp, h⟩
  have HO' := hide ho'
  have HCH : Hid (Chg (fun y => vg.ownBlock = some y) W w') := hide ((Chg.of_up c3).trans hch (fun _ _ h => h))
  clear ho' hg' hb' c1 c2 c3 c4 c6 c7 hch HR HO
  have c5' : v'.ownBlock ≠ some G := by
    rcases hb2 with h | ⟨n, h1, h2⟩
    · rw [h]; exact c5
    · rw [h2]; intro e; cases e; exact absurd h1 (by have := HC.out.2.2.2.2.2.1; omega)
  obtain ⟨a', c', rfl, -⟩ := HO'.out.slice
  have hcs : Chg (fun y => y = G) w' (w'.setCell ⟨G, 0, none⟩ (.slice a' (gs ++ [x]).length c')) := Chg.chT (Chg.refl _ w') 0 _
  have r1 : (w'.setCell ⟨G, 0, none⟩ (.slice a' (gs ++ [x]).length c')).cell? ⟨G, 0, none⟩ = some (.slice a' (gs ++ [x]).length c') := World.cell?_setCell_same _ _ _ cg'
  have r2 : (w'.setCell ⟨G, 0, none⟩ (.slice a' (gs ++ [x]).length c')).frozen? ⟨G, 0, none⟩ = false := by rw [World.frozen?_setCell]; exact fg'
  have HR : Hid (OwnL (w'.setCell ⟨G, 0, none⟩ (.slice a' (gs ++ [x]).length c')) n0 (.slice a' (gs ++ [x]).length c') (gs ++ [x]) ∧ Chg (fun y => y = G ∨ vg.ownBlock = some y) W (w'.setCell ⟨G, 0, none⟩ (.slice a' (gs ++ [x]).length c'))) :=
    hide ⟨HO'.out.chg hcs (fun g hg e => c5' (by rw [hg, e])), (HCH.out.mono (fun _ _ h => Or.inr h)).trans hcs (fun _ _ h => .inl h)⟩
  have HR2 := hide (⟨r1, r2⟩ : _ ∧ _)
  clear hcs r1 r2 HO' HCH c5 c5'
  generalize (gs ++ [x]).length = m at *
  go_wp2
  go_end0
  refine ⟨rfl, _, HR2.out.1, HR2.out.2, HR.out.1, HR.out.2, ?_⟩
  rcases hb2 with h | ⟨n, h1, h2⟩
  · exact .inl h
  · exact .inr ⟨n, Nat.le_of_lt h1, h2⟩

set_option maxHeartbeats 1600000 in
theorem pl_neg (n0 G : Nat) (vg : Value) (gs : List Int) (W : World) (hg : W.cell? ⟨G, 0, none⟩ = some vg) (hf : W.frozen? ⟨G, 0, none⟩ = false) (ho : OwnL W n0 vg gs) (hn : gs.length ≤ 100000) (h0 : n0 ≤ W.heap.size) (hG : vg.ownBlock ≠ some G) :
    Calls Tryd.prog 7 #[.pointer (some ⟨G, 0, none⟩)] W fun e W' => e = .returned (.tuple #[]) ∧ ∃ vg', W'.cell? ⟨G, 0, none⟩ = some vg' ∧ W'.frozen? ⟨G, 0, none⟩ = false ∧ OwnL W' n0 vg' (gs ++ [-1]) ∧ Chg (fun y => y = G ∨ vg.ownBlock = some y) W W' ∧ (vg'.ownBlock = vg.ownBlock ∨ ∃ n, W.heap.size ≤ n ∧ vg'.ownBlock = some n) := by
  have hGl : G < W.heap.size := World.block_lt_of_cell? W ⟨G, 0, none⟩ hg
  have hu : Up W (W.alloc (.cells #[.int .i64 (-1)] 2)) := (Up.refl _).alloc _
  have HO := hide (ho.up hu)
  have HR : Hid (Rd (Value.int .i64) (fun _ => False) (W.alloc (.cells #[.int .i64 (-1)] 2)) (.slice (some ⟨W.heap.size, 0, none⟩) 1 1) [-1]) := hide ((Own.new1 (e := 2) W (-1)).rd (fun _ _ h => h))
  have HC := hide (⟨hg, hf, hu, h0, hG, hGl, hn⟩ : _ ∧ _ ∧ _ ∧ _ ∧ _ ∧ _ ∧ _)
  clear ho hf hu h0 hG hGl hn
  go_enter Tryd.func7, Tryd.ntmps7
  go_wp2_with (at_builtin; refine append_rd elemL rfl _ _ rfl n0 _ _ gs [-1] rfl rfl HO.out HR.out (by have := HC.out; simp; omega) (by have := HC.out; simp; omega) ?_)
  intro v' w' ho' hg' hb'
  obtain ⟨c1, c2, c3, c4, c5, c6, c7⟩ := HC.out
  have hch := chg_grown hg'
  have cg' : w'.cell? ⟨G, 0, none⟩ = some vg := hch.cell (p := ⟨G, 0, none⟩) (c3.cell c1) c5
  have fg' : w'.frozen? ⟨G, 0, none⟩ = false := (hch.frozen (p := ⟨G, 0, none⟩) (Nat.lt_of_lt_of_le c6 c3.size) c5).trans ((c3.frozen (p := ⟨G, 0, none⟩) c6).trans c2)
  have hb2 : Hid (v'.ownBlock = vg.ownBlock ∨ ∃ n, W.heap.size < n ∧ v'.ownBlock = some n) := by
    rcases hb' with h | h
    · exact .inl h
    · exact .inr ⟨_, by simp, h⟩
  have HO' := hide ho'
  have HCH : Hid (Chg (fun y => vg.ownBlock = some y) W w') := hide ((Chg.of_up c3).trans hch (fun _ _ h => h))
  clear ho' hg' hb' c1 c2 c3 c4 c6 c7 hch HR HO
  have c5' : v'.ownBlock ≠ some G := by
    rcases hb2 with h | ⟨n, h1, h2⟩
    · rw [h]; exact c5
    · rw [h2]; intro e; cases e; exact absurd h1 (by have := HC.out.2.2.2.2.2.1; omega)
  obtain ⟨a', c', rfl, -⟩ := HO'.out.slice
  have hcs : Chg (fun y => y = G) w' (w'.setCell ⟨G, 0, none⟩ (.slice a' (gs ++ [-1]).length c')) := Chg.chT (Chg.refl _ w') 0 _
  have r1 : (w'.setCell ⟨G, 0, none⟩ (.slice a' (gs ++ [-1]).length c')).cell? ⟨G, 0, none⟩ = some (.slice a' (gs ++ [-1]).length c') := World.cell?_setCell_same _ _ _ cg'
  have r2 : (w'.setCell ⟨G, 0, none⟩ (.slice a' (gs ++ [-1]).length c')).frozen? ⟨G, 0, none⟩ = false := by rw [World.frozen?_setCell]; exact fg'
  have HR : Hid (OwnL (w'.setCell ⟨G, 0, none⟩ (.slice a' (gs ++ [-1]).length c')) n0 (.slice a' (gs ++ [-1]).length c') (gs ++ [-1]) ∧ Chg (fun y => y = G ∨ vg.ownBlock = some y) W (w'.setCell ⟨G, 0, none⟩ (.slice a' (gs ++ [-1]).length c'))) :=
    hide ⟨HO'.out.chg hcs (fun g hg e => c5' (by rw [hg, e])), (HCH.out.mono (fun _ _ h => Or.inr h)).trans hcs (fun _ _ h => .inl h)⟩
  have HR2 := hide (⟨r1, r2⟩ : _ ∧ _)
  clear hcs r1 r2 HO' HCH c5 c5'
  generalize (gs ++ [-1]).length = m at *
  go_wp2
  go_end0
  refine ⟨rfl, _, HR2.out.1, HR2.out.2, HR.out.1, HR.out.2, ?_⟩
  rcases hb2 with h | ⟨n, h1, h2⟩
  · exact .inl h
  · exact .inr ⟨n, Nat.le_of_lt h1, h2⟩

/-- One step is taken back. -/
theorem pl_back1 {n0 T G : Nat} {k : Bk} {r : List Bk} {y : Int} {ys : List Int} {vg : Value} {gs : List Int} {W : World} (h : PlR n0 T G (k :: r) (y :: ys) vg gs W) (hn : gs.length ≤ 100000) :
    Calls Tryd.prog k.fn k.cap W fun e W' => e = .returned (.tuple #[]) ∧ ∃ vg', PlR n0 T G r ys vg' (gs ++ [y]) W' ∧ Chg (fun b => b = G ∨ vg.ownBlock = some b) W W' ∧ (vg'.ownBlock = vg.ownBlock ∨ ∃ n, W.heap.size ≤ n ∧ vg'.ownBlock = some n) := by
  have hGs := h.old G (.inr (.inl rfl))
  have hl := h.low.2
  have key : Calls Tryd.prog k.fn k.cap W fun e W' => e = .returned (.tuple #[]) ∧ ∃ vg', W'.cell? ⟨G, 0, none⟩ = some vg' ∧ W'.frozen? ⟨G, 0, none⟩ = false ∧ OwnL W' n0 vg' (gs ++ [y]) ∧ Chg (fun y => y = G ∨ vg.ownBlock = some y) W W' ∧ (vg'.ownBlock = vg.ownBlock ∨ ∃ n, W.heap.size ≤ n ∧ vg'.ownBlock = some n) := by
    rcases h.st (k, y) (by rw [List.zip_cons_cons]; exact List.mem_cons_self ..) with ⟨h1, h2, h3⟩ | ⟨h1, h2, h3⟩
    · simp only at h1 h2 h3
      rw [h1, h2]
      exact pl_one n0 G (xbOf k) y vg gs W h3 h.cg h.fg h.og hn (by omega) (fun e => h.ag G e (.inr (.inl rfl)))
    · simp only at h1 h2 h3
      rw [h1, h2, h3]
      exact pl_neg n0 G vg gs W h.cg h.fg h.og hn (by omega) (fun e => h.ag G e (.inr (.inl rfl)))
  refine key.mono ?_
  rintro _ W' ⟨rfl, vg', c1, c2, c3, c4, c5⟩
  have hr : PlR n0 T G r ys vg gs W := h.rest (p := [k]) (zs := [y]) rfl rfl rfl
  refine ⟨rfl, vg', ⟨hr.len, fun p hp => ?_, c1, c2, c3, ?_, hr.kg, hr.tg, fun z hz => Nat.lt_of_lt_of_le (hr.old z hz) c4.size, hr.low⟩, c4, c5⟩
  · have hm := (List.of_mem_zip hp).1
    refine (hr.st p hp).chg c4 ?_
    rintro (e | e)
    · exact (hr.kg p.1 hm).2.2 e
    · exact hr.ag _ e (.inr (.inr ⟨p.1, hm, .inr rfl⟩))
  · intro g hg hb
    rcases c5 with e | ⟨n, e1, e2⟩
    · exact hr.ag g (by rw [← e]; exact hg) hb
    · rw [e2] at hg; cases hg
      have := hr.old _ hb
      omega

set_option maxHeartbeats 1600000 in
/-- Back: all behind the mark is appended, the last one first. -/
theorem pl_back {n0 T G : Nat} {l : List Bk} {xs : List Int} {vg : Value} {gs : List Int} {W : World} (hl : LogAt T l W) (h : PlR n0 T G l xs vg gs W) (m : Nat) (hm : m ≤ l.length) (hn : gs.length + l.length ≤ 100000) :
    Calls Tryd.prog 16 #[.pointer (some ⟨T, 0, none⟩), .int .i64 m] W fun e W' => e = .returned (.bool true) ∧ LogAt T (l.drop (l.length - m)) W' ∧ ∃ vg', PlR n0 T G (l.drop (l.length - m)) (xs.drop (l.length - m)) vg' (gs ++ xs.take (l.length - m)) W' ∧ Chg (fun b => b = T ∨ b = G ∨ vg.ownBlock = some b) W W' ∧ (vg'.ownBlock = vg.ownBlock ∨ ∃ n, W.heap.size ≤ n ∧ vg'.ownBlock = some n) := by
  refine (udBack_ok T l m (fun r w => ∃ zs ys vg', xs = zs ++ ys ∧ zs.length + r.length = l.length ∧ PlR n0 T G r ys vg' (gs ++ zs) w ∧ Chg (fun b => b = T ∨ b = G ∨ vg.ownBlock = some b) W w ∧ (vg'.ownBlock = vg.ownBlock ∨ ∃ n, W.heap.size ≤ n ∧ vg'.ownBlock = some n)) W hl hm ?_ ?_ ?_ ⟨[], xs, vg, rfl, by simp, by rw [List.append_nil]; exact h, Chg.refl _ _, .inl rfl⟩).mono ?_
  · intro k hk w'
    obtain ⟨i, hi, rfl⟩ := List.getElem_of_mem hk
    have hi2 : i < xs.length := by rw [← h.len]; exact hi
    rcases h.st (l[i], xs[i]) (by
      rw [List.mem_iff_getElem]
      exact ⟨i, by rw [List.length_zip]; omega, by rw [List.getElem_zip]⟩) with ⟨h1, -, -⟩ | ⟨h1, -, -⟩ <;> simp only at h1 <;> rw [h1] <;> rfl
  · rintro r W1 W2 ⟨zs, ys, vg', h1, h2, h3, h4, h5⟩ hc _
    exact ⟨zs, ys, vg', h1, h2, h3.turn hc, h4.trans hc (fun _ _ e => .inl e), h5⟩
  · rintro k r W1 ⟨p, hp⟩ hmr hlog ⟨zs, ys, vg', h1, h2, h3, h4, h5⟩
    cases ys with
    | nil => have := h3.len; simp at this
    | cons y ys =>
      have hz : (gs ++ zs).length ≤ 100000 := by rw [List.length_append]; rw [List.length_cons] at h2; omega
      refine (pl_back1 h3 hz).mono ?_
      rintro _ W2 ⟨rfl, vg2, c1, c2, c3⟩
      have hs := h4.size
      refine ⟨rfl, hlog.chg c2 ?_ ?_, zs ++ [y], ys, vg2, by rw [h1]; simp, by rw [List.length_append]; rw [List.length_cons] at h2; simp; omega, by rw [← List.append_assoc]; exact c1, ?_, ?_⟩
      · rintro (e | e)
        · exact h3.tg e
        · exact h3.ag T e (.inl rfl)
      · intro q hq
        rintro (e | e)
        · exact (h3.kg q (List.mem_cons_of_mem _ hq)).1 e
        · exact h3.ag _ e (.inr (.inr ⟨q, List.mem_cons_of_mem _ hq, .inl rfl⟩))
      · refine h4.trans c2 (fun z hz e => ?_)
        rcases e with e | e
        · exact .inr (.inl e)
        · rcases h5 with h5 | ⟨n, h5, h6⟩
          · rw [h5] at e; exact .inr (.inr e)
          · rw [h6] at e; cases e; omega
      · rcases c3 with e | ⟨n, e1, e2⟩
        · rw [e]; exact h5
        · exact .inr ⟨n, by omega, e2⟩
  · rintro _ W' ⟨rfl, hlog, zs, ys, vg', h1, h2, h3, h4, h5⟩
    have e : zs.length = l.length - m := by rw [List.length_drop] at h2; omega
    refine ⟨rfl, hlog, vg', ?_, h4, h5⟩
    rw [h1, ← e, List.drop_left, List.take_left]
    rw [← e] at h3
    exact h3

end Go.Proofs.YtobalfckdknbdaaDoor
