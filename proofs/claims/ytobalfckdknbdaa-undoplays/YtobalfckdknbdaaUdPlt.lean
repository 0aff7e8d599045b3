/-
  UndoPlays' whole state, and what each step makes of it.
-/
import Derived.Test.YtobalfckdknbdaaUdPls
namespace Go.Proofs.Ytobalfckdknbdaa
open Go.ChangeShapes Go.WideShapes Go.ChangeAt Go.RowKit
set_option linter.unusedVariables false
set_option maxRecDepth 20000
attribute [local go_sem ↓] Go.wp_at_zero Go.wp_at_succ

/-- The log, got (in G), the model m and want. -/
structure PlS (w0 : World) (T G : Nat) (l : List Bk) (xs : List Int) (vg : Value) (gs : List Int) (vm : Value) (ms : List Int) (vw : Value) (ws : List Int) (W : World) : Prop where
  log : LogAt T l W
  r : PlR w0.heap.size T G l xs vg gs W
  om : OwnL W w0.heap.size vm ms
  ow : OwnL W w0.heap.size vw ws
  am : ∀ g, vm.ownBlock = some g → ¬ LB T G l g ∧ vg.ownBlock ≠ some g
  aw : ∀ g, vw.ownBlock = some g → ¬ LB T G l g ∧ vg.ownBlock ≠ some g
  mw : ∀ g, vm.ownBlock = some g → vw.ownBlock ≠ some g
  up : Up w0 W

theorem PlS.upto {w0 : World} {T G : Nat} {l : List Bk} {xs : List Int} {vg : Value} {gs : List Int} {vm : Value} {ms : List Int} {vw : Value} {ws : List Int} {W W' : World} (h : PlS w0 T G l xs vg gs vm ms vw ws W) (hu : Up W W') : PlS w0 T G l xs vg gs vm ms vw ws W' :=
  ⟨h.log.up hu, h.r.up hu, h.om.up hu, h.ow.up hu, h.am, h.aw, h.mw, h.up.trans hu⟩

/-- A step is added; its number lies in block xb, which is new. -/
theorem PlS.add {w0 : World} {T G : Nat} {l : List Bk} {xs : List Int} {vg : Value} {gs : List Int} {vm : Value} {ms : List Int} {vw : Value} {ws : List Int} {W : World} (h : PlS w0 T G l xs vg gs vm ms vw ws W) (x : Int) (t : TypeId) (hn : l.length < 1000) :
    Calls Try.prog 8 #[.pointer (some ⟨T, 0, none⟩), .func (.func 9) #[] #[.pointer (some ⟨G, 0, none⟩), .pointer (some ⟨W.heap.size, 0, none⟩)]] (W.alloc (.cells #[.int .i64 x] t)) fun e W' => e = .returned (.tuple #[]) ∧ W'.cell? ⟨W.heap.size, 0, none⟩ = some (.int .i64 x) ∧ ∃ k, PlS w0 T G (k :: l) (x :: xs) vg gs vm ms vw ws W' := by
  have hu : Up W (W.alloc (.cells #[.int .i64 x] t)) := (Up.refl _).alloc _
  have hx : (W.alloc (.cells #[.int .i64 x] t)).cell? ⟨W.heap.size, 0, none⟩ = some (.int .i64 x) := by go_simp
  have hs : (W.alloc (.cells #[.int .i64 x] t)).heap.size = W.heap.size + 1 := by simp
  have h1 := h.upto hu
  have hTW : T < W.heap.size := h.log.old.1
  have hGW : G < W.heap.size := h.r.old G (.inr (.inl rfl))
  have hnT : W.heap.size ≠ T := by omega
  refine (udAdd_calls T l _ _ _ h1.log (by omega)).mono ?_
  rintro _ W' ⟨rfl, hl, hc, hsz⟩
  have hx' := hc.cell (p := ⟨W.heap.size, 0, none⟩) hx hnT
  have hr := h1.r.turn hc
  have tl := h.r.low.1
  have key : ∀ g, LB T G (⟨(W.alloc (.cells #[.int .i64 x] t)).heap.size, 9, #[.pointer (some ⟨G, 0, none⟩), .pointer (some ⟨W.heap.size, 0, none⟩)]⟩ :: l) g → LB T G l g ∨ g = W.heap.size ∨ g = W.heap.size + 1 := by
    rintro g (e | e | ⟨q, hq, e⟩)
    · exact .inl (.inl e)
    · exact .inl (.inr (.inl e))
    · rcases List.mem_cons.1 hq with rfl | hq
      · rcases e with e | e
        · exact .inr (.inr (by rw [e]; exact hs))
        · exact .inr (.inl e)
      · exact .inl (.inr (.inr ⟨q, hq, e⟩))
  have keyO : ∀ (v : Value) (zs : List Int), OwnL W w0.heap.size v zs → (∀ g, v.ownBlock = some g → ¬ LB T G l g) → ∀ g, v.ownBlock = some g → ¬ LB T G (⟨(W.alloc (.cells #[.int .i64 x] t)).heap.size, 9, #[.pointer (some ⟨G, 0, none⟩), .pointer (some ⟨W.heap.size, 0, none⟩)]⟩ :: l) g := by
    intro v zs ho ha g hg hb
    have hlt := (ho.lt g hg).2
    rcases key g hb with e | e | e
    · exact ha g hg e
    · omega
    · omega
  have ch : ∀ (v : Value) (zs : List Int), OwnL W w0.heap.size v zs → (∀ g, v.ownBlock = some g → ¬ LB T G l g) → OwnL W' w0.heap.size v zs := fun v zs ho ha => (ho.up hu).chg hc (fun g hg e => ha g hg (.inl e))
  refine ⟨rfl, hx', _, hl, ⟨?_, ?_, hr.cg, hr.fg, hr.og, keyO vg gs h.r.og h.r.ag, ?_, hr.tg, ?_, hr.low⟩, ch vm ms h.om (fun g hg => (h.am g hg).1), ch vw ws h.ow (fun g hg => (h.aw g hg).1), fun g hg => ⟨keyO vm ms h.om (fun g hg => (h.am g hg).1) g hg, (h.am g hg).2⟩, fun g hg => ⟨keyO vw ws h.ow (fun g hg => (h.aw g hg).1) g hg, (h.aw g hg).2⟩, h.mw, ?_⟩
  · rw [List.length_cons, List.length_cons, hr.len]
  · intro p hp
    rw [List.zip_cons_cons] at hp
    rcases List.mem_cons.1 hp with rfl | hp
    · exact ⟨rfl, rfl, hx'⟩
    · exact hr.st p hp
  · intro k hk
    rcases List.mem_cons.1 hk with rfl | hk
    · show (W.alloc (.cells #[.int .i64 x] t)).heap.size ≠ G ∧ W.heap.size ≠ T ∧ W.heap.size ≠ G
      omega
    · exact hr.kg k hk
  · intro y hy
    rcases key y hy with e | e | e
    · exact hr.old y e
    · omega
    · omega
  · exact ((Chg.of_up (C := fun y => y = T) h1.up).trans hc (fun _ _ e => e)).up (fun z hz e => by omega)

/-- A row of a world is grown: what a row beside it holds stays. -/
theorem own_beside {w0 n : Nat} {v u : Value} {l : List Int} {W W' : World} (h : OwnL W w0 u l) (hg : W.grownBy W' v.ownBlock) (hd : ∀ g, u.ownBlock = some g → v.ownBlock ≠ some g) : OwnL W' w0 u l :=
  h.chg (chg_grown hg) hd

/-- The model grows. -/
theorem PlS.appM {w0 : World} {T G : Nat} {l : List Bk} {xs : List Int} {vg : Value} {gs : List Int} {vm : Value} {ms : List Int} {vw : Value} {ws : List Int} {W W' : World} (h : PlS w0 T G l xs vg gs vm ms vw ws W) {v' : Value} {ms' : List Int} (ho : OwnL W' w0.heap.size v' ms') (hg : W.grownBy W' vm.ownBlock) (hb : v'.ownBlock = vm.ownBlock ∨ v'.ownBlock = some W.heap.size) : PlS w0 T G l xs vg gs v' ms' vw ws W' := by
  have hc := chg_grown hg
  have hup : Up w0 W' := ((Chg.of_up (C := fun y => vm.ownBlock = some y) h.up).trans hc (fun _ _ e => e)).up (fun z hz e => by have := (h.om.lt z e).1; omega)
  refine ⟨h.log.chg hc (fun e => (h.am T e).1 (.inl rfl)) (fun k hk e => (h.am _ e).1 (.inr (.inr ⟨k, hk, .inl rfl⟩))), h.r.chg hc (fun e => (h.am G e).1 (.inr (.inl rfl))) (fun k hk e => (h.am _ e).1 (.inr (.inr ⟨k, hk, .inr rfl⟩))) (fun g hg e => (h.am g e).2 hg), ho, h.ow.chg hc (fun g hg e => h.mw g e hg), ?_, h.aw, ?_, hup⟩
  · intro g hg
    rcases hb with e | e
    · exact h.am g (by rw [← e]; exact hg)
    · rw [e] at hg; cases hg
      exact ⟨fun q => by have := h.r.old _ q; omega, fun q => by have := (h.r.og.lt _ q).2; omega⟩
  · intro g hg q
    rcases hb with e | e
    · exact h.mw g (by rw [← e]; exact hg) q
    · rw [e] at hg; cases hg
      have := (h.ow.lt _ q).2; omega
/-- want grows. -/
theorem PlS.appW {w0 : World} {T G : Nat} {l : List Bk} {xs : List Int} {vg : Value} {gs : List Int} {vm : Value} {ms : List Int} {vw : Value} {ws : List Int} {W W' : World} (h : PlS w0 T G l xs vg gs vm ms vw ws W) {v' : Value} {ws' : List Int} (ho : OwnL W' w0.heap.size v' ws') (hg : W.grownBy W' vw.ownBlock) (hb : v'.ownBlock = vw.ownBlock ∨ v'.ownBlock = some W.heap.size) : PlS w0 T G l xs vg gs vm ms v' ws' W' := by
  have hc := chg_grown hg
  have hup : Up w0 W' := ((Chg.of_up (C := fun y => vw.ownBlock = some y) h.up).trans hc (fun _ _ e => e)).up (fun z hz e => by have := (h.ow.lt z e).1; omega)
  refine ⟨h.log.chg hc (fun e => (h.aw T e).1 (.inl rfl)) (fun k hk e => (h.aw _ e).1 (.inr (.inr ⟨k, hk, .inl rfl⟩))), h.r.chg hc (fun e => (h.aw G e).1 (.inr (.inl rfl))) (fun k hk e => (h.aw _ e).1 (.inr (.inr ⟨k, hk, .inr rfl⟩))) (fun g hg e => (h.aw g e).2 hg), h.om.chg hc (fun g hg e => h.mw g hg e), ho, h.am, ?_, ?_, hup⟩
  · intro g hg
    rcases hb with e | e
    · exact h.aw g (by rw [← e]; exact hg)
    · rw [e] at hg; cases hg
      exact ⟨fun q => by have := h.r.old _ q; omega, fun q => by have := (h.r.og.lt _ q).2; omega⟩
  · intro g hg q
    rcases hb with e | e
    · exact h.mw g hg (by rw [← e]; exact q)
    · rw [e] at q; cases q
      have := (h.om.lt _ hg).2; omega
/-- The model is cut. -/
theorem PlS.cutM {w0 : World} {T G : Nat} {l : List Bk} {xs : List Int} {vg : Value} {gs : List Int} {a : Option Addr} {n cap : Nat} {ms : List Int} {vw : Value} {ws : List Int} {W : World} (h : PlS w0 T G l xs vg gs (.slice a n cap) ms vw ws W) {k : Nat} (hk : k ≤ ms.length) : PlS w0 T G l xs vg gs (.slice a k cap) (ms.take k) vw ws W :=
  have e : (Value.slice a k cap).ownBlock = (Value.slice a n cap).ownBlock := by cases a <;> rfl
  ⟨h.log, h.r, h.om.takeN hk, h.ow, fun g hg => h.am g (by rw [← e]; exact hg), h.aw, fun g hg => h.mw g (by rw [← e]; exact hg), h.up⟩

/-- Back. -/
theorem PlS.back {w0 : World} {T G : Nat} {l : List Bk} {xs : List Int} {vg : Value} {gs : List Int} {vm : Value} {ms : List Int} {vw : Value} {ws : List Int} {W : World} (h : PlS w0 T G l xs vg gs vm ms vw ws W) (m : Nat) (hm : m ≤ l.length) (hn : gs.length + l.length ≤ 100000) :
    Calls Try.prog 10 #[.pointer (some ⟨T, 0, none⟩), .int .i64 m] W fun e W' => e = .returned (.bool true) ∧ ∃ vg', PlS w0 T G (l.drop (l.length - m)) (xs.drop (l.length - m)) vg' (gs ++ xs.take (l.length - m)) vm ms vw ws W' := by
  refine (pl_back h.log h.r m hm hn).mono ?_
  rintro _ W' ⟨rfl, h1, vg', h2, h3, h4⟩
  have sub : ∀ k ∈ l.drop (l.length - m), k ∈ l := fun k hk => List.mem_of_mem_drop hk
  have side : ∀ (v : Value) (zs : List Int), OwnL W w0.heap.size v zs → (∀ g, v.ownBlock = some g → ¬ LB T G l g ∧ vg.ownBlock ≠ some g) → OwnL W' w0.heap.size v zs ∧ ∀ g, v.ownBlock = some g → ¬ LB T G (l.drop (l.length - m)) g ∧ vg'.ownBlock ≠ some g := by
    intro v zs ho ha
    refine ⟨ho.chg h3 (fun g hg e => ?_), fun g hg => ⟨fun e => (ha g hg).1 (e.sub sub), fun e => ?_⟩⟩
    · rcases e with e | e | e
      · exact (ha g hg).1 (.inl e)
      · exact (ha g hg).1 (.inr (.inl e))
      · exact (ha g hg).2 e
    · rcases h4 with q | ⟨n, q1, q2⟩
      · exact (ha g hg).2 (by rw [← q]; exact e)
      · rw [q2] at e; cases e
        have := (ho.lt _ hg).2; omega
  obtain ⟨m1, m2⟩ := side vm ms h.om h.am
  obtain ⟨w1, w2⟩ := side vw ws h.ow h.aw
  refine ⟨rfl, vg', h1, h2, m1, w1, m2, w2, h.mw, ?_⟩
  have hlow := h.r.low
  exact ((Chg.of_up (C := fun b => b = T ∨ b = G ∨ vg.ownBlock = some b) h.up).trans h3 (fun _ _ e => e)).up (fun z hz e => by
    rcases e with e | e | e
    · omega
    · omega
    · have := (h.r.og.lt z e).1; omega)
/-- Keep. -/
theorem PlS.keep {w0 : World} {T G : Nat} {l : List Bk} {xs : List Int} {vg : Value} {gs : List Int} {vm : Value} {ms : List Int} {vw : Value} {ws : List Int} {W : World} (h : PlS w0 T G l xs vg gs vm ms vw ws W) (m : Nat) (hm : m ≤ l.length) :
    Calls Try.prog 11 #[.pointer (some ⟨T, 0, none⟩), .int .i64 m] W fun e W' => e = .returned (.bool true) ∧ PlS w0 T G (l.drop (l.length - m)) (xs.drop (l.length - m)) vg gs vm ms vw ws W' := by
  refine (udKeep_ok T l m W h.log hm).mono ?_
  rintro _ W' ⟨rfl, h1, h2, -⟩
  have hlow := h.r.low
  have sub : ∀ k ∈ l.drop (l.length - m), k ∈ l := fun k hk => List.mem_of_mem_drop hk
  have hlen := h.r.len
  have hr : PlR w0.heap.size T G (l.drop (l.length - m)) (xs.drop (l.length - m)) vg gs W' := (h.r.turn h2).rest (p := l.take (l.length - m)) (zs := xs.take (l.length - m)) (List.take_append_drop _ _).symm (List.take_append_drop _ _).symm (by rw [List.length_take, List.length_take]; omega)
  exact ⟨rfl, h1, hr, h.om.chg h2 (fun g hg e => (h.am g hg).1 (.inl e)), h.ow.chg h2 (fun g hg e => (h.aw g hg).1 (.inl e)), fun g hg => ⟨fun e => (h.am g hg).1 (e.sub sub), (h.am g hg).2⟩, fun g hg => ⟨fun e => (h.aw g hg).1 (e.sub sub), (h.aw g hg).2⟩, h.mw, ((Chg.of_up (C := fun y => y = T) h.up).trans h2 (fun _ _ e => e)).up (fun z hz e => by omega)⟩

end Go.Proofs.Ytobalfckdknbdaa
