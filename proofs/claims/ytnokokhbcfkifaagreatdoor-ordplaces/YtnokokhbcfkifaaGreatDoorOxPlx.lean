/-
  OrdPlaces: each call as a step of what holds.
-/
import Derived.Test.YtnokokhbcfkifaaGreatDoorOxPlb
import Derived.Test.YtnokokhbcfkifaaGreatDoorOxAlm
namespace Go.Proofs.YtnokokhbcfkifaaGreatDoor
open Go.ChangeShapes Go.WideShapes Go.ChangeAt Go.RowKit
set_option linter.unusedVariables false
set_option maxRecDepth 100000

variable {mb mx nx X T B Be : Nat} {w wr wy : World} {va : Value} {L5 L : List EP} {A : List Int} {G H : List EP} {atv gov : Value} {N : Nat} {x : ET}
theorem pl_len (h : PlB mb mx nx X T B w va L5 L A G H atv gov N wr) : Calls Tryz.prog 25 #[.pointer (some ⟨X, 0, none⟩)] wr fun e w' => e = .returned (.int .i64 L.length) ∧ w' = wr := by
  obtain ⟨Y, hh, n, h1, _⟩ := h.ix
  have := olen_calls' X T hh n _ wr h1.x2 h1.tr.tr
  rwa [List.length_map] at this
theorem pl_erase (h : PlB mb mx nx X T B w va L5 L A G H atv gov N wr) {p : Nat} (hp : p < L.length) (hL : L.length ≤ 100000) (hN : N ≤ 9000000) :
    Calls Tryz.prog 20 #[.pointer (some ⟨X, 0, none⟩), .int .i64 p] wr fun e w' => e = .returned (.tuple #[encE L[p].1, .int .i64 0]) ∧ PlB mb mx nx X T B w va L5 (delL L p) A G (H ++ [L[p]]) atv gov (N + 19) w' := by
  obtain ⟨Y, hh, n, h1, h2, hr⟩ := h.ix
  refine (oeraseAt_ok Y _ 2 mx nx X T false L hh n 0 0 0 0 p wr h1 hp hL (by omega)).mono ?_
  rintro e w' ⟨hh', n', rfl, q1, q2, q3⟩
  refine ⟨rfl, ?_⟩
  obtain ⟨f1, f2, f3, f4, f5, f6, f7, f8⟩ := h.far
  have hcY : Chg (XT T Y) wr w' := q3.mono (fun y _ e => .inl e)
  obtain ⟨h3, h4, h5, h6, h7, h8⟩ := hr
  exact ⟨⟨Y, hh', n', q1, by omega, h3, h4, h5, fun d hd => by
    rcases List.mem_append.1 hd with hd | hd
    · exact (h6 d hd).chg hcY
    · rw [List.mem_singleton.1 hd]; exact (h1.ke _ (List.getElem_mem hp)).chg hcY, fun d hd => (h7 d hd).chg hcY, h8.chg hcY⟩, h.at_.chg q3 (fun g e e' => by have := (h.at_.lt g e).1; have e'' : g = T := e'; omega), h.go.chg q3 (fun g e e' => by have := (h.go.lt g e).1; have e'' : g = T := e'; omega), ((Chg.of_up (C := fun y => y = T) h.up).trans q3 (fun _ _ h => h)).up (fun x hx e => by have e'' : x = T := e; omega), f1, f2, f3, f4, f5, Nat.le_trans f6 q3.size, f7, f8⟩
theorem pl_insert (h : PlB mb mx nx X T B w va L5 L A G H atv gov N wr) {p : Nat} {d : EP} (hd : d ∈ H) (hp : p ≤ L.length) (hL : L.length ≤ 100000) (hN : N ≤ 9000000) :
    Calls Tryz.prog 21 #[.pointer (some ⟨X, 0, none⟩), .int .i64 p, .agg #[.slice d.1.a d.1.n d.1.c, .int .i64 d.1.id]] wr fun e w' => e = .returned (.int .i64 0) ∧ ∃ L', L'.map idv = insL (idv d) (L.map idv) p ∧ PlB mb mx nx X T B w va L5 L' A G H atv gov (N + 19) w' ∧ Chg (fun y => y = T) wr w' := by
  obtain ⟨Y, hh, n, h1, h2, h3, h4, h5, h6, h7, h8⟩ := h.ix
  refine (oinsertAt_ok Y _ 2 mx nx X T false L hh n 0 0 0 0 p d.1.a d.1.n d.1.c d.2 d.1.id wr h1 (h6 d hd).k hp hL (by omega)).mono ?_
  rintro e w' ⟨hh', n', y, rfl, q1, q2, q3, q4, q5⟩
  obtain ⟨f1, f2, f3, f4, f5, f6, f7, f8⟩ := h.far
  have hcY : Chg (XT T Y) wr w' := q5.mono (fun y _ e => .inl e)
  refine ⟨rfl, _, ?_, ⟨⟨Y, hh', n', q1, by omega, h3, h4, h5, fun d hd => (h6 d hd).chg hcY, fun d hd => (h7 d hd).chg hcY, h8.chg hcY⟩, h.at_.chg q5 (fun g e e' => by have := (h.at_.lt g e).1; have e'' : g = T := e'; omega), h.go.chg q5 (fun g e e' => by have := (h.go.lt g e).1; have e'' : g = T := e'; omega), ((Chg.of_up (C := fun y => y = T) h.up).trans q5 (fun _ _ h => h)).up (fun x hx e => by have e'' : x = T := e; omega), f1, f2, f3, f4, f5, Nat.le_trans f6 q5.size, f7, f8⟩, q5⟩
  rw [insL_idv]
  unfold idv
  simp only [q2]
theorem pl_place (h : PlB mb mx nx X T B w va L5 L A G H atv gov N wr) {id : Int} (hid : ∀ d ∈ L.map idv, d.1 ≠ id) (hL : L.length ≤ 100000) :
    Calls Tryz.prog 29 #[.pointer (some ⟨X, 0, none⟩), .int .i64 id] wr fun e w' => e = .returned (.tuple #[.int .i64 0, .bool false]) ∧ Up wr w' := by
  obtain ⟨Y, hh, n, h1, _⟩ := h.ix
  refine place_no X T hh n _ id wr h1.x2 h1.tr.tr (by simpa using hL) (fun i hi => ?_)
  rw [List.length_map] at hi
  have e : (L.map (·.1)).getD i zeroET = L[i].1 := by rw [List.getD_eq_getElem?_getD, List.getElem?_map, List.getElem?_eq_getElem hi]; rfl
  rw [e]
  exact hid (idv L[i]) (List.mem_map.2 ⟨_, List.getElem_mem hi, rfl⟩)
theorem pl_len_not (h : PlB mb mx nx X T B w va L5 L A G H atv gov N wr) (j : Int) (hj : j < 0 ∨ (L.length : Int) ≤ j) : Calls Tryz.prog 20 #[.pointer (some ⟨X, 0, none⟩), .int .i64 j] wr fun e w' => e = .returned (.tuple #[encE zeroET, .int .i64 73]) ∧ Up wr w' := by
  obtain ⟨Y, hh, n, h1, _⟩ := h.ix
  exact oeraseAt_not X T hh n _ j wr h1.x2 h1.tr.tr (by simpa using hj)
theorem pl_ins_not (h : PlB mb mx nx X T B w va L5 L A G H atv gov N wr) (hL : L.length ≤ 100000) : Calls Tryz.prog 21 #[.pointer (some ⟨X, 0, none⟩), .int .i64 (-1), .agg #[.slice none 0 0, .int .i64 0]] wr fun e w' => e = .returned (.int .i64 73) ∧ Up wr w' := by
  obtain ⟨Y, hh, n, h1, _⟩ := h.ix
  exact oinsertAt_not X T hh n _ (-1) none 0 0 [] 0 wr h1.x2 h1.tr.tr ⟨by decide, ⟨rfl, fun i => by simpa using fits_zero, .inl rfl⟩, fun i => by simp [zeroT]⟩ (.inl (by decide)) (by simpa using hL)
theorem pl_all (h : PlB mb mx nx X T B w va L5 L A G H atv gov N wr) (hL : L.length ≤ 100000) : Calls Tryz.prog 27 #[.pointer (some ⟨X, 0, none⟩)] wr fun e w' => AllOk L wr e w' := by
  obtain ⟨Y, hh, n, h1, _⟩ := h.ix
  exact all_calls (XT T Y) X T hh n L wr h1.x2 h1.tr.tr h1.ke hL
theorem PlB.meter (h : PlB mb mx nx X T B w va L5 L A G H atv gov N wr) : wr.cell? ⟨mb, 0, none⟩ = some (.int .i64 0) := by
  obtain ⟨Y, hh, n, h1, _⟩ := h.ix
  exact ((h1.cw.met _ rfl).2).1.1
theorem PlB.was (h : PlB mb mx nx X T B w va L5 L A G H atv gov N wr) : RdV eC (fun _ => False) wr va (L5.map (·.1)) ∧ ∀ p ∈ L5, KeyK wr p.1.a p.1.n p.2 := by
  obtain ⟨Y, hh, n, h1, h2, h3, h4, h5, h6, h7, h8⟩ := h.ix
  exact ⟨h8.mono (fun y _ e => e.elim), fun p hp => (h7 p hp).k⟩
/-- Beside a box that holds an entry. -/
structure PlX (mb mx nx X T B Be : Nat) (w : World) (va : Value) (L5 L : List EP) (A : List Int) (G H : List EP) (atv gov : Value) (N : Nat) (x : ET) (wr : World) : Prop where
  b : PlB mb mx nx X T B w va L5 L A G H atv gov N wr
  c0 : wr.cell? ⟨Be, 0, none⟩ = some (.slice x.a x.n x.c)
  c1 : wr.cell? ⟨Be, 1, none⟩ = some (.int .i64 x.id)
  n1 : ∀ g, atv.ownBlock = some g → g ≠ Be
  n2 : ∀ g, gov.ownBlock = some g → g ≠ Be
theorem PlX.upw (h : PlX mb mx nx X T B Be w va L5 L A G H atv gov N x wr) (hu : Up wr wy) : PlX mb mx nx X T B Be w va L5 L A G H atv gov N x wy :=
  ⟨h.b.upw hu, hu.cell h.c0, hu.cell h.c1, h.n1, h.n2⟩
theorem PlX.at_grow (h : PlX mb mx nx X T B Be w va L5 L A G H atv gov N x wr) {v' : Value} {A' : List Int} (ho : Own 3 (Value.int .i64) wy B v' A') (hg : wr.grownBy wy atv.ownBlock) (hb : v'.ownBlock = atv.ownBlock ∨ v'.ownBlock = some wr.heap.size) : PlX mb mx nx X T B Be w va L5 L A' G H v' gov N x wy := by
  have hl : Be < wr.heap.size := World.block_lt_of_cell? wr _ h.c0
  refine ⟨h.b.at_grow ho hg hb, (grown_chgR hg).cell (p := ⟨Be, 0, none⟩) h.c0 (fun e => h.n1 _ e rfl), (grown_chgR hg).cell (p := ⟨Be, 1, none⟩) h.c1 (fun e => h.n1 _ e rfl), fun g e => ?_, h.n2⟩
  rcases hb with e1 | e1
  · exact h.n1 g (by rw [← e1]; exact e)
  · rw [e1] at e; cases e; omega
theorem PlX.go_grow (h : PlX mb mx nx X T B Be w va L5 L A G H atv gov N x wr) {v' : Value} {G' : List EP} (ho : OwnV 51 eC wy B v' (G'.map (·.1))) (hg : wr.grownBy wy gov.ownBlock) (hb : v'.ownBlock = gov.ownBlock ∨ v'.ownBlock = some wr.heap.size) : PlX mb mx nx X T B Be w va L5 L A G' H atv v' N x wy := by
  have hl : Be < wr.heap.size := World.block_lt_of_cell? wr _ h.c0
  refine ⟨h.b.go_grow ho hg hb, (grown_chgR hg).cell (p := ⟨Be, 0, none⟩) h.c0 (fun e => h.n2 _ e rfl), (grown_chgR hg).cell (p := ⟨Be, 1, none⟩) h.c1 (fun e => h.n2 _ e rfl), h.n1, fun g e => ?_⟩
  rcases hb with e1 | e1
  · exact h.n2 g (by rw [← e1]; exact e)
  · rw [e1] at e; cases e; omega
end Go.Proofs.YtnokokhbcfkifaaGreatDoor
