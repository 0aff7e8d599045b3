/-
  A row that grows beside an index; entries that are taken out and put back: plain things.
-/
import Derived.Test.YtnokokhbcfkifaaGreatDoorOxPlc
import Derived.Test.YtnokokhbcfkifaaGreatDoorOxPla
import Derived.Test.YtnokokhbcfkifaaGreatDoorOxEnt
import Derived.Test.YtnokokhbcfkifaaGreatDoorOxRnw
namespace Go.Proofs.YtnokokhbcfkifaaGreatDoor
open Go.ChangeShapes Go.WideShapes Go.ChangeAt Go.RowKit
set_option linter.unusedVariables false
set_option maxRecDepth 100000

theorem grown_chgR {w w' : World} {row : Option Nat} (hg : w.grownBy w' row) : Chg (fun y => row = some y) w w' := ⟨⟨hg.os, hg.tape, hg.output, hg.size, fun k hk => absurd hk (Nat.not_lt_zero _)⟩, fun x hx hn => hg.block x hx (fun e => hn e.symm)⟩
theorem IxW.grow {Y : Nat → Prop} {mp : Option Addr} {q mx nx X T : Nat} {u : Bool} {L : List EP} {hh n : Nat} {c t h s : Int} {w w' : World} (i : IxW Y mp q mx nx X T u L hh n c t h s w) {row : Option Nat} (hg : w.grownBy w' row) (hr : ∀ g, row = some g → Y g ∧ ¬ InM mp g ∧ g ≠ mx ∧ g ≠ nx ∧ g ≠ 0) :
    IxW (fun y => Y y ∨ (w.heap.size ≤ y ∧ y < w'.heap.size)) mp q mx nx X T u L hh n c t h s w' := by
  have hc := grown_chgR hg
  have hXl : X < w.heap.size := World.block_lt_of_cell? w _ i.x0
  have hTl : T < w.heap.size := i.tr.tr.lt
  have j := i.other hc (fun y hy => (hr y hy).1) (fun g hm e => (hr g e).2.1 hm) (fun e => (hr _ e).2.2.1 rfl) (fun e => (hr _ e).2.2.2.1 rfl) (fun e => (hr _ e).2.2.2.2 rfl)
  obtain ⟨b, h1, sz, h2, h3⟩ := i.tr
  have t2 : TrM (fun y => Y y ∨ (w.heap.size ≤ y ∧ y < w'.heap.size)) w T (L.map (·.1)) hh n := ⟨b, h1, sz, h2.mono (fun y hy e => by
    rcases e with e | e | e
    · exact .inl e
    · exact .inr e
    · omega), h3⟩
  have aT2 : ¬ (Y T ∨ (w.heap.size ≤ T ∧ T < w'.heap.size)) := fun e => by
    rcases e with e | e
    · exact i.aT e
    · omega
  refine ⟨j.x0, j.x1, j.x2, j.cw, t2.chg (hc.mono (fun y _ e => .inl (hr y e).1)) aT2, fun p hp => ⟨(j.ke p hp).k, fun g hg' e => ?_, (j.ke p hp).lt, (j.ke p hp).cap, (j.ke p hp).top⟩, fun e => ?_, aT2, i.am, i.an, i.ae, i.q2, fun g hg' => .inl (i.yM g hg'), fun g hg' => ?_⟩
  · rcases e with e | e | e
    · exact (i.ke p hp).far g hg' (.inl e)
    · exact (i.ke p hp).far g hg' (.inr e)
    · have := (i.ke p hp).lt g hg'; omega
  · rcases e with e | e | e
    · exact i.aX (.inl e)
    · exact i.aX (.inr e)
    · omega
  · rcases hg' with hg' | hg'
    · exact j.yl g hg'
    · exact hg'.2
abbrev IV := Int × List VT
/-- What was taken out, the last one first. -/
def GoneR (I0 : List IV) : List (Nat × IV) → List IV → Prop
  | [], I => I = I0
  | (p, e) :: P, I => ∃ I', GoneR I0 P I' ∧ I'[p]? = some e ∧ I = delL I' p
theorem ins_del {I : List IV} {p : Nat} {e : IV} (h : I[p]? = some e) : insL e (delL I p) p = I := by
  obtain ⟨hp, he⟩ := List.getElem?_eq_some_iff.1 h
  unfold insL delL
  have e1 : (I.take p).length = p := by rw [List.length_take]; omega
  rw [List.take_append_of_le_length (by omega), List.take_of_length_le (by omega), List.drop_append_of_le_length (by omega), List.drop_eq_nil_of_le (by omega), List.nil_append, ← he]
  conv => rhs; rw [← List.take_append_drop p I, List.drop_eq_getElem_cons hp]
theorem delL_idv (L : List EP) (r : Nat) : (delL L r).map idv = delL (L.map idv) r := by
  unfold delL
  rw [List.map_append, List.map_take, List.map_drop]
theorem insL_idv (x : EP) (L : List EP) (r : Nat) : (insL x L r).map idv = insL (idv x) (L.map idv) r := by
  unfold insL
  simp [List.map_append, List.map_take, List.map_drop]
theorem gone_sub {I0 : List IV} : ∀ {P : List (Nat × IV)} {I : List IV}, GoneR I0 P I → I.Sublist I0
  | [], I, h => by rw [show I = I0 from h]; exact List.Sublist.refl _
  | (p, e) :: P, I, h => by
    obtain ⟨I', h1, h2, rfl⟩ := h
    refine List.Sublist.trans ?_ (gone_sub h1)
    unfold delL
    conv => rhs; rw [← List.take_append_drop p I']
    refine List.Sublist.append (List.Sublist.refl _) ?_
    rw [← List.drop_drop]
    exact List.drop_sublist ..
theorem gone_len {I0 : List IV} : ∀ {P : List (Nat × IV)} {I : List IV}, GoneR I0 P I → I.length + P.length = I0.length
  | [], I, h => by rw [show I = I0 from h]; rfl
  | (p, e) :: P, I, h => by
    obtain ⟨I', h1, h2, rfl⟩ := h
    have := gone_len h1
    have hp := (List.getElem?_eq_some_iff.1 h2).1
    unfold delL
    simp
    omega
/-- Its number is gone with it. -/
theorem gone_id {I : List IV} {p : Nat} {e : IV} (h : I[p]? = some e) (hn : (I.map (·.1)).Nodup) : ∀ d ∈ delL I p, d.1 ≠ e.1 := by
  obtain ⟨hp, he⟩ := List.getElem?_eq_some_iff.1 h
  have e1 : I = I.take p ++ e :: I.drop (p + 1) := by
    conv => lhs; rw [← List.take_append_drop p I, List.drop_eq_getElem_cons hp, he]
  rw [e1, List.map_append, List.map_cons, List.nodup_append] at hn
  obtain ⟨n1, n2, n3⟩ := hn
  rw [List.nodup_cons] at n2
  intro d hd hde
  unfold delL at hd
  rcases List.mem_append.1 hd with hd | hd
  · exact n3 d.1 (List.mem_map.2 ⟨d, hd, rfl⟩) e.1 (List.mem_cons_self ..) hde
  · exact n2.1 (by rw [← hde]; exact List.mem_map.2 ⟨d, hd, rfl⟩)
/-- The last of what was taken out, as the rows have it. -/
theorem rows_last {P P' S : List (Nat × IV)} {p : Nat} {e : IV} {G : List EP} (h : P = S ++ (p, e) :: P') (hG : G.map idv = P.reverse.map (·.2)) : (P.reverse.map (fun p => (p.1 : Int)))[P'.length]? = some (p : Int) ∧ ∃ d, G[P'.length]? = some d ∧ idv d = e := by
  have h1 : P.reverse[P'.length]? = some (p, e) := by
    rw [h, List.reverse_append, List.reverse_cons, List.append_assoc, List.getElem?_append_right (by simp)]
    simp
  refine ⟨by rw [List.getElem?_map, h1]; rfl, ?_⟩
  have h2 : (G.map idv)[P'.length]? = some e := by rw [hG, List.getElem?_map, h1]; rfl
  rw [List.getElem?_map] at h2
  cases hd : G[P'.length]? with
  | none => rw [hd] at h2; cases h2
  | some d => rw [hd] at h2; exact ⟨d, rfl, by injection h2⟩
/-- The numbers of a row that came in are each there once. -/
theorem RkL.ids {l : List Int} {i : Nat} {L : List EP} (r : RkL l i L) : ((L.map idv).map (·.1)).Nodup := by
  have e : (L.map idv).map (·.1) = (L.map vOf).map (·.2) := by rw [List.map_map, List.map_map]; rfl
  rw [e, (r.prm.map (·.2)).nodup_iff]
  unfold dOf
  rw [List.map_map, List.nodup_iff_pairwise_ne, List.pairwise_map]
  exact List.pairwise_lt_range.imp (fun h => by simp only [Function.comp]; omega)
end Go.Proofs.YtnokokhbcfkifaaGreatDoor
