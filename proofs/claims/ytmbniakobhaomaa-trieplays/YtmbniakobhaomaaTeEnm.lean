/-
  Entries that a trie tells, and the bytes of the way down, as they lie in memory. No function of the program.
-/
import Derived.Test.YtmbniakobhaomaaTeEnp
import Derived.Test.YtmbniakobhaomaaBytes
import Derived.Deep.AppendSrc
import Derived.Laws.IdiomCopy
import Derived.Lib.ConvBytes
import Derived.Maps.AppendAt
namespace Go.Proofs.Ytmbniakobhaomaa
open Go.RowKit
set_option linter.unusedVariables false
set_option maxRecDepth 100000

abbrev tByte : TypeId := 5
abbrev tEntry : TypeId := 33
abbrev tValue : TypeId := 74
/-- Of what a block's cells are. -/
def bty (w : World) (b : Nat) : Option TypeId := match w.heap[b]? with | some (.cells _ t _) => some t | _ => none
theorem bty_lt {w : World} {b : Nat} {t : TypeId} (h : bty w b = some t) : b < w.heap.size := by
  unfold bty at h
  cases e : w.heap[b]? with
  | none => rw [e] at h; cases h
  | some o => exact lt_of_heap e
theorem bty_kd {w : World} {b : Nat} {t : TypeId} (h : bty w b = some t) : kd w b = if t = tNode then 1 else if t = 2 then 2 else if t = tTrie then 4 else 5 := by
  unfold bty at h
  unfold kd
  split at h
  · cases h; rename_i e; rw [e]
  · cases h
theorem bty_ne {w : World} {a b : Nat} {s t : TypeId} (ha : bty w a = some s) (hb : bty w b = some t) (h : s ≠ t) : a ≠ b := fun e => h (by rw [e, hb] at ha; cases ha; rfl)
theorem bty_setCell (w : World) (a : Addr) (v : Value) (b : Nat) : bty (w.setCell a v) b = bty w b := by
  unfold bty World.setCell
  simp only [Array.getElem?_modify]
  by_cases e : a.block = b
  · rw [if_pos e]
    cases w.heap[b]? with
    | none => rfl
    | some o => cases o <;> rfl
  · rw [if_neg e]
theorem bty_setCells (g : Nat) : ∀ (vs : List Value) (o : Nat) (w : World) (b : Nat), bty (w.setCells g o vs) b = bty w b
  | [], _, _, _ => rfl
  | v :: r, o, w, b => by rw [World.setCells, bty_setCells g r, bty_setCell]
theorem bty_chg {C : Nat → Prop} {w w' : World} (hc : Chg C w w') {b : Nat} {t : TypeId} (h : bty w b = some t) (hn : ¬ C b) : bty w' b = some t := by
  unfold bty at h ⊢
  rw [hc.2 b (bty_lt h) hn]
  exact h
theorem chg_setCells (g : Nat) : ∀ (vs : List Value) (o : Nat) (w : World), Chg (fun y => y = g) w (w.setCells g o vs)
  | [], _, w => Chg.refl _ w
  | v :: r, o, w => by
    rw [World.setCells]
    exact (chg_set w ⟨g, o, none⟩ v).trans (chg_setCells g r (o + 1) _) (fun _ _ h => h)

/-- The bytes of the way down: they may be written behind. -/
def PathAt (w : World) (v : Value) (s : List UInt8) : Prop :=
  ∃ g cap, v = .slice (some ⟨g, 0, none⟩) s.length cap ∧ s.length ≤ cap ∧ cap ≤ maxLen ∧ bty w g = some tByte ∧ (∀ j u, (bcells s)[j]? = some u → w.cell? ⟨g, j, none⟩ = some u) ∧ ∀ j, j < cap → (w.cell? ⟨g, j, none⟩).isSome = true ∧ w.frozen? ⟨g, j, none⟩ = false
theorem PathAt.chg {C : Nat → Prop} {w w' : World} {v : Value} {s : List UInt8} (h : PathAt w v s) (hc : Chg C w w') (hC : ∀ b, v.ownBlock = some b → ¬ C b) : PathAt w' v s := by
  obtain ⟨g, cap, rfl, h1, h2, h3, h4, h5⟩ := h
  have hg := hC g rfl
  refine ⟨g, cap, rfl, h1, h2, bty_chg hc h3 hg, fun j u hj => hc.cell (h4 j u hj) hg, fun j hj => ?_⟩
  obtain ⟨u, hu⟩ := Option.isSome_iff_exists.1 (h5 j hj).1
  exact ⟨by rw [hc.cell hu hg]; rfl, (hc.frozen (p := ⟨g, j, none⟩) (bty_lt h3) hg).trans (h5 j hj).2⟩
theorem PathAt.bt {w : World} {v : Value} {s : List UInt8} (h : PathAt w v s) {b : Nat} (hb : v.ownBlock = some b) : bty w b = some tByte := by
  obtain ⟨g, cap, rfl, h1, h2, h3, _⟩ := h
  cases hb
  exact h3
/-- A longer way within the same block. -/
theorem PathAt.short {w : World} {g cap : Nat} {s t : List UInt8} (h : PathAt w (.slice (some ⟨g, 0, none⟩) (s ++ t).length cap) (s ++ t)) : PathAt w (.slice (some ⟨g, 0, none⟩) s.length cap) s := by
  obtain ⟨g', cap', e, h1, h2, h3, h4, h5⟩ := h
  cases e
  refine ⟨g, cap, rfl, by rw [List.length_append] at h1; omega, h2, h3, fun j u hj => h4 j u ?_, h5⟩
  rw [bcells_append, List.getElem?_append_left]
  · exact hj
  · rcases Nat.lt_or_ge j (bcells s).length with h | h
    · exact h
    · rw [List.getElem?_eq_none h] at hj; cases hj
theorem PathAt.bts {w : World} {v : Value} {s : List UInt8} (h : PathAt w v s) : ∃ g cap, v = .slice (some ⟨g, 0, none⟩) s.length cap ∧ Bts w (some ⟨g, 0, none⟩) s.length s := by
  obtain ⟨g, cap, rfl, h1, h2, h3, h4, h5⟩ := h
  refine ⟨g, cap, rfl, rfl, ?_⟩
  by_cases h0 : s.length = 0
  · exact .inl h0
  · refine .inr ⟨g, 0, rfl, fun i hi => ?_⟩
    rw [Nat.zero_add]
    refine h4 i _ ?_
    rw [bcells_get, List.getElem?_eq_getElem hi, List.getD_eq_getElem?_getD, List.getElem?_eq_getElem hi]
    rfl
/-- append(path, label...). -/
theorem append_path {w : World} {v : Value} {s : List UInt8} (h : PathAt w v s) (t : ByteArray) (hl : s.length + t.size ≤ 1000000) (ty : TypeId) :
    ∃ v' w', (Builtin.append_ #[52, 9] ty #[v, .string t]).run Try.prog w = .ok v' w' ∧ PathAt w' v' (s ++ t.data.toList) ∧ Chg (fun y => v.ownBlock = some y) w w' ∧
      ((∃ g cap, v = .slice (some ⟨g, 0, none⟩) s.length cap ∧ v' = .slice (some ⟨g, 0, none⟩) (s ++ t.data.toList).length cap) ∨ (v'.ownBlock = some w.heap.size ∧ Up w w')) := by
  obtain ⟨g, cap, rfl, h1, h2, h3, h4, h5⟩ := h
  obtain ⟨i0, hi, hz0, hz1, hz2⟩ := info_parts info_byte
  have hlen : t.data.toList.length = t.size := Array.length_toList
  have hsrc := Src.ofString (P := Try.prog) w (tx := 9) Try.underlying9 t
  have hbc : byteCells t = bcells t.data.toList := rfl
  have hbl : (byteCells t).length = t.size := by rw [hbc, bcells_length, hlen]
  by_cases hr : s.length + t.size ≤ cap
  · have hrun := run_append_room_src (P := Try.prog) w 52 9 ty 5 i0 Try.underlying52 hi g 0 s.length cap (.string t) t.size (byteCells t) (by rw [hz1]; exact hsrc) hr (fun j hj => by rw [hz1, Nat.mul_one, Nat.zero_add]; exact (h5 _ (by omega)).1) (fun j hj => by rw [hz1, Nat.mul_one, Nat.zero_add]; exact (h5 _ (by omega)).2)
    rw [hz1, Nat.mul_one, Nat.zero_add] at hrun
    refine ⟨_, _, hrun, ⟨g, cap, by rw [List.length_append, hlen], by rw [List.length_append, hlen]; exact hr, h2, by rw [bty_setCells]; exact h3, fun j u hj => ?_, fun j hj => ⟨?_, by rw [World.frozen?_setCells]; exact (h5 j hj).2⟩⟩, (chg_setCells g _ _ w).mono (fun y _ (e : y = g) => by rw [e]; rfl), .inl ⟨g, cap, rfl, by rw [List.length_append, hlen]⟩⟩
    · rw [bcells_append, ← hbc] at hj
      by_cases hjs : j < s.length
      · rw [World.cell?_setCells_out g _ _ _ _ (fun _ _ => .inl hjs)]
        rw [List.getElem?_append_left (by rw [bcells_length]; exact hjs)] at hj
        exact h4 j u hj
      · rw [List.getElem?_append_right (by rw [bcells_length]; omega), bcells_length] at hj
        have hjl : j - s.length < (byteCells t).length := by
          rcases Nat.lt_or_ge (j - s.length) (byteCells t).length with h | h
          · exact h
          · rw [List.getElem?_eq_none h] at hj; cases hj
        have := World.cell?_setCells_in g (byteCells t) s.length w (fun i hi => (h5 _ (by omega)).1) (j - s.length) hjl
        rw [show s.length + (j - s.length) = j by omega] at this
        rw [this]
        rw [List.getElem?_eq_getElem hjl] at hj
        exact hj
    · by_cases hjs : j < s.length ∨ s.length + (byteCells t).length ≤ j
      · rw [World.cell?_setCells_out g _ _ _ _ (fun _ _ => hjs)]
        exact (h5 j hj).1
      · have hjl : j - s.length < (byteCells t).length := by omega
        have := World.cell?_setCells_in g (byteCells t) s.length w (fun i hi => (h5 _ (by omega)).1) (j - s.length) hjl
        rw [show s.length + (j - s.length) = j by omega] at this
        rw [this]; rfl
  · have hold : (Builtin.firstCells i0.size s.length (.slice (some ⟨g, 0, none⟩) s.length cap)).run Try.prog w.drew = .ok (bcells s).toArray w.drew := by
      rw [hz1]
      refine run_firstCells_some w.drew 1 s.length ⟨g, 0, none⟩ s.length cap (bcells s) (by rw [bcells_length, Nat.mul_one]) (fun j u hj => ?_)
      rw [Addr.add_lit, Nat.zero_add]
      exact h4 j u hj
    have hfit : Builtin.nextslicecap (s.length + t.size) cap * i0.bytes ≤ 281474976710656 := by rw [hz2]; exact growslice_fits (by omega) (by omega)
    have hrun := run_append_grow_src (P := Try.prog) w 52 9 ty 5 i0 _ Try.underlying52 hi hz0 (some ⟨g, 0, none⟩) s.length cap (bcells s) hold (.string t) t.size (byteCells t) (by rw [hz1]; exact hsrc) (by omega) (by omega) hfit
    have hge := grownCap_ge w (s.length + t.size) cap 5
    have hle := grownCap_le_maxLen w (s.length + t.size) cap 5 (by unfold maxLen; omega)
    obtain ⟨G, hG⟩ : ∃ G, G = grownCap w (s.length + t.size) cap 5 := ⟨_, rfl⟩
    rw [← hG] at hrun hge hle
    obtain ⟨R, hR⟩ : ∃ R : Array Value, R = (bcells s ++ byteCells t).toArray ++ Builtin.zeroCells (Value.int .u8 0).cells (G - (s.length + t.size)) := ⟨_, rfl⟩
    rw [← hR] at hrun
    have hRs : R.size = G := by rw [hR]; simp [Builtin.zeroCells, Value.cells, bcells_length, hbl]; omega
    have hb1 : (w.drew.alloc (.cells R 5)).heap[w.heap.size]? = some (.cells R 5 (0, 0)) := heap_alloc_new w.drew _
    have hup : Up w (w.drew.alloc (.cells R 5)) := (Up.refl w).drew.alloc _
    refine ⟨_, _, hrun, ⟨w.heap.size, G, by rw [List.length_append, hlen], by rw [List.length_append, hlen]; exact hge, hle, by unfold bty; rw [hb1], fun j u hj => ?_, fun j hj => ⟨?_, by simp only [World.frozen?, hb1]; simp⟩⟩, Chg.of_up hup, .inr ⟨rfl, hup⟩⟩
    · rw [cell_of hb1, hR, ← Array.getElem?_toList, Array.toList_append, List.getElem?_append_left]
      · rw [← hj, bcells_append]; rfl
      · rcases Nat.lt_or_ge j (bcells (s ++ t.data.toList)).length with h | h
        · rw [bcells_append] at h; exact h
        · rw [List.getElem?_eq_none h] at hj; cases hj
    · rw [cell_of hb1, Array.getElem?_eq_getElem (by omega)]; rfl
/-- []byte(s). -/
theorem conv_path (w : World) (s : ByteArray) (hs : s.size ≤ 1000000) : ∃ v w', (convert 9 52 (.string s)).run Try.prog w = .ok v w' ∧ PathAt w' v s.data.toList ∧ Up w w' ∧ v.ownBlock = some w.heap.size := by
  have hrun := Go.Lib.run_convert_string_bytes (P := Try.prog) w 9 52 5 s Try.underlying9 Try.underlying52 Try.underlying5
  have hlen : s.data.toList.length = s.size := Array.length_toList
  have hge := grownCap_ge w s.size 0 5
  have hle := grownCap_le_maxLen w s.size 0 5 (by unfold maxLen; omega)
  have hcs : (Go.Lib.bytesCells w 5 s).size = grownCap w s.size 0 5 := by
    unfold Go.Lib.bytesCells
    rw [Array.size_append, Array.size_map, Array.size_replicate]
    have : s.data.size = s.size := rfl
    omega
  have h0 : (w.drew.alloc (.cells (Go.Lib.bytesCells w 5 s) 5)).heap[w.heap.size]? = some (.cells (Go.Lib.bytesCells w 5 s) 5 (0, 0)) := heap_alloc_new w.drew _
  have hb : (Go.Lib.bytesWorld w 5 s).heap[w.heap.size]? = some (.cells (Go.Lib.bytesCells w 5 s) 5 ((Go.Lib.bytesCells w 5 s).size, (Go.Lib.bytesCells w 5 s).size + 1)) := by
    unfold Go.Lib.bytesWorld World.freeze
    rw [if_neg (by decide)]
    simp only [Array.getElem?_modify, h0]
    simp
  have hup : Up w (Go.Lib.bytesWorld w 5 s) := by
    have h1 : Up w (w.drew.alloc (.cells (Go.Lib.bytesCells w 5 s) 5)) := (Up.refl w).drew.alloc _
    unfold Go.Lib.bytesWorld World.freeze
    rw [if_neg (by decide)]
    refine ⟨h1.os, h1.tape, h1.output, by simp, fun k hk => ?_⟩
    have h2 := h1.block k hk
    show (Array.modify _ _ _)[k]? = _
    rw [Array.getElem?_modify, if_neg (by simp only; omega)]
    exact h2
  refine ⟨_, _, hrun, ⟨w.heap.size, _, by rw [hlen], by rw [hlen]; exact hge, hle, by unfold bty; rw [hb], fun j u hj => ?_, fun j hj => ⟨?_, ?_⟩⟩, hup, rfl⟩
  · rw [cell_of hb]
    unfold Go.Lib.bytesCells
    have hjl : j < s.data.size := by
      rcases Nat.lt_or_ge j (bcells s.data.toList).length with h | h
      · rw [bcells_length] at h; simpa using h
      · rw [List.getElem?_eq_none h] at hj; cases hj
    rw [Array.getElem?_append_left (by simpa using hjl), Array.getElem?_map, Array.getElem?_eq_getElem hjl]
    rw [bcells_get, Array.getElem?_toList, Array.getElem?_eq_getElem hjl] at hj
    exact hj
  · rw [cell_of hb, Array.getElem?_eq_getElem (by omega)]; rfl
  · simp only [World.frozen?, hb]
    rw [hcs]
    simp only [Bool.and_eq_false_imp, decide_eq_true_eq]
    omega

end Go.Proofs.Ytmbniakobhaomaa
