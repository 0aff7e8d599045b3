/-
  TrieBytes: each string with its place, from 1; what a trie tells of them.
-/
import Derived.Test.YtmbniakobhaomaaTeGop
import Derived.Test.YtmbniakobhaomaaBySrG
namespace Go.Proofs.Ytmbniakobhaomaa
open Go.ChangeShapes Go.WideShapes Go.ChangeAt Go.RowKit
set_option linter.unusedVariables false
set_option maxRecDepth 100000

/-- The first i strings of a row, each with its place, from 1. -/
def zB (l : List ByteArray) (i : Nat) : SZ := (List.range i).map (fun j => (l.getD j ByteArray.empty, ((j + 1 : Nat) : Int)))
theorem zB_0 (l : List ByteArray) : zB l 0 = [] := rfl
theorem zB_s (l : List ByteArray) {i : Nat} (hi : i < l.length) : zB l (i + 1) = zB l i ++ [(l[i], ((i + 1 : Nat) : Int))] := by
  unfold zB
  rw [List.range_succ, List.map_append]
  congr 1
  simp [List.getD_eq_getElem?_getD, List.getElem?_eq_getElem hi]
theorem zB_len (l : List ByteArray) (i : Nat) : (zB l i).length = i := by simp [zB]
theorem zB_2 (l : List ByteArray) (i : Nat) : (zB l i).map (·.2) = (List.range i).map (fun j : Nat => ((j + 1 : Nat) : Int)) := by simp [zB, Function.comp_def]
theorem zB_lt (l : List ByteArray) (i : Nat) : ∀ y ∈ (zB l i).map (·.2), y < ((i + 1 : Nat) : Int) := by
  rw [zB_2]
  intro y hy
  obtain ⟨j, hj, rfl⟩ := List.mem_map.1 hy
  have := List.mem_range.1 hj
  omega
theorem zB_rise (l : List ByteArray) (i : Nat) : GRise (zB l i) := by
  unfold GRise
  rw [zB_2, List.pairwise_map]
  exact List.pairwise_lt_range.imp (fun h => by omega)
theorem zB_mem {l : List ByteArray} {p : ByteArray × Int} : p ∈ zB l l.length ↔ ∃ j, ∃ h : j < l.length, p = (l[j], ((j + 1 : Nat) : Int)) := by
  unfold zB
  rw [List.mem_map]
  constructor
  · rintro ⟨j, hj, rfl⟩
    have h := List.mem_range.1 hj
    exact ⟨j, h, by simp [List.getD_eq_getElem?_getD, List.getElem?_eq_getElem h]⟩
  · rintro ⟨j, h, rfl⟩
    exact ⟨j, List.mem_range.2 h, by simp [List.getD_eq_getElem?_getD, List.getElem?_eq_getElem h]⟩
theorem gE_iff {z : SZ} {s : List UInt8} {x : Int} : x ∈ gE z s ↔ ∃ p ∈ z, p.1.data.toList = s ∧ p.2 = x := by
  unfold gE
  rw [List.mem_map]
  constructor
  · rintro ⟨p, hp, rfl⟩
    exact ⟨p, (List.mem_filter.1 hp).1, by simpa using (List.mem_filter.1 hp).2, rfl⟩
  · rintro ⟨p, hp, h1, h2⟩
    exact ⟨p, List.mem_filter.2 ⟨hp, by simpa using h1⟩, h2⟩
theorem gE_rise {z : SZ} (h : GRise z) (s : List UInt8) : (gE z s).Pairwise (· < ·) := by
  unfold gE
  unfold GRise at h
  rw [List.pairwise_map] at h ⊢
  exact h.filter _
theorem ltS_asymm : ∀ {s t : List UInt8}, s < t → ¬ t < s
  | [], t, _ => fun h => List.not_lt_nil _ h
  | _ :: _, [], h => fun _ => List.not_lt_nil _ h
  | a :: s, b :: t, h => fun h' => by
    rcases List.cons_lt_cons_iff.1 h with h1 | ⟨e, h1⟩
    · rcases List.cons_lt_cons_iff.1 h' with h2 | ⟨e2, h2⟩
      · exact UInt8.lt_asymm h1 h2
      · rw [e2] at h1; exact UInt8.lt_irrefl a h1
    · rcases List.cons_lt_cons_iff.1 h' with h2 | ⟨e2, h2⟩
      · rw [e] at h2; exact UInt8.lt_irrefl b h2
      · exact ltS_asymm h1 h2
theorem ltSI_asymm {a b : SI} (h : ltSI a b) : ¬ ltSI b a := fun h' => by
  rcases h with h | ⟨e, h⟩
  · rcases h' with h' | ⟨e', h'⟩
    · exact ltS_asymm h h'
    · rw [e'] at h; exact ltS_irrefl _ h
  · rcases h' with h' | ⟨e', h'⟩
    · rw [e] at h'; exact ltS_irrefl _ h'
    · omega
/-- Two rows in order, of the same things, are the same. -/
theorem srt_same : ∀ {A B : List SI}, A.Pairwise ltSI → B.Pairwise ltSI → (∀ x, x ∈ A ↔ x ∈ B) → A = B
  | [], [], _, _, _ => rfl
  | [], b :: B, _, _, h => absurd ((h b).2 (List.mem_cons_self ..)) (by simp)
  | a :: A, [], _, _, h => absurd ((h a).1 (List.mem_cons_self ..)) (by simp)
  | a :: A, b :: B, hA, hB, h => by
    rw [List.pairwise_cons] at hA hB
    have e : a = b := by
      rcases List.mem_cons.1 ((h a).1 (List.mem_cons_self ..)) with e | e
      · exact e
      · rcases List.mem_cons.1 ((h b).2 (List.mem_cons_self ..)) with e' | e'
        · exact e'.symm
        · exact absurd (hA.1 b e') (ltSI_asymm (hB.1 a e))
    subst e
    rw [srt_same hA.2 hB.2 (fun x => ?_)]
    constructor
    · intro hx
      rcases List.mem_cons.1 ((h x).1 (List.mem_cons_of_mem _ hx)) with e | e
      · rw [e] at hx; exact absurd (hA.1 a hx) (ltSI_irrefl a)
      · exact e
    · intro hx
      rcases List.mem_cons.1 ((h x).2 (List.mem_cons_of_mem _ hx)) with e | e
      · rw [e] at hx; exact absurd (hB.1 a hx) (ltSI_irrefl a)
      · exact e
/-- What begins with s begins with s itself. -/
theorem ents_own {E : List UInt8 → List Int} {s : List UInt8} {L : List SI} (h : EntsP E s L) (hr : (E s).Pairwise (· < ·)) : ∃ M, L = (E s).map (fun i => (s, i)) ++ M := by
  refine ⟨L.filter (fun x => !decide (x.1 = s)), srt_same h.ord ?_ (fun x => ?_)⟩
  · rw [List.pairwise_append]
    refine ⟨?_, h.ord.filter _, fun a ha b hb => ?_⟩
    · rw [List.pairwise_map]
      exact hr.imp (fun h => .inr ⟨rfl, h⟩)
    · obtain ⟨i, hi, rfl⟩ := List.mem_map.1 ha
      obtain ⟨h1, h2⟩ := List.mem_filter.1 hb
      have h3 : b.1 ≠ s := by simpa using h2
      obtain ⟨⟨u, hu⟩, _⟩ := (h.mem b.1 b.2).1 h1
      left
      show s < b.1
      cases u with
      | nil => rw [List.append_nil] at hu; exact absurd hu.symm h3
      | cons c u => rw [← hu]; exact lt_self s c u
  · rw [List.mem_append]
    constructor
    · intro hx
      by_cases e : x.1 = s
      · left
        have h1 := ((h.mem x.1 x.2).1 hx).2
        rw [e] at h1
        exact List.mem_map.2 ⟨x.2, h1, by rw [← e]⟩
      · right
        exact List.mem_filter.2 ⟨hx, by simpa using e⟩
    · rintro (hx | hx)
      · obtain ⟨i, hi, rfl⟩ := List.mem_map.1 hx
        exact (h.mem s i).2 ⟨List.prefix_refl s, hi⟩
      · exact (List.mem_filter.1 hx).1
/-- All that a row of strings leaves in a trie. -/
theorem ents_row {l : List ByteArray} {L : List SI} (h : EntsP (gE (zB l l.length)) [] L) : L.length = l.length ∧ ∀ x ∈ L, ∃ j, ∃ hj : j < l.length, x = (l[j].data.toList, ((j + 1 : Nat) : Int)) := by
  have hn : L.Nodup := List.nodup_iff_pairwise_ne.2 (h.ord.imp (fun {a b} hab (e : a = b) => ltSI_irrefl a (by rw [← e] at hab; exact hab)))
  have hm : ∀ x ∈ L, ∃ j, ∃ hj : j < l.length, x = (l[j].data.toList, ((j + 1 : Nat) : Int)) := fun x hx => by
    obtain ⟨_, h2⟩ := (h.mem x.1 x.2).1 hx
    obtain ⟨p, hp, h3, h4⟩ := gE_iff.1 h2
    obtain ⟨j, hj, rfl⟩ := zB_mem.1 hp
    exact ⟨j, hj, Prod.ext h3.symm h4.symm⟩
  have hz : ((zB l l.length).map (fun p => ((p.1.data.toList, p.2) : SI))).Nodup := by
    have h1 := zB_rise l l.length
    unfold GRise at h1
    rw [List.pairwise_map] at h1
    rw [List.nodup_iff_pairwise_ne, List.pairwise_map]
    exact h1.imp (fun {a b} hab e => by have h2 : a.2 = b.2 := (Prod.mk.inj e).2; rw [h2] at hab; omega)
  have h1 := nodup_le (A := (zB l l.length).map (fun p => ((p.1.data.toList, p.2) : SI))) hn (fun x hx => by
    obtain ⟨j, hj, rfl⟩ := hm x hx
    exact List.mem_map.2 ⟨_, zB_mem.2 ⟨j, hj, rfl⟩, rfl⟩)
  have h2 := nodup_le (A := L) hz (fun x hx => by
    obtain ⟨p, hp, rfl⟩ := List.mem_map.1 hx
    exact (h.mem _ _).2 ⟨List.nil_prefix, gE_iff.2 ⟨p, hp, rfl, rfl⟩⟩)
  rw [List.length_map, zB_len] at h1 h2
  exact ⟨by omega, hm⟩
/-- The places of what is alike, as the last loop collects them. -/
theorem gE_take (l : List ByteArray) {k : Nat} (hk : k < l.length) (s : List UInt8) : gE (zB l (k + 1)) s = if l[k].data.toList = s then gE (zB l k) s ++ [((k + 1 : Nat) : Int)] else gE (zB l k) s := by
  rw [zB_s l hk, gE_app]
  split
  · rename_i h
    simp [gE, h]
  · rename_i h
    simp [gE, h]
theorem gE_self (l : List ByteArray) {i : Nat} (hi : i < l.length) : ((i + 1 : Nat) : Int) ∈ gE (zB l l.length) l[i].data.toList := gE_iff.2 ⟨_, zB_mem.2 ⟨i, hi, rfl⟩, rfl, rfl⟩
theorem gE_short (l : List ByteArray) (i : Nat) (s : List UInt8) : (gE (zB l i) s).length ≤ i := by
  unfold gE
  rw [List.length_map]
  exact Nat.le_trans (List.length_filter_le _ _) (Nat.le_of_eq (zB_len l i))

/-- The trie alone, as the strings are put in. -/
structure GB (w0 w : World) (T i : Nat) (l : List ByteArray) : Prop where
  tr : ∃ O, TrI w T O (gE (zB l i)) (i : Int) (2 * i) ∧ (∀ y, O y → w0.heap.size ≤ y)
  up : Up w0 w
theorem GB.upw {w0 w w' : World} {T i : Nat} {l : List ByteArray} (h : GB w0 w T i l) (hu : Up w w') : GB w0 w' T i l := by
  obtain ⟨O, h1, h2⟩ := h.tr
  exact ⟨⟨O, h1.up hu, h2⟩, h.up.trans hu⟩
theorem gb_insert {w0 w : World} {T i : Nat} {l : List ByteArray} (h : GB w0 w T i l) (hi : i < l.length) (h30 : l.length ≤ 30) (hs : l[i].size ≤ 60) :
    Calls Try.prog 9 #[.pointer (some ⟨T, 0, none⟩), .string l[i], .int .i64 ((i + 1 : Nat) : Int)] w fun e w' => e = .returned (.int .i64 0) ∧ GB w0 w' T (i + 1) l := by
  obtain ⟨O, h1, h2⟩ := h.tr
  obtain ⟨e1, e2⟩ := gE_snoc l[i] (zB_lt l i)
  refine (insert_calls T O _ i (2 * i) l[i] ((i + 1 : Nat) : Int) w h1 (by omega) (by omega) (by omega)).mono ?_
  intro e w' ho
  unfold InsOut at ho
  rw [if_neg e1, ← e2, ← zB_s l hi] at ho
  obtain ⟨he, O', r1, r2, r3⟩ := ho
  have hs' := h.up.size
  refine ⟨he, ⟨O', by exact_mod_cast r1, fun y hy => ?_⟩, ((Chg.of_up (C := O) h.up).trans r2 (fun _ _ h => h)).up (fun x hx e => by have := h2 x e; omega)⟩
  rcases r3 y hy with h4 | h4
  · exact h2 y h4
  · omega
theorem gb_prefix {w0 w : World} {T i : Nat} {l : List ByteArray} (h : GB w0 w T i l) (hi : i ≤ 30) (s : ByteArray) (hs : s.size ≤ 1000) :
    Calls Try.prog 11 #[.pointer (some ⟨T, 0, none⟩), .string s] w fun e w' => PreOut w (gE (zB l i)) s.data.toList e w' := by
  obtain ⟨O, h1, h2⟩ := h.tr
  exact prefix_calls 256 T O _ _ _ s w sort_many h1 (by omega) hs kids_all
theorem gb_all {w0 w : World} {T i : Nat} {l : List ByteArray} (h : GB w0 w T i l) (hi : i ≤ 30) :
    Calls Try.prog 10 #[.pointer (some ⟨T, 0, none⟩)] w fun e w' => PreOut w (gE (zB l i)) [] e w' := by
  obtain ⟨O, h1, h2⟩ := h.tr
  exact all_calls 256 T O _ _ _ w sort_many h1 (by omega) kids_all
theorem gb_find {w0 w : World} {T i : Nat} {l : List ByteArray} (h : GB w0 w T i l) (hi : i ≤ 30) (s : ByteArray) :
    Calls Try.prog 13 #[.pointer (some ⟨T, 0, none⟩), .string s] w fun e w' => ∃ v, e = .returned v ∧ RdJ w' v (gE (zB l i) s.data.toList) ∧ Up w w' := by
  obtain ⟨O, h1, h2⟩ := h.tr
  refine (find_calls T O _ _ _ s w h1 (by omega)).mono ?_
  rintro e w' ⟨v, he, hv, hu⟩
  exact ⟨v, he, hv.rd, hu⟩
end Go.Proofs.Ytmbniakobhaomaa
