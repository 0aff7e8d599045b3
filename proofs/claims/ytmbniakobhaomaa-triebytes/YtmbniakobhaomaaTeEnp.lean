/-
  What a trie tells of all that begins with a string: plain things. No function of the program.
-/
import Derived.Test.YtmbniakobhaomaaTeWkA
namespace Go.Proofs.Ytmbniakobhaomaa
set_option linter.unusedVariables false

abbrev SI := List UInt8 × Int
/-- By string, then number. -/
def ltSI (a b : SI) : Prop := a.1 < b.1 ∨ (a.1 = b.1 ∧ a.2 < b.2)
theorem lt_app (s : List UInt8) {a b : UInt8} (h : a < b) (u v : List UInt8) : s ++ a :: u < s ++ b :: v := by
  induction s with
  | nil => exact List.cons_lt_cons_iff.2 (.inl h)
  | cons x s ih => exact List.cons_lt_cons_iff.2 (.inr ⟨rfl, ih⟩)
theorem lt_self (s : List UInt8) (b : UInt8) (v : List UInt8) : s < s ++ b :: v := by
  induction s with
  | nil => exact List.nil_lt_cons _ _
  | cons x s ih => exact List.cons_lt_cons_iff.2 (.inr ⟨rfl, ih⟩)
theorem ltS_irrefl (s : List UInt8) : ¬ s < s := by
  induction s with
  | nil => exact List.not_lt_nil _
  | cons x s ih =>
    intro h
    rcases List.cons_lt_cons_iff.1 h with h | ⟨_, h⟩
    · exact absurd h (UInt8.lt_irrefl x)
    · exact ih h
theorem ltSI_irrefl (a : SI) : ¬ ltSI a a := fun h => h.elim (ltS_irrefl _) (fun h => by omega)
/-- All that begins with s, in order. -/
structure EntsP (E : List UInt8 → List Int) (s : List UInt8) (L : List SI) : Prop where
  ord : L.Pairwise ltSI
  mem : ∀ t i, (t, i) ∈ L ↔ s <+: t ∧ i ∈ E t
/-- So far: the node's own, and those below it by these bytes. -/
structure EntsU (E : List UInt8 → List Int) (s : List UInt8) (ks : List UInt8) (L : List SI) : Prop where
  ord : L.Pairwise ltSI
  mem : ∀ t i, (t, i) ∈ L ↔ i ∈ E t ∧ (t = s ∨ ∃ b ∈ ks, s ++ [b] <+: t)
/-- So far: of the node's own the first ones. -/
theorem EntsU.own {E : List UInt8 → List Int} {s : List UInt8} (hr : Rise (E s)) : EntsU E s [] ((E s).map (fun i => (s, i))) := by
  refine ⟨?_, fun t i => ?_⟩
  · rw [List.pairwise_map]
    exact List.Pairwise.imp (fun h => .inr ⟨rfl, h⟩) hr
  · simp only [List.mem_map, Prod.mk.injEq]
    constructor
    · rintro ⟨j, hj, rfl, rfl⟩
      exact ⟨hj, .inl rfl⟩
    · rintro ⟨h, rfl | ⟨b, hb, _⟩⟩
      · exact ⟨i, h, rfl, rfl⟩
      · cases hb
theorem prefix_snoc {s t : List UInt8} {b : UInt8} : s ++ [b] <+: t ↔ ∃ u, t = s ++ b :: u := by
  constructor
  · rintro ⟨u, rfl⟩; exact ⟨u, by simp⟩
  · rintro ⟨u, rfl⟩; exact ⟨u, by simp⟩
theorem EntsU.step {E : List UInt8 → List Int} {s : List UInt8} {ks : List UInt8} {L M : List SI} {b : UInt8} (h : EntsU E s ks L) (hb : ∀ c ∈ ks, c < b) (hM : M.Pairwise ltSI) (hm : ∀ t i, (t, i) ∈ M ↔ s ++ [b] <+: t ∧ i ∈ E t) : EntsU E s (ks ++ [b]) (L ++ M) := by
  refine ⟨?_, fun t i => ?_⟩
  · rw [List.pairwise_append]
    refine ⟨h.ord, hM, fun x hx y hy => .inl ?_⟩
    obtain ⟨_, h1⟩ := (h.mem x.1 x.2).1 hx
    obtain ⟨h2, _⟩ := (hm y.1 y.2).1 hy
    obtain ⟨v, hv⟩ := prefix_snoc.1 h2
    rw [hv]
    rcases h1 with e | ⟨c, hc, h3⟩
    · rw [e]; exact lt_self _ _ _
    · obtain ⟨u, hu⟩ := prefix_snoc.1 h3
      rw [hu]
      exact lt_app s (hb c hc) u v
  · rw [List.mem_append, h.mem, hm]
    constructor
    · rintro (⟨h1, h2 | ⟨c, hc, h3⟩⟩ | ⟨h1, h2⟩)
      · exact ⟨h1, .inl h2⟩
      · exact ⟨h1, .inr ⟨c, List.mem_append_left _ hc, h3⟩⟩
      · exact ⟨h2, .inr ⟨b, by simp, h1⟩⟩
    · rintro ⟨h1, h2 | ⟨c, hc, h3⟩⟩
      · exact .inl ⟨h1, .inl h2⟩
      · rcases List.mem_append.1 hc with hc | hc
        · exact .inl ⟨h1, .inr ⟨c, hc, h3⟩⟩
        · obtain rfl := List.mem_singleton.1 hc
          exact .inr ⟨h3, h1⟩
/-- All below: all that begins with it. -/
theorem EntsU.all {g : Gr} {root : Nat} {dom : List Nat} {E : List UInt8 → List Int} (h : WF g root dom) (ht : Tells g E) {p : Nat} {n : ND} (hp : g p = some n) {ks : List UInt8} {L : List SI} (hk : ∀ b, b ∈ ks ↔ (n.kid b).isSome = true) (hu : EntsU E n.str ks L) : EntsP E n.str L := by
  refine ⟨hu.ord, fun t i => ?_⟩
  rw [hu.mem]
  constructor
  · rintro ⟨h1, rfl | ⟨b, _, h2⟩⟩
    · exact ⟨List.prefix_refl _, h1⟩
    · exact ⟨(List.prefix_append ..).trans h2, h1⟩
  · rintro ⟨h1, h2⟩
    refine ⟨h2, ?_⟩
    obtain ⟨x, m, h3, rfl⟩ := ht.here t (fun e => by rw [e] at h2; cases h2)
    by_cases e : p = x
    · left
      rw [← e, hp] at h3
      cases h3; rfl
    · right
      obtain ⟨b, q', m', tl, h4, h5, h6, h7, h8⟩ := h.next hp h3 h1 e
      refine ⟨b, (hk b).2 (by rw [h4]; rfl), ?_⟩
      obtain ⟨u, hu'⟩ := h6
      rw [h7, h8] at hu'
      exact prefix_snoc.2 ⟨tl ++ u, by rw [← hu']; simp⟩
/-- What begins with the node right below is what begins with its first byte. -/
theorem kid_mem {g : Gr} {root : Nat} {dom : List Nat} {E : List UInt8 → List Int} (h : WF g root dom) (ht : Tells g E) {p q : Nat} {n m : ND} {b : UInt8} (hp : g p = some n) (hk : n.kid b = some q) (hq : g q = some m) (t : List UInt8) (i : Int) (hi : i ∈ E t) : m.str <+: t ↔ n.str ++ [b] <+: t := by
  obtain ⟨h1, ⟨tl, h2⟩, _⟩ := h.lab hp hk hq
  constructor
  · intro h3
    refine List.IsPrefix.trans ?_ h3
    rw [h1, h2]
    exact ⟨tl, by simp⟩
  · intro h3
    obtain ⟨u, hu⟩ := prefix_snoc.1 h3
    obtain ⟨x, k, h4, h5⟩ := ht.here t (fun e => by rw [e] at hi; cases hi)
    have h6 : n.str <+: k.str := by rw [h5, hu]; exact List.prefix_append ..
    have h7 : p ≠ x := fun e => by
      rw [← e, hp] at h4
      cases h4
      rw [hu] at h5
      have := congrArg List.length h5
      simp at this
    obtain ⟨b', q', m', tl', h8, h9, h10, h11, h12⟩ := h.next hp h4 h6 h7
    rw [h5] at h10
    have hb : b' = b := by
      obtain ⟨v, hv⟩ := h10
      rw [h11, h12, hu, List.append_assoc] at hv
      have := List.append_cancel_left hv
      simp at this
      exact this.1
    rw [hb, hk] at h8
    cases h8
    rw [hq] at h9
    cases h9
    exact h10
theorem nodup_le {α : Type} [DecidableEq α] : ∀ {L A : List α}, L.Nodup → (∀ x ∈ L, x ∈ A) → L.length ≤ A.length
  | [], _, _, _ => Nat.zero_le _
  | x :: L, A, hn, hs => by
    rw [List.nodup_cons] at hn
    have hx := hs x (List.mem_cons_self ..)
    have h1 := nodup_le (L := L) (A := A.erase x) hn.2 (fun y hy => by
      rw [List.mem_erase_of_ne (show y ≠ x from fun e => hn.1 (by rw [← e]; exact hy))]
      exact hs y (List.mem_cons_of_mem _ hy))
    have h2 := List.length_erase_of_mem hx
    have h3 := List.length_pos_of_mem hx
    simp only [List.length_cons]
    omega
theorem flat_le {α β : Type} (f : α → List β) (k : Nat) (hf : ∀ p, (f p).length ≤ k) : ∀ l : List α, (l.flatMap f).length ≤ l.length * k
  | [] => by simp
  | p :: l => by
    have h1 := flat_le f k hf l
    have h2 := hf p
    rw [List.flatMap_cons, List.length_append, List.length_cons, Nat.add_mul]
    omega
/-- There are no more than so many. -/
theorem ents_few {g : Gr} {root : Nat} {dom : List Nat} {E : List UInt8 → List Int} (h : WF g root dom) (ht : Tells g E) {k : Nat} (hk : ∀ p n, g p = some n → n.ids.length ≤ k) {L : List SI} (ho : L.Pairwise ltSI) (hm : ∀ t i, (t, i) ∈ L → i ∈ E t) : L.length ≤ dom.length * k := by
  have hn : L.Nodup := List.nodup_iff_pairwise_ne.2 (ho.imp (fun {a b} hab (e : a = b) => ltSI_irrefl a (by rw [← e] at hab; exact hab)))
  have h1 := nodup_le (A := dom.flatMap (fun p => match g p with | some n => n.ids.map (fun i => (n.str, i)) | none => [])) hn (fun x hx => by
    have h2 := hm x.1 x.2 hx
    obtain ⟨p, n, h3, h4⟩ := ht.here x.1 (fun e => by rw [e] at h2; cases h2)
    refine List.mem_flatMap.2 ⟨p, (h.mem p).2 (by rw [h3]; rfl), ?_⟩
    rw [h3]
    refine List.mem_map.2 ⟨x.2, ?_, by rw [h4]⟩
    rw [ht.node p n h3, h4]
    exact h2)
  refine Nat.le_trans h1 (flat_le _ k (fun p => ?_) dom)
  cases e : g p with
  | none => exact Nat.zero_le _
  | some n => simpa using hk p n e

end Go.Proofs.Ytmbniakobhaomaa
