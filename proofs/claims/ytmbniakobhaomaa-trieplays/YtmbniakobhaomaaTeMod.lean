/-
  A trie as plain things: nodes by their places, each with its string, its numbers and those below it. No function of the program.
-/
import Derived.Test.YtmbniakobhaomaaHaIds
namespace Go.Proofs.Ytmbniakobhaomaa
set_option linter.unusedVariables false

/-- A node. -/
structure ND where
  lab : ByteArray
  str : List UInt8
  v : Value
  ids : List Int
  mp : Nat
  kid : UInt8 → Option Nat
  ks : List UInt8
/-- A label's bytes. -/
def ND.lb (n : ND) : List UInt8 := n.lab.data.toList
/-- Nodes by their places. -/
abbrev Gr := Nat → Option ND
def updG (g : Gr) (p : Nat) (x : Option ND) : Gr := fun q => if q = p then x else g q
theorem updG_same (g : Gr) (p : Nat) (x : Option ND) : updG g p x p = x := if_pos rfl
theorem updG_other (g : Gr) {p q : Nat} (x : Option ND) (h : q ≠ p) : updG g p x q = g q := if_neg h
def updK (f : UInt8 → Option Nat) (b : UInt8) (x : Option Nat) : UInt8 → Option Nat := fun c => if c = b then x else f c
theorem updK_same (f : UInt8 → Option Nat) (b : UInt8) (x : Option Nat) : updK f b x b = x := if_pos rfl
theorem updK_other (f : UInt8 → Option Nat) {b c : UInt8} (x : Option Nat) (h : c ≠ b) : updK f b x c = f c := if_neg h

/-- What holds of the nodes of a trie. -/
structure WF (g : Gr) (root : Nat) (dom : List Nat) : Prop where
  top : ∃ r, g root = some r ∧ r.str = [] ∧ r.lb = []
  mem : ∀ p, p ∈ dom ↔ (g p).isSome = true
  nd : dom.Nodup
  kid : ∀ p n b q, g p = some n → n.kid b = some q → ∃ m, g q = some m ∧ m.str = n.str ++ m.lb ∧ m.lb.head? = some b
  inj : ∀ p q n m, g p = some n → g q = some m → n.str = m.str → p = q
  way : ∀ p q n m, g p = some n → g q = some m → n.str <+: m.str → p ≠ q → ∃ b q' m', n.kid b = some q' ∧ g q' = some m' ∧ m'.str <+: m.str
  ks : ∀ p n, g p = some n → n.ks.Nodup ∧ ∀ b, b ∈ n.ks ↔ (n.kid b).isSome = true
  sum : (dom.map (fun p => ((g p).map (fun n => n.ks.length)).getD 0)).sum + 1 = dom.length
  rise : ∀ p n, g p = some n → Rise n.ids
/-- No node is needless, but it be x. -/
def MinX (g : Gr) (root x : Nat) : Prop := ∀ p n, g p = some n → p ≠ root → p ≠ x → n.ids ≠ [] ∨ 2 ≤ n.ks.length
def Min0 (g : Gr) (root : Nat) : Prop := ∀ p n, g p = some n → p ≠ root → n.ids ≠ [] ∨ 2 ≤ n.ks.length

theorem prefix_both {a b s : List UInt8} (h1 : a <+: s) (h2 : b <+: s) : a <+: b ∨ b <+: a := List.prefix_or_prefix_of_prefix h1 h2
theorem head_some {l : List UInt8} {b : UInt8} (h : l.head? = some b) : ∃ t, l = b :: t := by
  cases l with
  | nil => cases h
  | cons x t => exact ⟨t, by simp at h; rw [h]⟩

/-- Where one has gone down as far as one can. -/
structure Deep (g : Gr) (root : Nat) (s : List UInt8) (p : Nat) (n : ND) (rest : List UInt8) : Prop where
  at_ : g p = some n
  eq : s = n.str ++ rest
  stop : ∀ b t q m, rest = b :: t → n.kid b = some q → g q = some m → ¬ m.lb <+: rest
/-- The node above. -/
def Above (g : Gr) (root p : Nat) (a : Option Nat) : Prop := (p = root ∧ a = none) ∨ ∃ x nx b, a = some x ∧ g x = some nx ∧ nx.kid b = some p

theorem WF.next {g : Gr} {root : Nat} {dom : List Nat} (h : WF g root dom) {p q : Nat} {n m : ND} (hp : g p = some n) (hq : g q = some m) (hpre : n.str <+: m.str) (hne : p ≠ q) :
    ∃ b q' m' t, n.kid b = some q' ∧ g q' = some m' ∧ m'.str <+: m.str ∧ m'.str = n.str ++ m'.lb ∧ m'.lb = b :: t := by
  obtain ⟨b, q', m', h1, h2, h3⟩ := h.way p q n m hp hq hpre hne
  obtain ⟨m2, h4, h5, h6⟩ := h.kid p n b q' hp h1
  rw [h2] at h4
  cases h4
  obtain ⟨t, ht⟩ := head_some h6
  exact ⟨b, q', m', t, h1, h2, h3, h5, ht⟩
theorem WF.deep {g : Gr} {root : Nat} {dom : List Nat} (h : WF g root dom) {s rest : List UInt8} {p : Nat} {n : ND} (hd : Deep g root s p n rest) {q : Nat} {m : ND} (hq : g q = some m) (hpre : m.str <+: s) : m.str <+: n.str := by
  have hn : n.str <+: s := ⟨rest, hd.eq.symm⟩
  rcases prefix_both hpre hn with h1 | h1
  · exact h1
  · by_cases e : p = q
    · subst e
      have := hd.at_
      rw [hq] at this
      cases this
      exact List.prefix_refl _
    · exfalso
      obtain ⟨b, q', m', t, h2, h3, h4, h5, h6⟩ := h.next hd.at_ hq h1 e
      have h7 : m'.str <+: s := h4.trans hpre
      rw [h5, hd.eq] at h7
      have h8 : m'.lb <+: rest := (List.prefix_append_right_inj _).1 h7
      obtain ⟨u, hu⟩ := h8
      exact hd.stop b (t ++ u) q' m' (by rw [← hu, h6]; rfl) h2 h3 ⟨u, hu⟩
/-- Of the whole string there is no node. -/
theorem WF.none_at {g : Gr} {root : Nat} {dom : List Nat} (h : WF g root dom) {s rest : List UInt8} {p : Nat} {n : ND} (hd : Deep g root s p n rest) (hr : rest ≠ []) {q : Nat} {m : ND} (hq : g q = some m) : m.str ≠ s := fun e => by
  have h1 := h.deep hd hq (by rw [e]; exact List.prefix_refl _)
  have h2 := h1.length_le
  rw [e, hd.eq, List.length_append] at h2
  have : rest.length ≠ 0 := fun e => hr (List.length_eq_zero_iff.1 e)
  omega
theorem WF.root_of {g : Gr} {root : Nat} {dom : List Nat} (h : WF g root dom) {p : Nat} {n : ND} (hp : g p = some n) (he : n.str = []) : p = root := by
  obtain ⟨r, h1, h2, _⟩ := h.top
  exact h.inj p root n r hp h1 (by rw [he, h2])
/-- A node below another one isn't the root. -/
theorem WF.kid_ne {g : Gr} {root : Nat} {dom : List Nat} (h : WF g root dom) {p q : Nat} {n : ND} {b : UInt8} (hp : g p = some n) (hk : n.kid b = some q) : q ≠ root ∧ q ≠ p := by
  obtain ⟨m, h1, h2, h3⟩ := h.kid p n b q hp hk
  obtain ⟨t, ht⟩ := head_some h3
  refine ⟨fun e => ?_, fun e => ?_⟩
  · obtain ⟨r, h4, h5, _⟩ := h.top
    rw [e, h4] at h1
    cases h1
    rw [h5, ht] at h2
    exact absurd h2.symm (by simp)
  · rw [e, hp] at h1
    cases h1
    have := congrArg List.length h2
    rw [List.length_append, ht] at this
    simp at this
theorem WF.kid_one {g : Gr} {root : Nat} {dom : List Nat} (h : WF g root dom) {p p' q : Nat} {n n' : ND} {b b' : UInt8} (hp : g p = some n) (hk : n.kid b = some q) (hp' : g p' = some n') (hk' : n'.kid b' = some q) : p = p' ∧ b = b' := by
  obtain ⟨m, h1, h2, h3⟩ := h.kid p n b q hp hk
  obtain ⟨m', h4, h5, h6⟩ := h.kid p' n' b' q hp' hk'
  rw [h1] at h4
  cases h4
  rw [h3] at h6
  exact ⟨h.inj _ _ _ _ hp hp' (List.append_cancel_right (h2.symm.trans h5)), by cases h6; rfl⟩

/-- What stands with each string. -/
structure Tells (g : Gr) (E : List UInt8 → List Int) : Prop where
  node : ∀ p n, g p = some n → n.ids = E n.str
  here : ∀ s, E s ≠ [] → ∃ p n, g p = some n ∧ n.str = s
def updE (E : List UInt8 → List Int) (s : List UInt8) (l : List Int) : List UInt8 → List Int := fun t => if t = s then l else E t
theorem updE_same (E : List UInt8 → List Int) (s : List UInt8) (l : List Int) : updE E s l s = l := if_pos rfl
theorem updE_other (E : List UInt8 → List Int) {s t : List UInt8} (l : List Int) (h : t ≠ s) : updE E s l t = E t := if_neg h

/-- Sums over nodes. -/
def kn (g : Gr) (p : Nat) : Nat := ((g p).map (fun n => n.ks.length)).getD 0
theorem kn_some {g : Gr} {p : Nat} {n : ND} (h : g p = some n) : kn g p = n.ks.length := by unfold kn; rw [h]; rfl
theorem sum_congr {f h : Nat → Nat} {l : List Nat} (e : ∀ x ∈ l, f x = h x) : (l.map f).sum = (l.map h).sum := by
  rw [List.map_congr_left e]
theorem sum_upd {f h : Nat → Nat} : ∀ {l : List Nat} {p : Nat}, l.Nodup → p ∈ l → (∀ x ∈ l, x ≠ p → h x = f x) → (l.map h).sum + f p = (l.map f).sum + h p
  | [], p, _, hp, _ => by cases hp
  | x :: l, p, hn, hp, hf => by
    rw [List.nodup_cons] at hn
    simp only [List.map_cons, List.sum_cons]
    by_cases e : x = p
    · subst e
      have : (l.map h).sum = (l.map f).sum := sum_congr fun y hy => hf y (List.mem_cons_of_mem _ hy) (fun e => hn.1 (e ▸ hy))
      omega
    · have := sum_upd (f := f) (h := h) hn.2 (by rcases List.mem_cons.1 hp with h | h; exact absurd h.symm e; exact h) (fun y hy => hf y (List.mem_cons_of_mem _ hy))
      have h2 := hf x (List.mem_cons_self ..) e
      omega
theorem sum_erase {f : Nat → Nat} : ∀ {l : List Nat} {p : Nat}, p ∈ l → ((l.erase p).map f).sum + f p = (l.map f).sum
  | [], p, hp => by cases hp
  | x :: l, p, hp => by
    by_cases e : x = p
    · subst e; simp; omega
    · have := sum_erase (f := f) (l := l) (p := p) (by rcases List.mem_cons.1 hp with h | h; exact absurd h.symm e; exact h)
      rw [List.erase_cons_tail (by simpa using e)]
      simp only [List.map_cons, List.sum_cons]
      omega
theorem le_sum {f : Nat → Nat} : ∀ {l : List Nat} {p : Nat}, p ∈ l → f p ≤ (l.map f).sum
  | x :: l, p, hp => by
    simp only [List.map_cons, List.sum_cons]
    rcases List.mem_cons.1 hp with h | h
    · subst h; omega
    · have := le_sum (f := f) h; omega
theorem WF.ksle {g : Gr} {root : Nat} {dom : List Nat} (h : WF g root dom) {p : Nat} {n : ND} (hp : g p = some n) : n.ks.length < dom.length := by
  have h1 := le_sum (f := kn g) ((h.mem p).2 (by rw [hp]; rfl))
  rw [kn_some hp] at h1
  have := h.sum
  unfold kn at h1
  omega

/-- Few nodes: at most twice as many as there are strings, and one. -/
theorem count_aux (ids ks : Nat → Nat) (root : Nat) : ∀ (l : List Nat), (∀ p ∈ l, p ≠ root → 1 ≤ ids p ∨ 2 ≤ ks p) → l.Nodup → 2 * l.length ≤ (l.map ks).sum + 2 * (l.filter (fun p => decide (1 ≤ ids p))).length + (if root ∈ l then 2 else 0)
  | [], _, _ => by simp
  | x :: l, h, hn => by
    rw [List.nodup_cons] at hn
    have ih := count_aux ids ks root l (fun p hp => h p (List.mem_cons_of_mem _ hp)) hn.2
    simp only [List.length_cons, List.map_cons, List.sum_cons, List.filter_cons]
    by_cases e : x = root
    · subst e
      rw [if_neg hn.1] at ih
      rw [if_pos (List.mem_cons_self ..)]
      by_cases h3 : 1 ≤ ids x
      · rw [if_pos (by simpa using h3)]
        simp only [List.length_cons]
        omega
      · rw [if_neg (by simpa using h3)]
        omega
    · have h1 := h x (List.mem_cons_self ..) e
      have h2 : (if root ∈ x :: l then 2 else 0) = (if root ∈ l then 2 else 0) := by
        have : (root ∈ x :: l) ↔ root ∈ l := ⟨fun h => (List.mem_cons.1 h).resolve_left (fun e' => e e'.symm), List.mem_cons_of_mem _⟩
        simp only [this]
      rw [h2]
      by_cases h3 : 1 ≤ ids x
      · rw [if_pos (by simpa using h3)]
        simp only [List.length_cons]
        omega
      · rw [if_neg (by simpa using h3)]
        omega
theorem few_nodes {g : Gr} {root : Nat} {dom : List Nat} {E : List UInt8 → List Int} (h : WF g root dom) (hm : Min0 g root) (ht : Tells g E) :
    ∃ ss : List (List UInt8), ss.Nodup ∧ (∀ s ∈ ss, E s ≠ []) ∧ dom.length ≤ 2 * ss.length + 1 := by
  refine ⟨(dom.filter (fun p => decide (1 ≤ ((g p).map (fun n => n.ids.length)).getD 0))).map (fun p => ((g p).map (fun n => n.str)).getD []), ?_, ?_, ?_⟩
  · rw [List.nodup_iff_pairwise_ne, List.pairwise_map]
    refine List.Pairwise.imp_of_mem (fun {a b} ha hb hab => ?_) ((h.nd.filter _))
    have ha' := (h.mem a).1 (List.mem_filter.1 ha).1
    have hb' := (h.mem b).1 (List.mem_filter.1 hb).1
    obtain ⟨na, hna⟩ := Option.isSome_iff_exists.1 ha'
    obtain ⟨nb, hnb⟩ := Option.isSome_iff_exists.1 hb'
    rw [hna, hnb]
    exact fun e => hab (h.inj _ _ _ _ hna hnb e)
  · intro s hs
    obtain ⟨p, hp, rfl⟩ := List.mem_map.1 hs
    obtain ⟨h1, h2⟩ := List.mem_filter.1 hp
    obtain ⟨n, hn⟩ := Option.isSome_iff_exists.1 ((h.mem p).1 h1)
    rw [hn] at h2 ⊢
    simp only [Option.map_some, Option.getD_some, decide_eq_true_eq] at h2 ⊢
    rw [← ht.node p n hn]
    intro e
    rw [e] at h2
    simp at h2
  · have h1 := count_aux (fun p => ((g p).map (fun n => n.ids.length)).getD 0) (kn g) root dom (fun p hp hr => by
      obtain ⟨n, hn⟩ := Option.isSome_iff_exists.1 ((h.mem p).1 hp)
      rcases hm p n hn hr with h1 | h1
      · left
        rw [hn]
        simp only [Option.map_some, Option.getD_some]
        exact Nat.pos_of_ne_zero (fun e => h1 (List.length_eq_zero_iff.1 e))
      · right; rw [kn_some hn]; exact h1) h.nd
    have h2 := h.sum
    rw [List.length_map]
    unfold kn at h1
    split at h1 <;> omega

end Go.Proofs.Ytmbniakobhaomaa
