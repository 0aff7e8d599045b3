/-
  What is done to a trie, as plain things: a leaf comes, a node is parted, a leaf goes, two nodes are made one. No function of the program.
-/
import Derived.Test.YtmbniakobhaomaaTeMod
namespace Go.Proofs.Ytmbniakobhaomaa
set_option linter.unusedVariables false

theorem get2 {g : Gr} {p q x : Nat} {P Q : Option ND} {m : ND} (h : updG (updG g p P) q Q x = some m) : (x = q ∧ Q = some m) ∨ (x ≠ q ∧ x = p ∧ P = some m) ∨ (x ≠ q ∧ x ≠ p ∧ g x = some m) := by
  unfold updG at h
  split at h
  · exact .inl ⟨‹_›, h⟩
  · split at h
    · exact .inr (.inl ⟨‹_›, ‹_›, h⟩)
    · exact .inr (.inr ⟨‹_›, ‹_›, h⟩)

/-- Numbers are set. -/
theorem WF.setIds {g : Gr} {root : Nat} {dom : List Nat} (h : WF g root dom) {p : Nat} {n n' : ND} (hp : g p = some n) (hl : n'.lab = n.lab) (hs : n'.str = n.str) (hk : n'.kid = n.kid) (hks : n'.ks = n.ks) (hr : Rise n'.ids) : WF (updG g p (some n')) root dom := by
  have V : ∀ x m, updG g p (some n') x = some m → ∃ m0, g x = some m0 ∧ m.str = m0.str ∧ m.lb = m0.lb ∧ m.kid = m0.kid ∧ m.ks = m0.ks ∧ Rise m.ids := fun x m hx => by
    unfold updG at hx
    split at hx
    · rename_i e
      cases hx
      exact ⟨n, by rw [e]; exact hp, hs, by unfold ND.lb; rw [hl], hk, hks, hr⟩
    · exact ⟨m, hx, rfl, rfl, rfl, rfl, h.rise x m hx⟩
  have U : ∀ x m0, g x = some m0 → ∃ m, updG g p (some n') x = some m ∧ m.str = m0.str ∧ m.lb = m0.lb := fun x m0 hx => by
    by_cases e : x = p
    · subst e
      rw [hp] at hx
      cases hx
      exact ⟨n', updG_same .., hs, by unfold ND.lb; rw [hl]⟩
    · exact ⟨m0, by rw [updG_other _ _ e]; exact hx, rfl, rfl⟩
  refine ⟨?_, fun x => ?_, h.nd, fun x m b q hx hq => ?_, fun x y m l hx hy e => ?_, fun x y m l hx hy hpre hne => ?_, fun x m hx => ?_, ?_, fun x m hx => ?_⟩
  · obtain ⟨r, h1, h2, h3⟩ := h.top
    obtain ⟨m, h4, h5, h6⟩ := U _ _ h1
    exact ⟨m, h4, h5.trans h2, h6.trans h3⟩
  · rw [h.mem x]
    unfold updG
    split
    · rename_i e; rw [e, hp]; rfl
    · rfl
  · obtain ⟨m0, h1, h2, h3, h4, _⟩ := V x m hx
    rw [h4] at hq
    obtain ⟨k, h5, h6, h7⟩ := h.kid x m0 b q h1 hq
    obtain ⟨k', h8, h9, h10⟩ := U _ _ h5
    exact ⟨k', h8, by rw [h9, h6, h2, h10], by rw [h10]; exact h7⟩
  · obtain ⟨m0, h1, h2, _⟩ := V x m hx
    obtain ⟨l0, h3, h4, _⟩ := V y l hy
    exact h.inj x y m0 l0 h1 h3 (by rw [← h2, ← h4]; exact e)
  · obtain ⟨m0, h1, h2, _, h2k, _⟩ := V x m hx
    obtain ⟨l0, h3, h4, _⟩ := V y l hy
    rw [h2, h4] at hpre
    obtain ⟨b, q, k, h5, h6, h7⟩ := h.way x y m0 l0 h1 h3 hpre hne
    obtain ⟨k', h8, h9, _⟩ := U _ _ h6
    exact ⟨b, q, k', by rw [h2k]; exact h5, h8, by rw [h9, h4]; exact h7⟩
  · obtain ⟨m0, h1, _, _, h4, h5, _⟩ := V x m hx
    rw [h4, h5]
    exact h.ks x m0 h1
  · have : (dom.map (fun x => ((updG g p (some n') x).map (fun n => n.ks.length)).getD 0)) = dom.map (fun x => ((g x).map (fun n => n.ks.length)).getD 0) := by
      apply List.map_congr_left
      intro x _
      unfold updG
      split
      · rename_i e; rw [e, hp]; simp [hks]
      · rfl
    rw [this]
    exact h.sum
  · obtain ⟨_, _, _, _, _, _, h5⟩ := V x m hx
    exact h5
theorem Tells.setIds {g : Gr} {root : Nat} {dom : List Nat} {E : List UInt8 → List Int} (h : WF g root dom) (ht : Tells g E) {p : Nat} {n n' : ND} (hp : g p = some n) (hs : n'.str = n.str) : Tells (updG g p (some n')) (updE E n.str n'.ids) := by
  refine ⟨fun x m hx => ?_, fun s hs' => ?_⟩
  · unfold updG at hx
    split at hx
    · cases hx; rw [hs, updE_same]
    · rename_i e
      rw [updE_other _ _ (fun e' => e (h.inj _ _ _ _ hx hp e'))]
      exact ht.node x m hx
  · by_cases e : s = n.str
    · exact ⟨p, n', updG_same .., by rw [hs, e]⟩
    · rw [updE_other _ _ e] at hs'
      obtain ⟨x, m, h1, h2⟩ := ht.here s hs'
      have : x ≠ p := fun e' => by rw [e', hp] at h1; cases h1; exact e h2.symm
      exact ⟨x, m, by rw [updG_other _ _ this]; exact h1, h2⟩
theorem MinX.setIds {g : Gr} {root x : Nat} {dom : List Nat} (hm : MinX g root x) {n n' : ND} (hp : g x = some n) : MinX (updG g x (some n')) root x := fun y m hy h1 h2 => by
  rw [updG_other _ _ h2] at hy
  exact hm y m hy h1 h2

/-- A leaf comes. -/
def leafP (n : ND) (b : UInt8) (q : Nat) : ND := { n with kid := updK n.kid b (some q), ks := b :: n.ks }
def leafG (g : Gr) (p q : Nat) (n leaf : ND) (b : UInt8) : Gr := updG (updG g p (some (leafP n b q))) q (some leaf)
theorem WF.leaf {g : Gr} {root : Nat} {dom : List Nat} (h : WF g root dom) {s rest t : List UInt8} {p q : Nat} {n leaf : ND} {b : UInt8} (hd : Deep g root s p n rest) (hr : rest = b :: t) (hk : n.kid b = none) (hq : g q = none) (h1 : leaf.str = s) (h2 : leaf.lb = rest) (h3 : ∀ c, leaf.kid c = none) (h4 : leaf.ks = []) (h5 : leaf.ids = []) : WF (leafG g p q n leaf b) root (q :: dom) := by
  have hp := hd.at_
  have hpq : p ≠ q := fun e => by rw [e, hq] at hp; cases hp
  have hns : n.str <+: s := ⟨rest, hd.eq.symm⟩
  have hno : ∀ x m, g x = some m → m.str ≠ s := fun x m hx => h.none_at hd (by rw [hr]; simp) hx
  have hqd : ¬ q ∈ dom := fun e => by rw [h.mem, hq] at e; cases e
  have V : ∀ x m, leafG g p q n leaf b x = some m → x ≠ q → ∃ m0, g x = some m0 ∧ m.str = m0.str ∧ m.lb = m0.lb ∧ m.ids = m0.ids ∧ (∀ c y, m.kid c = some y → m0.kid c = some y ∨ (x = p ∧ c = b ∧ y = q)) ∧ (∀ c y, m0.kid c = some y → m.kid c = some y) := fun x m hx hxq => by
    rcases get2 hx with ⟨e, _⟩ | ⟨_, e, e2⟩ | ⟨_, _, e2⟩
    · exact absurd e hxq
    · cases e2
      refine ⟨n, by rw [e]; exact hp, rfl, rfl, rfl, fun c y hc => ?_, fun c y hc => ?_⟩
      · simp only [leafP, updK] at hc
        split at hc
        · exact .inr ⟨e, ‹_›, by cases hc; rfl⟩
        · exact .inl hc
      · have : c ≠ b := fun e => by rw [e, hk] at hc; cases hc
        show updK n.kid b (some q) c = some y
        rw [updK_other _ _ this]
        exact hc
    · exact ⟨m, e2, rfl, rfl, rfl, fun c y hc => .inl hc, fun c y hc => hc⟩
  have U : ∀ x m0, g x = some m0 → x ≠ q ∧ ∃ m, leafG g p q n leaf b x = some m ∧ m.str = m0.str ∧ m.lb = m0.lb ∧ (∀ c y, m0.kid c = some y → m.kid c = some y) := fun x m0 hx => by
    have hxq : x ≠ q := fun e => by rw [e, hq] at hx; cases hx
    refine ⟨hxq, ?_⟩
    by_cases e : x = p
    · subst e
      rw [hp] at hx
      cases hx
      refine ⟨leafP n b q, by unfold leafG; rw [updG_other _ _ hxq, updG_same], rfl, rfl, fun c y hc => ?_⟩
      have : c ≠ b := fun e => by rw [e, hk] at hc; cases hc
      show updK n.kid b (some q) c = some y
      rw [updK_other _ _ this]
      exact hc
    · exact ⟨m0, by unfold leafG; rw [updG_other _ _ hxq, updG_other _ _ e]; exact hx, rfl, rfl, fun c y hc => hc⟩
  have L : ∀ m, leafG g p q n leaf b q = some m → m = leaf := fun m hm => by
    unfold leafG at hm
    rw [updG_same] at hm
    cases hm; rfl
  have Lq : leafG g p q n leaf b q = some leaf := updG_same ..
  refine ⟨?_, fun x => ?_, List.nodup_cons.2 ⟨hqd, h.nd⟩, fun x m c y hx hy => ?_, fun x y m l hx hy e => ?_, fun x y m l hx hy hpre hne => ?_, fun x m hx => ?_, ?_, fun x m hx => ?_⟩
  · obtain ⟨r, e1, e2, e3⟩ := h.top
    obtain ⟨_, m, e4, e5, e6, _⟩ := U _ _ e1
    exact ⟨m, e4, e5.trans e2, e6.trans e3⟩
  · rw [List.mem_cons, h.mem x]
    by_cases e : x = q
    · subst e; simp [Lq]
    · unfold leafG
      rw [updG_other _ _ e]
      by_cases e' : x = p
      · subst e'; simp [updG_same, hp]
      · rw [updG_other _ _ e']; simp [e]
  · by_cases e : x = q
    · subst e
      rw [L m hx, h3] at hy
      cases hy
    · obtain ⟨m0, e1, e2, e3, _, e4, _⟩ := V x m hx e
      rcases e4 c y hy with e5 | ⟨rfl, rfl, rfl⟩
      · obtain ⟨k, e6, e7, e8⟩ := h.kid x m0 c y e1 e5
        obtain ⟨_, k', e9, e10, e11, _⟩ := U _ _ e6
        exact ⟨k', e9, by rw [e10, e7, e2, e11], by rw [e11]; exact e8⟩
      · rw [hp] at e1
        cases e1
        exact ⟨leaf, Lq, by rw [h1, e2, h2]; exact hd.eq, by rw [h2, hr]; rfl⟩
  · by_cases ex : x = q
    · by_cases ey : y = q
      · rw [ex, ey]
      · subst ex
        rw [L m hx, h1] at e
        obtain ⟨l0, e1, e2, _⟩ := V y l hy ey
        exact absurd (by rw [← e2, ← e]) (hno y l0 e1)
    · obtain ⟨m0, e1, e2, _⟩ := V x m hx ex
      by_cases ey : y = q
      · subst ey
        rw [L l hy, h1] at e
        exact absurd (by rw [← e2, e]) (hno x m0 e1)
      · obtain ⟨l0, e3, e4, _⟩ := V y l hy ey
        exact h.inj x y m0 l0 e1 e3 (by rw [← e2, ← e4]; exact e)
  · by_cases ex : x = q
    · subst ex
      rw [L m hx, h1] at hpre
      obtain ⟨l0, e1, e2, _⟩ := V y l hy (fun e => hne e.symm)
      rw [e2] at hpre
      exfalso
      have hpy : p ≠ y := fun e => by
        rw [e, e1] at hp
        cases hp
        have := hpre.length_le
        rw [hd.eq, List.length_append, hr, List.length_cons] at this
        omega
      obtain ⟨b', q', m', t', e3, e4, e5, e6, e7⟩ := h.next hp e1 (hns.trans hpre) hpy
      obtain ⟨u, hu⟩ := hpre
      rw [e6, ← hu, hd.eq, List.append_assoc] at e5
      have e8 := (List.prefix_append_right_inj _).1 e5
      rw [e7, hr] at e8
      obtain ⟨u', hu'⟩ := e8
      simp at hu'
      rw [hu'.1, hk] at e3
      cases e3
    · obtain ⟨m0, e1, e2, _, _, _, e3⟩ := V x m hx ex
      by_cases ey : y = q
      · subst ey
        have el := L l hy
        rw [el, h1, e2] at hpre
        have e4 := h.deep hd e1 hpre
        by_cases exp : x = p
        · subst exp
          rw [hp] at e1
          cases e1
          refine ⟨b, y, leaf, ?_, Lq, by rw [el]; exact List.prefix_refl _⟩
          have : m = leafP n b y := by
            unfold leafG at hx
            rw [updG_other _ _ ex, updG_same] at hx
            cases hx; rfl
          rw [this]
          exact updK_same ..
        · obtain ⟨b', q', m', e5, e6, e7⟩ := h.way x p m0 n e1 hp e4 exp
          obtain ⟨_, k, e8, e9, _⟩ := U _ _ e6
          exact ⟨b', q', k, e3 _ _ e5, e8, by rw [e9, el, h1]; exact e7.trans hns⟩
      · obtain ⟨l0, e4, e5, _⟩ := V y l hy ey
        rw [e2, e5] at hpre
        obtain ⟨b', q', m', e6, e7, e8⟩ := h.way x y m0 l0 e1 e4 hpre hne
        obtain ⟨_, k, e9, e10, _⟩ := U _ _ e7
        exact ⟨b', q', k, e3 _ _ e6, e9, by rw [e10, e5]; exact e8⟩
  · rcases get2 hx with ⟨_, e2⟩ | ⟨_, _, e2⟩ | ⟨_, _, e2⟩
    · cases e2
      rw [h4]
      exact ⟨List.nodup_nil, fun c => by rw [h3]; simp⟩
    · cases e2
      obtain ⟨e3, e4⟩ := h.ks p n hp
      refine ⟨List.nodup_cons.2 ⟨fun e => (by rw [e4, hk] at e; cases e), e3⟩, fun c => ?_⟩
      simp only [leafP, List.mem_cons, updK]
      split
      · rename_i e; simp [e]
      · rename_i e; rw [e4]; simp [e]
    · exact h.ks x m e2
  · have e0 : kn (leafG g p q n leaf b) q = 0 := by rw [kn_some Lq, h4]; rfl
    have e1 := sum_upd (f := kn g) (h := kn (leafG g p q n leaf b)) h.nd ((h.mem p).2 (by rw [hp]; rfl)) (fun x hx hxp => by
      have hxq : x ≠ q := fun e => hqd (e ▸ hx)
      unfold kn leafG
      rw [updG_other _ _ hxq, updG_other _ _ hxp])
    have e2 : kn (leafG g p q n leaf b) p = n.ks.length + 1 := by
      unfold kn leafG
      rw [updG_other _ _ hpq, updG_same]
      rfl
    rw [kn_some hp, e2] at e1
    have e3 := h.sum
    show ((q :: dom).map (kn (leafG g p q n leaf b))).sum + 1 = _
    rw [List.map_cons, List.sum_cons, e0, List.length_cons]
    unfold kn at e1 ⊢
    omega
  · rcases get2 hx with ⟨_, e2⟩ | ⟨_, _, e2⟩ | ⟨_, _, e2⟩
    · cases e2; rw [h5]; exact List.Pairwise.nil
    · cases e2; exact h.rise p n hp
    · exact h.rise x m e2
theorem Tells.leaf {g : Gr} {root : Nat} {dom : List Nat} {E : List UInt8 → List Int} (h : WF g root dom) (ht : Tells g E) {s rest t : List UInt8} {p q : Nat} {n leaf : ND} {b : UInt8} (hd : Deep g root s p n rest) (hr : rest = b :: t) (hq : g q = none) (h1 : leaf.str = s) (h5 : leaf.ids = []) : Tells (leafG g p q n leaf b) E := by
  have hE : E s = [] := by
    by_cases e : E s = []
    · exact e
    · obtain ⟨x, m, e1, e2⟩ := ht.here s e
      exact absurd e2 (h.none_at hd (by rw [hr]; simp) e1)
  refine ⟨fun x m hx => ?_, fun s' hs' => ?_⟩
  · rcases get2 hx with ⟨_, e2⟩ | ⟨_, _, e2⟩ | ⟨_, _, e2⟩
    · cases e2; rw [h1, h5, hE]
    · cases e2; exact ht.node p n hd.at_
    · exact ht.node x m e2
  · obtain ⟨x, m, e1, e2⟩ := ht.here s' hs'
    have hxq : x ≠ q := fun e => by rw [e, hq] at e1; cases e1
    by_cases e : x = p
    · subst e
      have := hd.at_
      rw [e1] at this
      cases this
      exact ⟨x, leafP n b q, by unfold leafG; rw [updG_other _ _ hxq, updG_same], e2⟩
    · exact ⟨x, m, by unfold leafG; rw [updG_other _ _ hxq, updG_other _ _ e]; exact e1, e2⟩
theorem MinX.leaf {g : Gr} {root p q : Nat} {n leaf : ND} {b : UInt8} (hm : MinX g root p) (hn : g p = some n) (hp : p = root ∨ n.ids ≠ [] ∨ 1 ≤ n.ks.length) : MinX (leafG g p q n leaf b) root q := fun x m hx h1 h2 => by
  rcases get2 hx with ⟨e, _⟩ | ⟨_, e, e2⟩ | ⟨_, e, e2⟩
  · exact absurd e h2
  · cases e2
    rcases hp with hp | hp | hp
    · exact absurd (e.trans hp) h1
    · exact .inl hp
    · right; simp [leafP]; omega
  · exact hm x m e2 h1 e

end Go.Proofs.Ytmbniakobhaomaa
