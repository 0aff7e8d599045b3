/-
  A trie as plain things: a node is parted; a leaf goes; two nodes are made one. No function of the program.
-/
import Derived.Test.YtmbniakobhaomaaTeOps
namespace Go.Proofs.Ytmbniakobhaomaa
set_option linter.unusedVariables false

/-- A node is parted: q comes between p and c. -/
def splP (n : ND) (b : UInt8) (q : Nat) : ND := { n with kid := updK n.kid b (some q) }
def splG (g : Gr) (p q c : Nat) (n N m' : ND) (b : UInt8) : Gr := updG (updG (updG g p (some (splP n b q))) q (some N)) c (some m')
structure SplAt (g : Gr) (p q c : Nat) (n N m m' : ND) (b b2 : UInt8) (l1 l2 : List UInt8) : Prop where
  hp : g p = some n
  hk : n.kid b = some c
  hc : g c = some m
  hq : g q = none
  lb : m.lb = l1 ++ l2
  t1 : ∃ t, l1 = b :: t
  t2 : ∃ t, l2 = b2 :: t
  n1 : N.str = n.str ++ l1
  n2 : N.lb = l1
  n3 : N.kid = updK (fun _ => none) b2 (some c)
  n4 : N.ks = [b2]
  n5 : N.ids = []
  m1 : m'.str = m.str
  m2 : m'.lb = l2
  m3 : m'.kid = m.kid
  m4 : m'.ks = m.ks
  m5 : m'.ids = m.ids
theorem WF.split {g : Gr} {root : Nat} {dom : List Nat} (h : WF g root dom) {p q c : Nat} {n N m m' : ND} {b b2 : UInt8} {l1 l2 : List UInt8} (S : SplAt g p q c n N m m' b b2 l1 l2) : WF (splG g p q c n N m' b) root (q :: dom) := by
  obtain ⟨hp, hk, hc, hq, lb, ⟨t1, ht1⟩, ⟨t2, ht2⟩, n1, n2, n3, n4, n5, m1, m2, m3, m4, m5⟩ := S
  have hms : m.str = n.str ++ m.lb := by
    obtain ⟨m0, e1, e2, _⟩ := h.kid p n b c hp hk
    rw [hc] at e1; cases e1; exact e2
  obtain ⟨hcr, hcp⟩ := h.kid_ne hp hk
  have hpq : p ≠ q := fun e => by rw [e, hq] at hp; cases hp
  have hcq : c ≠ q := fun e => by rw [e, hq] at hc; cases hc
  have hqd : ¬ q ∈ dom := fun e => by rw [h.mem, hq] at e; cases e
  have Gc : splG g p q c n N m' b c = some m' := updG_same ..
  have Gq : splG g p q c n N m' b q = some N := by unfold splG; rw [updG_other _ _ hcq.symm, updG_same]
  have Gp : splG g p q c n N m' b p = some (splP n b q) := by unfold splG; rw [updG_other _ _ hcp.symm, updG_other _ _ hpq, updG_same]
  have Go : ∀ x, x ≠ c → x ≠ q → x ≠ p → splG g p q c n N m' b x = g x := fun x e1 e2 e3 => by unfold splG; rw [updG_other _ _ e1, updG_other _ _ e2, updG_other _ _ e3]
  have inv : ∀ x r, splG g p q c n N m' b x = some r → x ≠ q → ∃ r0, g x = some r0 ∧ r.str = r0.str ∧ r.ids = r0.ids ∧ r.ks = r0.ks ∧ (x ≠ c → r.lb = r0.lb) ∧ (x ≠ p → r.kid = r0.kid) := fun x r hx e => by
    by_cases e1 : x = c
    · subst e1
      rw [Gc] at hx
      cases hx
      exact ⟨m, hc, m1, m5, m4, fun e => absurd rfl e, fun _ => m3⟩
    · by_cases e2 : x = p
      · subst e2
        rw [Gp] at hx
        cases hx
        exact ⟨n, hp, rfl, rfl, rfl, fun _ => rfl, fun e => absurd rfl e⟩
      · rw [Go x e1 e e2] at hx
        exact ⟨r, hx, rfl, rfl, rfl, fun _ => rfl, fun _ => rfl⟩
  have fwd : ∀ x r0, g x = some r0 → x ≠ q ∧ ∃ r, splG g p q c n N m' b x = some r ∧ r.str = r0.str ∧ (x ≠ c → r.lb = r0.lb) ∧ (x ≠ p → r.kid = r0.kid) := fun x r0 hx => by
    have hxq : x ≠ q := fun e => by rw [e, hq] at hx; cases hx
    refine ⟨hxq, ?_⟩
    by_cases e1 : x = c
    · subst e1
      rw [hc] at hx
      cases hx
      exact ⟨m', Gc, m1, fun e => absurd rfl e, fun _ => m3⟩
    · by_cases e2 : x = p
      · subst e2
        rw [hp] at hx
        cases hx
        exact ⟨_, Gp, rfl, fun _ => rfl, fun e => absurd rfl e⟩
      · exact ⟨r0, by rw [Go x e1 hxq e2]; exact hx, rfl, fun _ => rfl, fun _ => rfl⟩
  -- who stands right below p on the way to c stands below c
  have below : ∀ y l0, g y = some l0 → n.str <+: l0.str → p ≠ y → l1 <+: l0.str.drop n.str.length → m.str <+: l0.str := fun y l0 hy hpre hne hl => by
    obtain ⟨b', q', k, t', e3, e4, e5, e6, e7⟩ := h.next hp hy hpre hne
    obtain ⟨u, hu⟩ := hpre
    rw [← hu, List.drop_left] at hl
    have e5' := e5
    rw [e6, ← hu] at e5'
    have e8 := (List.prefix_append_right_inj _).1 e5'
    obtain ⟨u1, hu1⟩ := hl
    obtain ⟨u2, hu2⟩ := e8
    have : b' = b := by
      rw [← hu1, e7, ht1] at hu2
      simp at hu2
      exact hu2.1
    rw [this, hk] at e3
    cases e3
    rw [hc] at e4
    cases e4
    exact e5
  have noN : ∀ y l0, g y = some l0 → l0.str ≠ n.str ++ l1 := fun y l0 hy e => by
    have hne : p ≠ y := fun e' => by
      rw [← e', hp] at hy
      cases hy
      have := congrArg List.length e
      rw [List.length_append, ht1, List.length_cons] at this
      omega
    have := (below y l0 hy (by rw [e]; exact List.prefix_append ..) hne (by rw [e, List.drop_left]; exact List.prefix_refl _)).length_le
    rw [e, hms, lb, ht2] at this
    simp only [List.length_append, List.length_cons] at this
    omega
  refine ⟨?_, fun x => ?_, List.nodup_cons.2 ⟨hqd, h.nd⟩, fun x r d y hx hy => ?_, fun x y r l hx hy e => ?_, fun x y r l hx hy hpre hne => ?_, fun x r hx => ?_, ?_, fun x r hx => ?_⟩
  · obtain ⟨r, e1, e2, e3⟩ := h.top
    obtain ⟨_, r', e4, e5, e6, _⟩ := fwd _ _ e1
    exact ⟨r', e4, e5.trans e2, (e6 hcr.symm).trans e3⟩
  · rw [List.mem_cons, h.mem x]
    by_cases e1 : x = c
    · rw [e1, Gc, hc]; simp
    · by_cases e : x = q
      · rw [e, Gq]; simp
      · by_cases e2 : x = p
        · rw [e2, Gp, hp]; simp
        · rw [Go x e1 e e2]; simp [e]
  · by_cases e : x = q
    · subst e
      rw [Gq] at hx
      cases hx
      rw [n3] at hy
      unfold updK at hy
      split at hy
      · rename_i e
        cases hy
        refine ⟨m', Gc, ?_, by rw [m2, ht2, e]; rfl⟩
        rw [m1, hms, lb, n1, m2, List.append_assoc]
      · cases hy
    · obtain ⟨r0, e1, e2, _, _, _, e4⟩ := inv x r hx e
      by_cases exp : x = p
      · subst exp
        rw [Gp] at hx
        cases hx
        rw [hp] at e1
        cases e1
        simp only [splP, updK] at hy
        split at hy
        · rename_i e
          cases hy
          exact ⟨N, Gq, by rw [n1, n2]; rfl, by rw [n2, ht1, e]; rfl⟩
        · rename_i hdb
          obtain ⟨k, e6, e7, e8⟩ := h.kid x n d y hp hy
          have hyc : y ≠ c := fun e => hdb (h.kid_one hp hy hp (e ▸ hk)).2
          obtain ⟨_, k', e9, e10, e11, _⟩ := fwd _ _ e6
          exact ⟨k', e9, by rw [e10, e7, e11 hyc]; rfl, by rw [e11 hyc]; exact e8⟩
      · rw [e4 exp] at hy
        obtain ⟨k, e6, e7, e8⟩ := h.kid x r0 d y e1 hy
        have hyc : y ≠ c := fun e => exp (h.kid_one e1 hy hp (e ▸ hk)).1
        obtain ⟨_, k', e9, e10, e11, _⟩ := fwd _ _ e6
        exact ⟨k', e9, by rw [e10, e7, e2, e11 hyc], by rw [e11 hyc]; exact e8⟩
  · by_cases ex : x = q
    · by_cases ey : y = q
      · rw [ex, ey]
      · rw [ex, Gq] at hx
        cases hx
        obtain ⟨l0, e1, e2, _⟩ := inv y l hy ey
        exact absurd (by rw [← e2, ← e, n1]) (noN y l0 e1)
    · obtain ⟨r0, e1, e2, _⟩ := inv x r hx ex
      by_cases ey : y = q
      · rw [ey, Gq] at hy
        cases hy
        exact absurd (by rw [← e2, e, n1]) (noN x r0 e1)
      · obtain ⟨l0, e3, e4, _⟩ := inv y l hy ey
        exact h.inj x y r0 l0 e1 e3 (by rw [← e2, ← e4]; exact e)
  · by_cases ex : x = q
    · rw [ex, Gq] at hx
      cases hx
      have hyq : y ≠ q := fun e => hne (ex.trans e.symm)
      obtain ⟨l0, e1, e2, _⟩ := inv y l hy hyq
      rw [e2, n1] at hpre
      have hpy : p ≠ y := fun e => by
        rw [← e, hp] at e1
        cases e1
        have := hpre.length_le
        rw [List.length_append, ht1, List.length_cons] at this
        omega
      have hb := below y l0 e1 ((List.prefix_append ..).trans hpre) hpy (by
        obtain ⟨u, hu⟩ := hpre
        rw [← hu, List.append_assoc, List.drop_left]
        exact List.prefix_append ..)
      exact ⟨b2, c, m', by rw [n3]; exact updK_same .., Gc, by rw [m1, e2]; exact hb⟩
    · obtain ⟨r0, e1, e2, _, _, _, e3⟩ := inv x r hx ex
      by_cases ey : y = q
      · rw [ey, Gq] at hy
        cases hy
        rw [e2, n1] at hpre
        by_cases exp : x = p
        · subst exp
          rw [Gp] at hx
          cases hx
          exact ⟨b, q, N, updK_same .., Gq, List.prefix_refl _⟩
        · have hx2 : r0.str <+: n.str := by
            rcases prefix_both hpre (List.prefix_append n.str l1) with h1 | h1
            · exact h1
            · exfalso
              obtain ⟨b', q', k, t', e4, e5, e6, e7, e8⟩ := h.next hp e1 h1 (fun e => exp e.symm)
              have e9 := e6.trans hpre
              rw [e7] at e9
              obtain ⟨u, hu⟩ := (List.prefix_append_right_inj _).1 e9
              have : b' = b := by
                rw [e8, ht1] at hu
                simp at hu
                exact hu.1
              rw [this, hk] at e4
              cases e4
              rw [hc] at e5
              cases e5
              have := (e6.trans hpre).length_le
              rw [hms, lb, ht2] at this
              simp only [List.length_append, List.length_cons] at this
              omega
          obtain ⟨b', q', k, e5, e6, e7⟩ := h.way x p r0 n e1 hp hx2 exp
          obtain ⟨_, k', e8, e9, _⟩ := fwd _ _ e6
          exact ⟨b', q', k', by rw [e3 exp]; exact e5, e8, by rw [e9, n1]; exact e7.trans (List.prefix_append ..)⟩
      · obtain ⟨l0, e4, e5, _⟩ := inv y l hy ey
        rw [e2, e5] at hpre
        obtain ⟨b', q', k, e6, e7, e8⟩ := h.way x y r0 l0 e1 e4 hpre hne
        obtain ⟨_, k', e9, e10, _⟩ := fwd _ _ e7
        by_cases exp : x = p
        · subst exp
          rw [Gp] at hx
          cases hx
          rw [hp] at e1
          cases e1
          by_cases eb : b' = b
          · subst eb
            rw [hk] at e6
            cases e6
            rw [hc] at e7
            cases e7
            refine ⟨b', q, N, updK_same .., Gq, ?_⟩
            rw [n1, e5]
            refine List.IsPrefix.trans ?_ e8
            rw [hms, lb, ← List.append_assoc]
            exact List.prefix_append ..
          · exact ⟨b', q', k', by show updK n.kid b (some q) b' = _; rw [updK_other _ _ eb]; exact e6, e9, by rw [e10, e5]; exact e8⟩
        · exact ⟨b', q', k', by rw [e3 exp]; exact e6, e9, by rw [e10, e5]; exact e8⟩
  · by_cases e : x = q
    · rw [e, Gq] at hx
      cases hx
      rw [n4, n3]
      refine ⟨by simp, fun d => ?_⟩
      unfold updK
      split <;> simp_all
    · obtain ⟨r0, e1, _, _, e4, _, e5⟩ := inv x r hx e
      by_cases exp : x = p
      · subst exp
        rw [Gp] at hx
        cases hx
        obtain ⟨e6, e7⟩ := h.ks x n hp
        refine ⟨e6, fun d => ?_⟩
        show d ∈ n.ks ↔ (updK n.kid b (some q) d).isSome = true
        rw [e7]
        unfold updK
        split
        · rename_i e; rw [e, hk]; simp
        · rfl
      · rw [e4, e5 exp]
        exact h.ks x r0 e1
  · have e0 : kn (splG g p q c n N m' b) q = 1 := by rw [kn_some Gq, n4]; rfl
    have e1 : (dom.map (kn (splG g p q c n N m' b))).sum = (dom.map (kn g)).sum := sum_congr fun x hx => by
      obtain ⟨r0, hr0⟩ := Option.isSome_iff_exists.1 ((h.mem x).1 hx)
      obtain ⟨hxq, r, hr, _⟩ := fwd x r0 hr0
      obtain ⟨r1, hr1, _, _, hks, _⟩ := inv x r hr hxq
      rw [hr0] at hr1
      cases hr1
      rw [kn_some hr, kn_some hr0, hks]
    have e3 := h.sum
    show ((q :: dom).map (kn (splG g p q c n N m' b))).sum + 1 = _
    rw [List.map_cons, List.sum_cons, e0, e1, List.length_cons]
    unfold kn
    omega
  · by_cases e : x = q
    · rw [e, Gq] at hx
      cases hx
      rw [n5]
      exact List.Pairwise.nil
    · obtain ⟨r0, e1, _, e3, _⟩ := inv x r hx e
      rw [e3]
      exact h.rise x r0 e1
/-- What a look at the parted trie finds. -/
theorem SplAt.gets {g : Gr} {p q c : Nat} {n N m m' : ND} {b b2 : UInt8} {l1 l2 : List UInt8} (S : SplAt g p q c n N m m' b b2 l1 l2) (hcp : c ≠ p) : splG g p q c n N m' b q = some N ∧ splG g p q c n N m' b c = some m' ∧ splG g p q c n N m' b p = some (splP n b q) ∧ ∀ x, x ≠ c → x ≠ q → x ≠ p → splG g p q c n N m' b x = g x := by
  have hpq : p ≠ q := fun e => by have := S.hp; rw [e, S.hq] at this; cases this
  have hcq : c ≠ q := fun e => by have := S.hc; rw [e, S.hq] at this; cases this
  exact ⟨by unfold splG; rw [updG_other _ _ hcq.symm, updG_same], updG_same .., by unfold splG; rw [updG_other _ _ hcp.symm, updG_other _ _ hpq, updG_same], fun x e1 e2 e3 => by unfold splG; rw [updG_other _ _ e1, updG_other _ _ e2, updG_other _ _ e3]⟩
theorem Tells.split {g : Gr} {root : Nat} {dom : List Nat} {E : List UInt8 → List Int} (h : WF g root dom) (ht : Tells g E) {p q c : Nat} {n N m m' : ND} {b b2 : UInt8} {l1 l2 : List UInt8} (S : SplAt g p q c n N m m' b b2 l1 l2) : Tells (splG g p q c n N m' b) E := by
  have hcp := (h.kid_ne S.hp S.hk).2
  obtain ⟨Gq, Gc, Gp, Go⟩ := S.gets hcp
  have hw := h.split S
  refine ⟨fun x r hx => ?_, fun s hs => ?_⟩
  · by_cases e1 : x = c
    · rw [e1, Gc] at hx; cases hx; rw [S.m5, S.m1]; exact ht.node c m S.hc
    · by_cases e2 : x = q
      · rw [e2, Gq] at hx
        cases hx
        rw [S.n5]
        by_cases e : E N.str = []
        · exact e.symm
        · exfalso
          obtain ⟨y, k, e3, e4⟩ := ht.here _ e
          have hyq : y ≠ q := fun e => by rw [e, S.hq] at e3; cases e3
          have : ∃ k', splG g p q c n N m' b y = some k' ∧ k'.str = k.str := by
            by_cases e5 : y = c
            · rw [e5] at e3 ⊢; rw [S.hc] at e3; cases e3; exact ⟨m', Gc, S.m1⟩
            · by_cases e6 : y = p
              · rw [e6] at e3 ⊢; rw [S.hp] at e3; cases e3; exact ⟨_, Gp, rfl⟩
              · exact ⟨k, by rw [Go y e5 hyq e6]; exact e3, rfl⟩
          obtain ⟨k', e5, e6⟩ := this
          exact hyq (hw.inj y q k' N e5 Gq (by rw [e6, e4]))
      · by_cases e3 : x = p
        · rw [e3, Gp] at hx; cases hx; exact ht.node p n S.hp
        · rw [Go x e1 e2 e3] at hx; exact ht.node x r hx
  · obtain ⟨y, k, e3, e4⟩ := ht.here _ hs
    have hyq : y ≠ q := fun e => by rw [e, S.hq] at e3; cases e3
    by_cases e5 : y = c
    · rw [e5, S.hc] at e3; cases e3; exact ⟨c, m', Gc, by rw [S.m1]; exact e4⟩
    · by_cases e6 : y = p
      · rw [e6, S.hp] at e3; cases e3; exact ⟨p, _, Gp, e4⟩
      · exact ⟨y, k, by rw [Go y e5 hyq e6]; exact e3, e4⟩
theorem MinX.split {g : Gr} {root : Nat} {dom : List Nat} (h : WF g root dom) (hm : Min0 g root) {p q c : Nat} {n N m m' : ND} {b b2 : UInt8} {l1 l2 : List UInt8} (S : SplAt g p q c n N m m' b b2 l1 l2) : MinX (splG g p q c n N m' b) root q := fun x r hx h1 h2 => by
  have hcp := (h.kid_ne S.hp S.hk).2
  obtain ⟨Gq, Gc, Gp, Go⟩ := S.gets hcp
  by_cases e1 : x = c
  · rw [e1, Gc] at hx; cases hx; rw [S.m5, S.m4]; exact hm c m S.hc (e1 ▸ h1)
  · by_cases e3 : x = p
    · rw [e3, Gp] at hx; cases hx; exact hm p n S.hp (e3 ▸ h1)
    · rw [Go x e1 h2 e3] at hx; exact hm x r hx h1

end Go.Proofs.Ytmbniakobhaomaa
