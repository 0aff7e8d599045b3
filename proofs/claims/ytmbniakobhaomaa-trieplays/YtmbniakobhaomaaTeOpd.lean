/-
  A trie as plain things: a leaf goes; two nodes are made one. No function of the program.
-/
import Derived.Test.YtmbniakobhaomaaTeOpt
namespace Go.Proofs.Ytmbniakobhaomaa
set_option linter.unusedVariables false

/-- A leaf goes. -/
def drpP (n : ND) (b : UInt8) : ND := { n with kid := updK n.kid b none, ks := n.ks.erase b }
def drpG (g : Gr) (p c : Nat) (n : ND) (b : UInt8) : Gr := updG (updG g p (some (drpP n b))) c none
theorem drp_gets {g : Gr} {p c : Nat} {n : ND} {b : UInt8} (hcp : c ≠ p) : drpG g p c n b c = none ∧ drpG g p c n b p = some (drpP n b) ∧ ∀ x, x ≠ c → x ≠ p → drpG g p c n b x = g x :=
  ⟨updG_same .., by unfold drpG; rw [updG_other _ _ hcp.symm, updG_same], fun x e1 e2 => by unfold drpG; rw [updG_other _ _ e1, updG_other _ _ e2]⟩
theorem WF.drop {g : Gr} {root : Nat} {dom : List Nat} (h : WF g root dom) {p c : Nat} {n m : ND} {b : UInt8} (hp : g p = some n) (hk : n.kid b = some c) (hc : g c = some m) (hm : m.ks = []) : WF (drpG g p c n b) root (dom.erase c) := by
  obtain ⟨hcr, hcp⟩ := h.kid_ne hp hk
  obtain ⟨Gc, Gp, Go⟩ := drp_gets (g := g) (n := n) (b := b) hcp
  have hmk : ∀ d, m.kid d = none := fun d => by
    have := (h.ks c m hc).2 d
    rw [hm] at this
    cases e : m.kid d with
    | none => rfl
    | some y => rw [e] at this; simp at this
  have hbn : b ∈ n.ks := by rw [(h.ks p n hp).2, hk]; rfl
  have inv : ∀ x r, drpG g p c n b x = some r → x ≠ c ∧ ∃ r0, g x = some r0 ∧ r.str = r0.str ∧ r.lb = r0.lb ∧ r.ids = r0.ids ∧ (∀ d y, r.kid d = some y → r0.kid d = some y ∧ y ≠ c) ∧ (∀ d y, r0.kid d = some y → y ≠ c → r.kid d = some y) := fun x r hx => by
    have hxc : x ≠ c := fun e => by rw [e, Gc] at hx; cases hx
    refine ⟨hxc, ?_⟩
    by_cases e : x = p
    · subst e
      rw [Gp] at hx
      cases hx
      refine ⟨n, hp, rfl, rfl, rfl, fun d y hy => ?_, fun d y hy hyc => ?_⟩
      · simp only [drpP, updK] at hy
        split at hy
        · cases hy
        · rename_i hd
          exact ⟨hy, fun e => hd (h.kid_one hp hy hp (e ▸ hk)).2⟩
      · have : d ≠ b := fun e => by rw [e, hk] at hy; cases hy; exact hyc rfl
        show updK n.kid b none d = some y
        rw [updK_other _ _ this]; exact hy
    · rw [Go x hxc e] at hx
      exact ⟨r, hx, rfl, rfl, rfl, fun d y hy => ⟨hy, fun e' => e (h.kid_one hx hy hp (e' ▸ hk)).1⟩, fun d y hy _ => hy⟩
  have fwd : ∀ x r0, g x = some r0 → x ≠ c → ∃ r, drpG g p c n b x = some r ∧ r.str = r0.str ∧ r.lb = r0.lb := fun x r0 hx hxc => by
    by_cases e : x = p
    · subst e
      rw [hp] at hx
      cases hx
      exact ⟨_, Gp, rfl, rfl⟩
    · exact ⟨r0, by rw [Go x hxc e]; exact hx, rfl, rfl⟩
  have hpd : p ∈ dom := (h.mem p).2 (by rw [hp]; rfl)
  have hcd : c ∈ dom := (h.mem c).2 (by rw [hc]; rfl)
  refine ⟨?_, fun x => ?_, h.nd.erase c, fun x r d y hx hy => ?_, fun x y r l hx hy e => ?_, fun x y r l hx hy hpre hne => ?_, fun x r hx => ?_, ?_, fun x r hx => ?_⟩
  · obtain ⟨r, e1, e2, e3⟩ := h.top
    obtain ⟨r', e4, e5, e6⟩ := fwd _ _ e1 hcr.symm
    exact ⟨r', e4, e5.trans e2, e6.trans e3⟩
  · rw [h.nd.mem_erase_iff, h.mem x]
    by_cases e1 : x = c
    · rw [e1, Gc]; simp
    · by_cases e : x = p
      · rw [e, Gp, hp]; simp [hcp.symm]
      · rw [Go x e1 e]; simp [e1]
  · obtain ⟨hxc, r0, e1, e2, _, _, e4, _⟩ := inv x r hx
    obtain ⟨e5, hyc⟩ := e4 d y hy
    obtain ⟨k, e6, e7, e8⟩ := h.kid x r0 d y e1 e5
    obtain ⟨k', e9, e10, e11⟩ := fwd _ _ e6 hyc
    exact ⟨k', e9, by rw [e10, e7, e2, e11], by rw [e11]; exact e8⟩
  · obtain ⟨_, r0, e1, e2, _⟩ := inv x r hx
    obtain ⟨_, l0, e3, e4, _⟩ := inv y l hy
    exact h.inj x y r0 l0 e1 e3 (by rw [← e2, ← e4]; exact e)
  · obtain ⟨_, r0, e1, e2, _, _, _, e3⟩ := inv x r hx
    obtain ⟨hyc, l0, e4, e5, _⟩ := inv y l hy
    rw [e2, e5] at hpre
    obtain ⟨b', q', k, e6, e7, e8⟩ := h.way x y r0 l0 e1 e4 hpre hne
    have hq : q' ≠ c := fun e => by
      rw [e, hc] at e7
      cases e7
      obtain ⟨b2, q2, k2, e9, _⟩ := h.way c y m l0 hc e4 e8 (fun e => hyc e.symm)
      rw [hmk] at e9
      cases e9
    obtain ⟨k', e9, e10, _⟩ := fwd _ _ e7 hq
    exact ⟨b', q', k', e3 _ _ e6 hq, e9, by rw [e10, e5]; exact e8⟩
  · have hxc : x ≠ c := fun e => by rw [e, Gc] at hx; cases hx
    by_cases e : x = p
    · subst e
      rw [Gp] at hx
      cases hx
      obtain ⟨e6, e7⟩ := h.ks x n hp
      refine ⟨e6.erase b, fun d => ?_⟩
      show d ∈ n.ks.erase b ↔ (updK n.kid b none d).isSome = true
      rw [e6.mem_erase_iff, e7]
      unfold updK
      split
      · rename_i e; simp [e]
      · rename_i e; simp [e]
    · rw [Go x hxc e] at hx
      exact h.ks x r hx
  · have hpe : p ∈ dom.erase c := by rw [h.nd.mem_erase_iff]; exact ⟨hcp.symm, hpd⟩
    have e1 := sum_upd (f := kn g) (h := kn (drpG g p c n b)) (h.nd.erase c) hpe (fun x hx hxp => by
      rw [h.nd.mem_erase_iff] at hx
      unfold kn
      rw [Go x hx.1 hxp])
    have e2 := sum_erase (f := kn g) hcd
    have e3 := h.sum
    rw [kn_some hp, kn_some Gp] at e1
    rw [kn_some hc, hm] at e2
    have e4 : (drpP n b).ks.length = n.ks.length - 1 := List.length_erase_of_mem hbn
    have e5 : 0 < n.ks.length := List.length_pos_of_mem hbn
    have e6 : (dom.erase c).length = dom.length - 1 := List.length_erase_of_mem hcd
    have e7 : 0 < dom.length := List.length_pos_of_mem hcd
    rw [e6]
    unfold kn at e1 e2
    simp only [List.length_nil] at e2
    omega
  · obtain ⟨_, r0, e1, _, _, e3, _⟩ := inv x r hx
    rw [e3]
    exact h.rise x r0 e1
theorem Tells.drop {g : Gr} {root : Nat} {dom : List Nat} {E : List UInt8 → List Int} (h : WF g root dom) (ht : Tells g E) {p c : Nat} {n m : ND} {b : UInt8} (hp : g p = some n) (hk : n.kid b = some c) (hc : g c = some m) (hm : m.ids = []) : Tells (drpG g p c n b) E := by
  obtain ⟨hcr, hcp⟩ := h.kid_ne hp hk
  obtain ⟨Gc, Gp, Go⟩ := drp_gets (g := g) (n := n) (b := b) hcp
  refine ⟨fun x r hx => ?_, fun s hs => ?_⟩
  · have hxc : x ≠ c := fun e => by rw [e, Gc] at hx; cases hx
    by_cases e : x = p
    · rw [e, Gp] at hx; cases hx; exact ht.node p n hp
    · rw [Go x hxc e] at hx; exact ht.node x r hx
  · obtain ⟨x, r, h1, h2⟩ := ht.here s hs
    have hxc : x ≠ c := fun e => by
      rw [e, hc] at h1
      cases h1
      rw [← h2, ← ht.node c m hc] at hs
      exact hs hm
    by_cases e : x = p
    · rw [e, hp] at h1; cases h1; exact ⟨p, _, Gp, h2⟩
    · exact ⟨x, r, by rw [Go x hxc e]; exact h1, h2⟩
theorem MinX.drop {g : Gr} {root c p : Nat} {n : ND} {b : UInt8} (hm : MinX g root c) (hcp : c ≠ p) : MinX (drpG g p c n b) root p := fun x r hx h1 h2 => by
  obtain ⟨Gc, Gp, Go⟩ := drp_gets (g := g) (n := n) (b := b) hcp
  have hxc : x ≠ c := fun e => by rw [e, Gc] at hx; cases hx
  rw [Go x hxc h2] at hx
  exact hm x r hx h1 hxc

/-- Two nodes are made one. -/
def joiG (g : Gr) (p c : Nat) (N : ND) : Gr := updG (updG g p (some N)) c none
theorem joi_gets {g : Gr} {p c : Nat} {N : ND} (hcp : c ≠ p) : joiG g p c N c = none ∧ joiG g p c N p = some N ∧ ∀ x, x ≠ c → x ≠ p → joiG g p c N x = g x :=
  ⟨updG_same .., by unfold joiG; rw [updG_other _ _ hcp.symm, updG_same], fun x e1 e2 => by unfold joiG; rw [updG_other _ _ e1, updG_other _ _ e2]⟩
structure JoiAt (g : Gr) (p c : Nat) (n m N : ND) (b : UInt8) : Prop where
  hp : g p = some n
  hk : n.kid b = some c
  hc : g c = some m
  ks : n.ks = [b]
  ids : n.ids = []
  n1 : N.str = m.str
  n2 : N.lb = n.lb ++ m.lb
  n3 : N.kid = m.kid
  n4 : N.ks = m.ks
  n5 : N.ids = m.ids
theorem WF.join {g : Gr} {root : Nat} {dom : List Nat} (h : WF g root dom) {p c : Nat} {n m N : ND} {b : UInt8} (S : JoiAt g p c n m N b) (hpr : p ≠ root) : WF (joiG g p c N) root (dom.erase c) := by
  obtain ⟨hp, hk, hc, hks, hids, n1, n2, n3, n4, n5⟩ := S
  obtain ⟨hcr, hcp⟩ := h.kid_ne hp hk
  obtain ⟨Gc, Gp, Go⟩ := joi_gets (g := g) (N := N) hcp
  obtain ⟨hms, mt, hml⟩ : m.str = n.str ++ m.lb ∧ ∃ t, m.lb = b :: t := by
    obtain ⟨m0, e1, e2, e3⟩ := h.kid p n b c hp hk
    rw [hc] at e1; cases e1; exact ⟨e2, head_some e3⟩
  have hlen : n.str.length < m.str.length := by rw [hms, List.length_append, hml, List.length_cons]; omega
  have honly : ∀ d y, n.kid d = some y → d = b ∧ y = c := fun d y hy => by
    have h1 : d ∈ n.ks := by rw [(h.ks p n hp).2, hy]; rfl
    rw [hks, List.mem_singleton] at h1
    rw [h1, hk] at hy
    cases hy
    exact ⟨h1, rfl⟩
  have inv : ∀ x r, joiG g p c N x = some r → x ≠ c ∧ ((x = p ∧ r = N) ∨ (x ≠ p ∧ g x = some r)) := fun x r hx => by
    have hxc : x ≠ c := fun e => by rw [e, Gc] at hx; cases hx
    refine ⟨hxc, ?_⟩
    by_cases e : x = p
    · rw [e, Gp] at hx; cases hx; exact .inl ⟨e, rfl⟩
    · rw [Go x hxc e] at hx; exact .inr ⟨e, hx⟩
  have hpd : p ∈ dom := (h.mem p).2 (by rw [hp]; rfl)
  have hcd : c ∈ dom := (h.mem c).2 (by rw [hc]; rfl)
  have mkid : ∀ d y, m.kid d = some y → y ≠ c ∧ y ≠ p ∧ ∃ k, joiG g p c N y = some k ∧ g y = some k := fun d y hy => by
    obtain ⟨k, e6, e7, e8⟩ := h.kid c m d y hc hy
    have h1 := (h.kid_ne hc hy).2
    have h2 : y ≠ p := fun e => by
      rw [e, hp] at e6
      cases e6
      have := congrArg List.length e7
      rw [List.length_append] at this
      omega
    exact ⟨h1, h2, k, by rw [Go y h1 h2]; exact e6, e6⟩
  refine ⟨?_, fun x => ?_, h.nd.erase c, fun x r d y hx hy => ?_, fun x y r l hx hy e => ?_, fun x y r l hx hy hpre hne => ?_, fun x r hx => ?_, ?_, fun x r hx => ?_⟩
  · obtain ⟨r, e1, e2, e3⟩ := h.top
    exact ⟨r, by rw [Go root hcr.symm hpr.symm]; exact e1, e2, e3⟩
  · rw [h.nd.mem_erase_iff, h.mem x]
    by_cases e1 : x = c
    · rw [e1, Gc]; simp
    · by_cases e : x = p
      · rw [e, Gp, hp]; simp [hcp.symm]
      · rw [Go x e1 e]; simp [e1]
  · obtain ⟨hxc, ⟨rfl, rfl⟩ | ⟨hxp, e1⟩⟩ := inv x r hx
    · rw [n3] at hy
      obtain ⟨_, _, k, e2, e3⟩ := mkid d y hy
      obtain ⟨k', e6, e7, e8⟩ := h.kid c m d y hc hy
      rw [e3] at e6
      cases e6
      exact ⟨k, e2, by rw [n1]; exact e7, e8⟩
    · have hyc : y ≠ c := fun e => hxp (h.kid_one e1 hy hp (e ▸ hk)).1
      obtain ⟨k, e6, e7, e8⟩ := h.kid x r d y e1 hy
      by_cases hyp : y = p
      · rw [hyp, hp] at e6
        cases e6
        refine ⟨N, by rw [hyp]; exact Gp, ?_, ?_⟩
        · rw [n1, hms, e7, n2, List.append_assoc]
        · obtain ⟨t, ht⟩ := head_some e8
          rw [n2, ht]; rfl
      · exact ⟨k, by rw [Go y hyc hyp]; exact e6, e7, e8⟩
  · obtain ⟨hxc, ⟨rfl, rfl⟩ | ⟨hxp, e1⟩⟩ := inv x r hx
    · obtain ⟨hyc, ⟨rfl, rfl⟩ | ⟨hyp, e2⟩⟩ := inv y l hy
      · rfl
      · exact absurd (h.inj y c l m e2 hc (by rw [← e, n1])) hyc
    · obtain ⟨hyc, ⟨rfl, rfl⟩ | ⟨hyp, e2⟩⟩ := inv y l hy
      · exact absurd (h.inj x c r m e1 hc (by rw [e, n1])) hxc
      · exact h.inj x y r l e1 e2 e
  · obtain ⟨hxc, ⟨rfl, rfl⟩ | ⟨hxp, e1⟩⟩ := inv x r hx
    · obtain ⟨hyc, ⟨rfl, rfl⟩ | ⟨hyp, e2⟩⟩ := inv y l hy
      · exact absurd rfl hne
      · rw [n1] at hpre
        obtain ⟨b', q', k, e6, e7, e8⟩ := h.way c y m l hc e2 hpre (fun e => hyc e.symm)
        obtain ⟨_, _, k', e9, e10⟩ := mkid b' q' e6
        rw [e7] at e10
        cases e10
        exact ⟨b', q', k, by rw [n3]; exact e6, e9, e8⟩
    · obtain ⟨hyc, ⟨rfl, rfl⟩ | ⟨hyp, e2⟩⟩ := inv y l hy
      · rw [n1] at hpre
        obtain ⟨b', q', k, e6, e7, e8⟩ := h.way x c r m e1 hc hpre hxc
        have hq : q' ≠ c := fun e => hxp (h.kid_one e1 e6 hp (e ▸ hk)).1
        by_cases hqp : q' = y
        · rw [hqp, hp] at e7
          cases e7
          exact ⟨b', q', l, e6, by rw [hqp]; exact Gp, List.prefix_refl _⟩
        · exact ⟨b', q', k, e6, by rw [Go q' hq hqp]; exact e7, by rw [n1]; exact e8⟩
      · obtain ⟨b', q', k, e6, e7, e8⟩ := h.way x y r l e1 e2 hpre hne
        have hq : q' ≠ c := fun e => hxp (h.kid_one e1 e6 hp (e ▸ hk)).1
        by_cases hqp : q' = p
        · rw [hqp, hp] at e7
          cases e7
          refine ⟨b', q', N, e6, by rw [hqp]; exact Gp, ?_⟩
          obtain ⟨b2, q2, k2, e9, e10, e11⟩ := h.way p y n l hp e2 e8 (fun e => hyp e.symm)
          obtain ⟨_, e12⟩ := honly _ _ e9
          rw [e12, hc] at e10
          cases e10
          rw [n1]
          exact e11
        · exact ⟨b', q', k, e6, by rw [Go q' hq hqp]; exact e7, e8⟩
  · obtain ⟨hxc, ⟨rfl, rfl⟩ | ⟨hxp, e1⟩⟩ := inv x r hx
    · rw [n3, n4]; exact h.ks c m hc
    · exact h.ks x r e1
  · have hpe : p ∈ dom.erase c := by rw [h.nd.mem_erase_iff]; exact ⟨hcp.symm, hpd⟩
    have e1 := sum_upd (f := kn g) (h := kn (joiG g p c N)) (h.nd.erase c) hpe (fun x hx hxp => by
      rw [h.nd.mem_erase_iff] at hx
      unfold kn
      rw [Go x hx.1 hxp])
    have e2 := sum_erase (f := kn g) hcd
    have e3 := h.sum
    rw [kn_some hp, kn_some Gp, hks, n4] at e1
    rw [kn_some hc] at e2
    have e6 : (dom.erase c).length = dom.length - 1 := List.length_erase_of_mem hcd
    have e7 : 0 < dom.length := List.length_pos_of_mem hcd
    rw [e6]
    unfold kn at e1 e2
    simp only [List.length_cons, List.length_nil] at e1
    omega
  · obtain ⟨hxc, ⟨rfl, rfl⟩ | ⟨hxp, e1⟩⟩ := inv x r hx
    · rw [n5]; exact h.rise c m hc
    · exact h.rise x r e1
theorem Tells.join {g : Gr} {root : Nat} {dom : List Nat} {E : List UInt8 → List Int} (h : WF g root dom) (ht : Tells g E) {p c : Nat} {n m N : ND} {b : UInt8} (S : JoiAt g p c n m N b) : Tells (joiG g p c N) E := by
  obtain ⟨hcr, hcp⟩ := h.kid_ne S.hp S.hk
  obtain ⟨Gc, Gp, Go⟩ := joi_gets (g := g) (N := N) hcp
  refine ⟨fun x r hx => ?_, fun s hs => ?_⟩
  · have hxc : x ≠ c := fun e => by rw [e, Gc] at hx; cases hx
    by_cases e : x = p
    · rw [e, Gp] at hx; cases hx; rw [S.n5, S.n1]; exact ht.node c m S.hc
    · rw [Go x hxc e] at hx; exact ht.node x r hx
  · obtain ⟨x, r, h1, h2⟩ := ht.here s hs
    by_cases hxc : x = c
    · rw [hxc, S.hc] at h1; cases h1; exact ⟨p, N, Gp, by rw [S.n1]; exact h2⟩
    · have e : x ≠ p := fun e => by
        rw [e, S.hp] at h1
        cases h1
        rw [← h2, ← ht.node p n S.hp] at hs
        exact hs S.ids
      exact ⟨x, r, by rw [Go x hxc e]; exact h1, h2⟩
theorem MinX.join {g : Gr} {root p c : Nat} {n m N : ND} {b : UInt8} (hm : MinX g root p) (S : JoiAt g p c n m N b) (hcp : c ≠ p) (hcr : c ≠ root) : Min0 (joiG g p c N) root := fun x r hx h1 => by
  obtain ⟨Gc, Gp, Go⟩ := joi_gets (g := g) (N := N) hcp
  have hxc : x ≠ c := fun e => by rw [e, Gc] at hx; cases hx
  by_cases e : x = p
  · rw [e, Gp] at hx; cases hx
    rw [S.n5, S.n4]
    exact hm c m S.hc hcr hcp
  · rw [Go x hxc e] at hx; exact hm x r hx h1 e

end Go.Proofs.Ytmbniakobhaomaa
