/-
  The landed package trie: nodeOf, as its text runs.
-/
import Derived.Test.YtmbniakobhaomaaTeWkc
namespace Go.Proofs.Ytmbniakobhaomaa
open Go.ChangeShapes Go.WideShapes Go.ChangeAt Go.RowKit
set_option linter.unusedVariables false
set_option maxRecDepth 100000
attribute [local go_sem ↓] Go.wp_at_zero Go.wp_at_succ

/-- A trie in memory, its nodes named. -/
structure TrX (w : World) (T root : Nat) (g : Gr) (dom : List Nat) (E : List UInt8 → List Int) (len : Int) (k : Nat) : Prop where
  wf : WF g root dom
  tells : Tells g E
  gm : GMem w g
  top : TopAt w T (nP root) dom.length len
  few : dom.length ≤ 2 * k + 1
  ids : ∀ p n, g p = some n → n.ids.length ≤ k
  str : ∀ p n, g p = some n → n.str.length ≤ 1000
  lab : ∀ p n, g p = some n → n.lab.size ≤ n.str.length
theorem TrX.up {w w' : World} {T root : Nat} {g : Gr} {dom : List Nat} {E : List UInt8 → List Int} {len : Int} {k : Nat} (h : TrX w T root g dom E len k) (hu : Up w w') : TrX w' T root g dom E len k :=
  ⟨h.wf, h.tells, h.gm.up hu, h.top.up hu, h.few, h.ids, h.str, h.lab⟩
theorem WF.lab {g : Gr} {root : Nat} {dom : List Nat} (h : WF g root dom) {p q : Nat} {n m : ND} {b : UInt8} (hp : g p = some n) (hk : n.kid b = some q) (hq : g q = some m) : m.str = n.str ++ m.lb ∧ (∃ t, m.lb = b :: t) ∧ m.lab.size ≤ m.str.length := by
  obtain ⟨m2, h1, h2, h3⟩ := h.kid p n b q hp hk
  rw [hq] at h1
  cases h1
  refine ⟨h2, head_some h3, ?_⟩
  have e2 : m.lb.length = m.lab.size := Array.length_toList
  have := congrArg List.length h2
  rw [List.length_append] at this
  omega
theorem leaf_funext {g : Gr} {p q : Nat} {n leaf : ND} {b : UInt8} (h : p ≠ q) : updG (updG g q (some leaf)) p (some (leafP n b q)) = leafG g p q n leaf b := by
  funext x
  unfold leafG updG
  by_cases e1 : x = q
  · subst e1; simp [h.symm]
  · simp [e1]
/-- A leaf has come, in memory. -/
theorem leaf_mem {w w1 w2 : World} {T : Nat} {r : Value} {a l : Int} {g : Gr} {p q M : Nat} {n : ND} {b : UInt8} {s : ByteArray} {st : List UInt8} (hg : GMem w g) (ht : TopAt w T r a l) (hp : g p = some n) (hq : w.heap.size ≤ q) (hM : w.heap.size ≤ M) (hN : ∀ st, NAt w1 q (newN s st M)) (ht1 : TopAt w1 T r (a + 1) l) (hc1 : Chg (fun y => y = T) w w1)
    (hm2 : MapB w2 n.mp (updK n.kid b (some q)) (n.ks.length + 1)) (hc2 : Chg (fun y => y = n.mp) w1 w2) : GMem w2 (leafG g p q n (newN s st M) b) ∧ TStep T g (leafG g p q n (newN s st M) b) w w2 ∧ TopAt w2 T r (a + 1) l := by
  have hpq : p ≠ q := fun e => by have := (hg.node p n hp).lt; omega
  have g1 : GMem w1 g := hg.chg hc1 (hg.top ht)
  have g2 := GMem.new hg g1 (n := newN s st M) hq (hN _) hM rfl
  have s2 := TStep.new1 (g := g) (n := newN s st M) hc1 hq hM rfl
  have hp2 : updG g q (some (newN s st M)) p = some n := by rw [updG_other _ _ hpq]; exact hp
  have NP := g2.node p n hp2
  have NP2 : NAt w2 p (leafP n b q) := ⟨(hc2.2 p NP.lt (kd_ne NP.kd1 NP.kd3 (by decide))).trans NP.blk, OwnG.chgT NP.ids hc2 (fun x hx => kd_ne (NP.kd2 hx) NP.kd3 (by decide)), hm2⟩
  have g3 := g2.set1 hc2 hp2 (fun y _ e => .inr (.inr e)) NP2 rfl (fun b h => .inl h)
  have s3 := s2.trans (TStep.set (T := T) (n' := leafP n b q) hp2 hc2 (fun y _ e => .inr (.inr e)) rfl (fun b h => .inl h))
  rw [leaf_funext hpq] at g3 s3
  exact ⟨g3, s3, ht1.chg hc2 (fun e => kd_ne ht1.kd4 NP.kd3 (by decide) e)⟩
theorem leaf_str {g : Gr} {p q : Nat} {n leaf : ND} {b : UInt8} (hp : g p = some n) : ∀ x m, leafG g p q n leaf b x = some m → m = leaf ∨ ∃ m0, g x = some m0 ∧ m.str = m0.str ∧ m.ids = m0.ids ∧ m.lab = m0.lab := fun x m hx => by
  rcases get2 hx with ⟨_, e2⟩ | ⟨_, e1, e2⟩ | ⟨_, _, e2⟩
  · cases e2; exact .inl rfl
  · cases e2; exact .inr ⟨n, by rw [e1]; exact hp, rfl, rfl, rfl⟩
  · exact .inr ⟨m, e2, rfl, rfl, rfl⟩
/-- A leaf has come. -/
theorem TrX.leaf {w w1 w2 : World} {T root : Nat} {g : Gr} {dom : List Nat} {E : List UInt8 → List Int} {len : Int} {k : Nat} (h : TrX w T root g dom E len k) {p q M : Nat} {n : ND} {b : UInt8} {t s : List UInt8} {r : ByteArray} (hd : Deep g root s p n r.data.toList) (hr : r.data.toList = b :: t) (hk : n.kid b = none) (hq : w.heap.size ≤ q) (hM : w.heap.size ≤ M) (hN : ∀ st, NAt w1 q (newN r st M)) (ht1 : TopAt w1 T (nP root) ((dom.length : Int) + 1) len) (hc1 : Chg (fun y => y = T) w w1)
    (hm2 : MapB w2 n.mp (updK n.kid b (some q)) (n.ks.length + 1)) (hc2 : Chg (fun y => y = n.mp) w1 w2) (hs : s.length ≤ 1000) (k' : Nat) (hk' : k ≤ k') (hf : dom.length + 1 ≤ 2 * k' + 1) :
    TrX w2 T root (leafG g p q n (newN r s M) b) (q :: dom) E len k' ∧ TStep T g (leafG g p q n (newN r s M) b) w w2 ∧ leafG g p q n (newN r s M) b q = some (newN r s M) := by
  have hgq : g q = none := by
    cases e : g q with
    | none => rfl
    | some x => have := (h.gm.node q x e).lt; omega
  obtain ⟨g2, s2, t2⟩ := leaf_mem (st := s) h.gm h.top hd.at_ hq hM hN ht1 hc1 hm2 hc2
  refine ⟨⟨h.wf.leaf hd hr hk hgq rfl rfl (fun _ => rfl) rfl rfl, h.tells.leaf h.wf hd hr hgq rfl rfl, g2, by rw [List.length_cons]; exact t2, by rw [List.length_cons]; exact hf, fun x m hx => ?_, fun x m hx => ?_, fun x m hx => ?_⟩, s2, updG_same ..⟩
  · rcases leaf_str hd.at_ x m hx with rfl | ⟨m0, h1, _, h3, _⟩
    · exact Nat.zero_le _
    · rw [h3]; exact Nat.le_trans (h.ids x m0 h1) hk'
  · rcases leaf_str hd.at_ x m hx with rfl | ⟨m0, h1, h2, _⟩
    · exact hs
    · rw [h2]; exact h.str x m0 h1
  · rcases leaf_str hd.at_ x m hx with rfl | ⟨m0, h1, h2, _, h4⟩
    · show r.size ≤ s.length
      have e2 : r.data.toList.length = r.size := Array.length_toList
      rw [hd.eq, List.length_append]
      omega
    · rw [h2, h4]; exact h.lab x m0 h1
/-- A node was parted. -/
theorem TrX.split {w w2 : World} {T root : Nat} {g : Gr} {dom : List Nat} {E : List UInt8 → List Int} {len : Int} {k : Nat} (h : TrX w T root g dom E len k) {p q c : Nat} {n N m m' : ND} {b b2 : UInt8} {l1 l2 : List UInt8} (S : SplAt g p q c n N m m' b b2 l1 l2) (hg : GMem w2 (splG g p q c n N m' b)) (ht : TopAt w2 T (nP root) ((dom.length : Int) + 1) len) (k' : Nat) (hk' : k ≤ k') (hf : dom.length + 1 ≤ 2 * k' + 1) :
    TrX w2 T root (splG g p q c n N m' b) (q :: dom) E len k' := by
  have hcp := (h.wf.kid_ne S.hp S.hk).2
  obtain ⟨Gq, Gc, Gp, Go⟩ := S.gets hcp
  refine ⟨h.wf.split S, h.tells.split h.wf S, hg, by rw [List.length_cons]; exact ht, by rw [List.length_cons]; exact hf, fun x r hx => ?_, fun x r hx => ?_, fun x r hx => ?_⟩
  · by_cases e1 : x = c
    · rw [e1, Gc] at hx; cases hx; rw [S.m5]; exact Nat.le_trans (h.ids c m S.hc) hk'
    · by_cases e2 : x = q
      · rw [e2, Gq] at hx; cases hx; rw [S.n5]; exact Nat.zero_le _
      · by_cases e3 : x = p
        · rw [e3, Gp] at hx; cases hx; exact Nat.le_trans (h.ids p n S.hp) hk'
        · rw [Go x e1 e2 e3] at hx; exact Nat.le_trans (h.ids x r hx) hk'
  · by_cases e1 : x = c
    · rw [e1, Gc] at hx; cases hx; rw [S.m1]; exact h.str c m S.hc
    · by_cases e2 : x = q
      · rw [e2, Gq] at hx; cases hx; rw [S.n1]
        have := h.str c m S.hc
        have e3 := (h.wf.lab S.hp S.hk S.hc).1
        have e4 := congrArg List.length e3
        rw [S.lb] at e4
        simp only [List.length_append] at e4 ⊢
        omega
      · by_cases e3 : x = p
        · rw [e3, Gp] at hx; cases hx; exact h.str p n S.hp
        · rw [Go x e1 e2 e3] at hx; exact h.str x r hx
  · by_cases e1 : x = c
    · rw [e1, Gc] at hx; cases hx
      rw [S.m1]
      have e3 := h.lab c m S.hc
      have e4 : m'.lb.length = m'.lab.size := Array.length_toList
      have e5 : m.lb.length = m.lab.size := Array.length_toList
      rw [S.m2] at e4
      rw [S.lb, List.length_append] at e5
      omega
    · by_cases e2 : x = q
      · rw [e2, Gq] at hx; cases hx
        have e4 : N.lb.length = N.lab.size := Array.length_toList
        rw [S.n2] at e4
        rw [S.n1, List.length_append]
        omega
      · by_cases e3 : x = p
        · rw [e3, Gp] at hx; cases hx; exact h.lab p n S.hp
        · rw [Go x e1 e2 e3] at hx; exact h.lab x r hx

def NodeOut (w : World) (T root : Nat) (g : Gr) (E : List UInt8 → List Int) (len : Int) (k : Nat) (s : List UInt8) (e : Ending) (w' : World) : Prop :=
  ∃ q n' g' dom', e = .returned (.pointer (some ⟨q, 0, none⟩)) ∧ TrX w' T root g' dom' E len (k + 1) ∧ MinX g' root q ∧ TStep T g g' w w' ∧ g' q = some n' ∧ n'.str = s

theorem Min0.x {g : Gr} {root x : Nat} (h : Min0 g root) : MinX g root x := fun p n h1 h2 _ => h p n h1 h2
set_option maxHeartbeats 8000000 in
theorem nodeOf_calls (T root : Nat) (g : Gr) (dom : List Nat) (E : List UInt8 → List Int) (len : Int) (k : Nat) (s : ByteArray) (w : World) (h : TrX w T root g dom E len k) (hm : Min0 g root) (hs : s.size ≤ 1000) (hk : k ≤ 10000) :
    Calls Try.prog 21 #[.pointer (some ⟨T, 0, none⟩), .string s] w fun e w' => NodeOut w T root g E len k s.data.toList e w' := by
  have hsl : s.data.toList.length ≤ 1000 := by rw [show s.data.toList.length = s.size from Array.length_toList]; exact hs
  have HDP := hide (deepest_calls T root dom.length len g dom s w h.wf h.gm h.top)
  have H := hide h
  have HM := hide hm
  have HS := hide (⟨hs, hsl, hk⟩ : _ ∧ _ ∧ _)
  clear h hm hs hsl hk
  go_enter Try.func21, Try.ntmps21
  go_wp2_with fail
  refine HDP.out.mono ?_
  rintro _ w1 ⟨p, n, ab, r, rfl, hd, hu1⟩
  have X := H.out.up hu1
  have S1 := hide (TStep.up (T := T) (g := g) hu1)
  clear HDP hu1 H
  replace hd := hide hd
  dsimp only
  rcases hr : r.data.toList with _ | ⟨b, t⟩
  · obtain rfl := bytes_nil hr
    have hX := hide X
    clear X hr
    go_wp2
    go_ret
    have e1 := hd.out.deep.eq
    rw [List.append_nil] at e1
    exact ⟨p, n, g, dom, rfl, ⟨hX.out.wf, hX.out.tells, hX.out.gm, hX.out.top, by have := hX.out.few; omega, fun x m hx => Nat.le_succ_of_le (hX.out.ids x m hx), hX.out.str, hX.out.lab⟩, HM.out.x, S1.out, hd.out.deep.at_, e1.symm⟩
  · obtain ⟨hz, hb⟩ := bytes_head hr
    have z1 : ¬ r.toList = [] := fun e => by rw [Lib.toList_data, hr] at e; cases e
    have z2 : r.toList.isEmpty = false := by rw [List.isEmpty_eq_false_iff]; exact z1
    have hp := hd.out.deep.at_
    have N := X.gm.node p n hp
    have c2 := N.c2
    have hlk : ∀ k, _ := fun k => (N.map.up ((Up.refl w1).drewN k)).look b
    have hrl : r.data.toList.length = r.size := Array.length_toList
    have hrs : r.size ≤ 1000 := by
      have := congrArg List.length hd.out.deep.eq
      rw [List.length_append, hrl] at this
      have := HS.out.2.1
      omega
    have HR := hide hr
    have HP := hide hp
    have hkb : n.ks.length + 1 < 1000000 := by have := X.wf.ksle hp; have := X.few; have := HS.out.2.2; omega
    have HKB := hide hkb
    have hX := hide X
    clear X N hr hp hkb hrl
    cases hf : n.kid b with
    | none =>
      rw [toldB_none hf] at hlk
      go_wp2_with fail
      go_quiet (fail)
      have X := hX.out.up ((Up.refl w1).drewN nq)
      have S2 := hide (S1.out.trans (TStep.up (T := T) (g := g) ((Up.refl w1).drewN nq)))
      generalize w1.drewN nq = w2 at *
      clear hX hlk c2 S1
      have HMD := hide (made_calls T (nP root) dom.length len r w2 X.top (by have := X.few; have := HS.out.2.2; omega) (by omega))
      have hX := hide X
      clear X
      go_wp2_with fail
      refine HMD.out.mono ?_
      rintro _ w3 ⟨q, M, rfl, hq, hM, hN, ht1, hc1⟩
      clear HMD
      have N := hX.out.gm.node p n HP.out
      have hpT := kd_ne N.kd1 hX.out.top.kd4 (by decide)
      have hmT := kd_ne N.kd3 hX.out.top.kd4 (by decide)
      have hput := hide (put_calls p q n.mp n.ks.length (n.ks.length + 1) n.kid r b t w3 (hc1.cell N.c2 hpT) (hN []).c0 HR.out (N.map.chg hc1 hmT) (by have := HKB.out; omega) (by rw [hf]; rfl))
      have HH := hide (⟨hq, hM, hN, ht1, hc1⟩ : _ ∧ _ ∧ _ ∧ _ ∧ _)
      clear hq hM hN ht1 hc1 N hpT hmT
      dsimp only
      go_wp2_with fail
      refine hput.out.mono ?_
      rintro _ w4 ⟨rfl, hm4, hc4⟩
      clear hput
      have HE := hide (⟨hm4, hc4⟩ : _ ∧ _)
      clear hm4 hc4
      dsimp only
      go_wp2
      go_ret
      obtain ⟨hq, hM, hN, ht1, hc1⟩ := HH.out
      obtain ⟨hx, hst, hgq⟩ := hX.out.leaf hd.out.deep HR.out hf hq hM hN ht1 hc1 HE.out.1 HE.out.2 HS.out.2.1 (k + 1) (Nat.le_succ k) (by have := hX.out.few; omega)
      refine ⟨q, _, _, _, rfl, hx, ?_, S2.out.trans hst, hgq, rfl⟩
      refine MinX.leaf HM.out.x HP.out ?_
      by_cases e : p = root
      · exact .inl e
      · right
        rcases HM.out p n HP.out e with h1 | h1
        · exact .inl h1
        · right; omega
    | some c =>
      rw [toldB_some hf] at hlk
      obtain ⟨m, hc⟩ : ∃ m, g c = some m := by obtain ⟨m, h1, _⟩ := hX.out.wf.kid p n b c HP.out hf; exact ⟨m, h1⟩
      obtain ⟨hms, ⟨tm, htm⟩, hml⟩ := hX.out.wf.lab HP.out hf hc
      have hcp := (hX.out.wf.kid_ne HP.out hf).2
      have hms2 : m.lab.size ≤ 1000 := Nat.le_trans hml (hX.out.str c m hc)
      obtain ⟨sz, hsz⟩ : ∃ sz, sz = likeN m.lb r.data.toList := ⟨_, rfl⟩
      have hnp : ¬ m.lb <+: r.data.toList := hd.out.deep.stop b t c m HR.out hf hc
      obtain ⟨y1, y2, y3, y4⟩ := likeN_spec m.lb r.data.toList
      rw [← hsz] at y1 y2 y3
      have q1 : 1 ≤ sz := by rw [hsz, htm, HR.out]; simp [likeN]
      have q2 : sz < m.lb.length := by
        rcases Nat.lt_or_ge sz m.lb.length with h | h
        · exact h
        · exfalso
          have e : sz = m.lb.length := by omega
          rw [e, List.take_length] at y3
          exact hnp ⟨r.data.toList.drop m.lb.length, by have h9 := List.take_append_drop m.lb.length r.data.toList; rw [← y3] at h9; exact h9⟩
      have r1 : ∃ t, m.lb.take sz = b :: t := by
        rw [htm]
        obtain ⟨z, rfl⟩ : ∃ z, sz = z + 1 := ⟨sz - 1, by omega⟩
        exact ⟨_, rfl⟩
      obtain ⟨b2, t2, r2⟩ : ∃ b2 t2, m.lb.drop sz = b2 :: t2 := ⟨_, _, List.drop_eq_getElem_cons q2⟩
      have hrl : r.data.toList.length = r.size := Array.length_toList
      have x0 : (0 : Int) ≤ (sz : Int) := by omega
      have x1 : (sz : Int) ≤ (r.size : Int) := by omega
      have HAL : Hid (∀ W, Calls Try.prog 33 #[.string m.lab, .string r] W fun e w' => e = .returned (.int .i64 (sz : Nat)) ∧ Up W w') := hide (fun W => by rw [hsz]; exact alike_calls m.lab r W (by omega) (by omega))
      have HSP : Hid (∀ W, Up w1 W → Calls Try.prog 34 #[.pointer (some ⟨T, 0, none⟩), .pointer (some ⟨p, 0, none⟩), .pointer (some ⟨c, 0, none⟩), .int .i64 sz] W fun e w' => SplOut W T (nP root) dom.length len g p c sz n m b b2 e w') := hide (fun W hu => by
        have X := hX.out.up hu
        exact split_calls T p c sz (nP root) dom.length len g n m b b2 W X.gm X.top (by have := X.few; have := HS.out.2.2; omega) HP.out hc hf hcp (by have := HKB.out; omega) (X.wf.ks p n HP.out).2 (by omega) r1 ⟨_, r2⟩)
      have NC := hX.out.gm.node c m hc
      have k0 : ∀ j, (w1.drewN j).cell? ⟨c, 0, none⟩ = some (.string m.lab) := fun j => NC.c0
      have HC := hide (⟨hc, hms, htm, hcp, hnp, y1, y2, y3, q1, q2, r1, r2, hsz, hrl⟩ : _ ∧ _ ∧ _ ∧ _ ∧ _ ∧ _ ∧ _ ∧ _ ∧ _ ∧ _ ∧ _ ∧ _ ∧ _ ∧ _)
      have HY := hide y4
      clear hc hms htm hcp hnp y1 y2 y3 q1 q2 r1 r2 hsz hrl y4 NC hms2 hml
      go_wp2_with fail
      go_quiet (fail)
      have k0' := k0 nq
      have U2 := hide ((Up.refl w1).drewN nq)
      generalize w1.drewN nq = w2 at *
      clear k0 hlk c2
      go_wp2_with fail
      refine (HAL.out w2).mono ?_
      rintro _ w3 ⟨rfl, hu3⟩
      have U3 := hide (U2.out.trans hu3)
      clear hu3 U2 k0' HAL
      dsimp only
      go_wp2_with fail
      go_region_with (go_at_call 34; refine (HSP.out _ (by first | exact U3.out | exact U3.out.drew)).mono ?_; rintro _ w4 hsp; obtain ⟨q, M, rfl, hq, hspl, ht4⟩ := hsp; replace hspl := hide hspl; replace ht4 := hide ht4)
      obtain ⟨N, m', S, hNM, hg4, hs4⟩ := hspl.out
      have hwf1 := hX.out.wf
      have HFW := hide hX.out.few
      have X3 : TrX w3.drew T root g dom E len k := (hX.out.up U3.out).up (Up.refl _).drew
      have X4 := hide (X3.split S hg4 ht4.out (k + 1) (Nat.le_succ k) (by have := X3.few; omega))
      have S4 := hide ((S1.out.trans (TStep.up (T := T) (g := g) (U3.out.drew))).trans hs4)
      have M4 := hide (MinX.split hwf1 HM.out S)
      obtain ⟨hc, hms, htm, hcp, hnp, y1, y2, y3, q1, q2, r1, r2, hsz, hrl⟩ := HC.out
      obtain ⟨Gq, Gc, Gp, Go⟩ := S.gets hcp
      have hNs : N.str ++ (r.data.toList.drop sz) = s.data.toList := by
        rw [S.n1, hd.out.deep.eq, y3, List.append_assoc, List.take_append_drop]
      have hcut : (r.extract sz r.size).data.toList = r.data.toList.drop sz := rest_list r sz
      have HQ := hide (⟨Gq, hNs, hcut, S.n3, S.n4⟩ : _ ∧ _ ∧ _ ∧ _ ∧ _)
      have hne3 : ∀ b3 t3, r.data.toList.drop sz = b3 :: t3 → b3 ≠ b2 := fun b3 t3 e1 e2 => by
        have l1 : sz < r.data.toList.length := by
          rcases Nat.lt_or_ge sz r.data.toList.length with h | h
          · exact h
          · rw [List.drop_of_length_le h] at e1; cases e1
        rw [List.drop_eq_getElem_cons l1] at e1
        rw [List.drop_eq_getElem_cons q2] at r2
        have := HY.out (by rw [← hsz]; exact q2) (by rw [← hsz]; exact l1)
        simp only [← hsz] at this
        injection e1 with e1 _
        injection r2 with r2 _
        exact this (by rw [r2, e1, e2])
      have HNE := hide hne3
      have hrz : (r.extract sz r.size).size ≤ 1000 := by rw [rest_size]; omega
      clear hspl ht4 hg4 hs4 S X3 hc hms htm hcp hnp y1 y2 y3 q1 q2 r1 r2 hsz hrl Gq Gc Gp Go hNs hne3 S1 U3 HSP hX HC HY hNM hwf1
      obtain ⟨r2, hr2⟩ : ∃ r2, r2 = r.extract sz r.size := ⟨_, rfl⟩
      rw [← hr2] at hcut hrz ⊢
      rcases hl2 : r2.data.toList with _ | ⟨b3, t3⟩
      · obtain rfl := bytes_nil hl2
        replace hcut := hide hcut
        replace hl2 := hide hl2
        replace hr2 := hide hr2
        go_wp2
        go_ret
        obtain ⟨Gq, hNs, hc2, _⟩ := HQ.out
        rw [← hcut.out] at hNs
        exact ⟨q, N, _, _, rfl, X4.out, M4.out, S4.out, Gq, by rw [← hNs]; exact (List.append_nil _).symm⟩
      · have z3 : ¬ r2.toList = [] := fun e => by rw [Lib.toList_data, hl2] at e; cases e
        have z4 : r2.toList.isEmpty = false := by rw [List.isEmpty_eq_false_iff]; exact z3
        have HL2 := hide hl2
        replace hcut := hide hcut
        replace hr2 := hide hr2
        clear hl2
        have HMD := hide (made_calls T (nP root) (((q :: dom).length : Nat) : Int) len r2 w4 X4.out.top (by have := X4.out.few; have := HS.out.2.2; omega) (by omega))
        go_wp2_with fail
        refine HMD.out.mono ?_
        rintro _ w5 ⟨q5, M5, rfl, hq5, hM5, hN5, ht5, hc5⟩
        clear HMD
        obtain ⟨Gq, hNs, hcut', n3, n4⟩ := HQ.out
        have NN := X4.out.gm.node q N Gq
        have hpT := kd_ne NN.kd1 X4.out.top.kd4 (by decide)
        have hmT := kd_ne NN.kd3 X4.out.top.kd4 (by decide)
        have hkb3 : N.kid b3 = none := by rw [n3, updK_other _ _ (HNE.out b3 t3 (by rw [← hcut.out]; exact HL2.out))]
        have hput := hide (put_calls q q5 N.mp N.ks.length (N.ks.length + 1) N.kid r2 b3 t3 w5 (hc5.cell NN.c2 hpT) (hN5 []).c0 HL2.out (NN.map.chg hc5 hmT) (by rw [n4]; simp) (by rw [hkb3]; rfl))
        have HH := hide (⟨hq5, hM5, hN5, ht5, hc5⟩ : _ ∧ _ ∧ _ ∧ _ ∧ _)
        have HK3 := hide hkb3
        clear hq5 hM5 hN5 ht5 hc5 NN hpT hmT hkb3 Gq hNs hcut' n3 n4
        dsimp only
        go_wp2_with fail
        refine hput.out.mono ?_
        rintro _ w6 ⟨rfl, hm6, hc6⟩
        clear hput
        have HE := hide (⟨hm6, hc6⟩ : _ ∧ _)
        clear hm6 hc6
        dsimp only
        go_wp2
        go_ret
        obtain ⟨hq5, hM5, hN5, ht5, hc5⟩ := HH.out
        obtain ⟨Gq, hNs, hcut', n3, n4⟩ := HQ.out
        have hD : Deep (splG g p q c n N m' b) root s.data.toList q N r2.data.toList := ⟨Gq, by rw [hcut.out]; exact hNs.symm, fun b' t' q' m'' e1 e2 _ => by
          rw [HL2.out] at e1
          cases e1
          rw [HK3.out] at e2
          cases e2⟩
        obtain ⟨hx, hst, hgq⟩ := X4.out.leaf hD HL2.out HK3.out hq5 hM5 hN5 ht5 hc5 HE.out.1 HE.out.2 HS.out.2.1 (k + 1) (Nat.le_refl _) (by have := HFW.out; simp only [List.length_cons]; omega)
        exact ⟨q5, _, _, _, rfl, hx, MinX.leaf M4.out Gq (.inr (.inr (by rw [n4]; simp))), S4.out.trans hst, hgq, rfl⟩

end Go.Proofs.Ytmbniakobhaomaa
