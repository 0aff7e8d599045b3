/-
  The landed package trie: Prefix, All, as their text runs.
-/
import Derived.Test.YtmbniakobhaomaaTeEnt
namespace Go.Proofs.Ytmbniakobhaomaa
open Go.ChangeShapes Go.WideShapes Go.ChangeAt Go.RowKit
set_option linter.unusedVariables false
set_option maxRecDepth 100000
attribute [local go_sem ↓] Go.wp_at_zero Go.wp_at_succ

/-- What is below where one has gone down. -/
theorem below_of {g : Gr} {root : Nat} {dom : List Nat} {E : List UInt8 → List Int} (h : WF g root dom) (ht : Tells g E) {s : List UInt8} {p : Nat} {n : ND} {b : UInt8} {t : List UInt8} (hd : Deep g root s p n (b :: t)) {u : List UInt8} (hu : s <+: u) (hE : E u ≠ []) :
    ∃ q m, n.kid b = some q ∧ g q = some m ∧ m.str <+: u ∧ (b :: t) <+: m.lb := by
  obtain ⟨x, k, h1, h2⟩ := ht.here u hE
  obtain ⟨v, hv⟩ := hu
  have hpre : n.str <+: k.str := by rw [h2, ← hv, hd.eq, List.append_assoc]; exact List.prefix_append ..
  have hne : p ≠ x := fun e => by
    have := hd.at_
    rw [e, h1] at this
    cases this
    have := congrArg List.length h2
    rw [← hv, hd.eq] at this
    simp at this
  obtain ⟨b', q, m, tl, h3, h4, h5, h6, h7⟩ := h.next hd.at_ h1 hpre hne
  rw [h2] at h5
  have h8 := h5
  rw [h6, ← hv, hd.eq, List.append_assoc] at h8
  have h9 : m.lb <+: (b :: t) ++ v := (List.prefix_append_right_inj _).1 h8
  have hb : b' = b := by
    obtain ⟨z, hz⟩ := h9
    rw [h7] at hz
    simp at hz
    exact hz.1
  subst hb
  refine ⟨q, m, h3, h4, h5, ?_⟩
  rcases prefix_both h9 (List.prefix_append (b' :: t) v) with h | h
  · exact absurd h (hd.stop b' t q m rfl h3 h4)
  · exact h
theorem ents_none {g : Gr} {root : Nat} {dom : List Nat} {E : List UInt8 → List Int} (h : WF g root dom) (ht : Tells g E) {s : List UInt8} {p : Nat} {n : ND} {b : UInt8} {t : List UInt8} (hd : Deep g root s p n (b :: t)) (hno : ∀ q m, n.kid b = some q → g q = some m → ¬ (b :: t) <+: m.lb) : EntsP E s [] := by
  refine ⟨List.Pairwise.nil, fun u i => ⟨fun h => (by cases h), fun ⟨h1, h2⟩ => ?_⟩⟩
  obtain ⟨q, m, h3, h4, _, h5⟩ := below_of h ht hd h1 (fun e => by rw [e] at h2; cases h2)
  exact absurd h5 (hno q m h3 h4)
theorem ents_kid {g : Gr} {root : Nat} {dom : List Nat} {E : List UInt8 → List Int} (h : WF g root dom) (ht : Tells g E) {s : List UInt8} {p q : Nat} {n m : ND} {b : UInt8} {t : List UInt8} (hd : Deep g root s p n (b :: t)) (hk : n.kid b = some q) (hq : g q = some m) (hpre : (b :: t) <+: m.lb) {L : List SI} (hL : EntsP E m.str L) : EntsP E s L := by
  refine ⟨hL.ord, fun u i => ?_⟩
  rw [hL.mem]
  constructor
  · rintro ⟨h1, h2⟩
    refine ⟨List.IsPrefix.trans ?_ h1, h2⟩
    rw [(h.lab hd.at_ hk hq).1, hd.eq]
    exact (List.prefix_append_right_inj _).2 hpre
  · rintro ⟨h1, h2⟩
    obtain ⟨q2, m2, h3, h4, h5, _⟩ := below_of h ht hd h1 (fun e => by rw [e] at h2; cases h2)
    rw [hk] at h3
    cases h3
    rw [hq] at h4
    cases h4
    exact ⟨h5, h2⟩

/-- No node has more than so many below it. -/
def KidsLe (B : Nat) (E : List UInt8 → List Int) : Prop := ∀ g root dom, WF g root dom → Tells g E → Min0 g root → (∀ p n, g p = some n → n.str.length ≤ 1000) → ∀ p n, g p = some n → n.ks.length ≤ B
theorem kids_of_few {E : List UInt8 → List Int} (A : List (List UInt8)) (hA : ∀ s, E s ≠ [] → s ∈ A) : KidsLe (2 * A.length) E := fun g root dom hw ht hm _ p n hp => by
  obtain ⟨ss, h1, h2, h3⟩ := few_nodes hw hm ht
  have h4 := nodup_le h1 (fun s hs => hA s (h2 s hs))
  have h5 := hw.ksle hp
  omega
/-- Below each node something stands. -/
theorem has_below {g : Gr} {root : Nat} {dom : List Nat} {E : List UInt8 → List Int} (h : WF g root dom) (ht : Tells g E) (hm : Min0 g root) (hs : ∀ p n, g p = some n → n.str.length ≤ 1000) : ∀ (d p : Nat) (n : ND), g p = some n → p ≠ root → 1000 < n.str.length + d → ∃ t, n.str <+: t ∧ E t ≠ []
  | 0, p, n, hp, _, h1 => absurd (hs p n hp) (by omega)
  | d + 1, p, n, hp, hr, h1 => by
    rcases hm p n hp hr with h2 | h2
    · exact ⟨n.str, List.prefix_refl _, by rw [← ht.node p n hp]; exact h2⟩
    · obtain ⟨b, hb⟩ : ∃ b, b ∈ n.ks := List.exists_mem_of_length_pos (by omega)
      obtain ⟨q, hq⟩ := Option.isSome_iff_exists.1 (((h.ks p n hp).2 b).1 hb)
      obtain ⟨m, hm', _⟩ := h.kid p n b q hp hq
      obtain ⟨h3, ⟨tl, h4⟩, _⟩ := h.lab hp hq hm'
      obtain ⟨t, h5, h6⟩ := has_below h ht hm hs d q m hm' (h.kid_ne hp hq).1 (by
        have := congrArg List.length h3
        rw [List.length_append, h4, List.length_cons] at this
        omega)
      exact ⟨t, (show n.str <+: m.str by rw [h3]; exact List.prefix_append ..).trans h5, h6⟩
/-- Where all begin alike there is one below. -/
theorem kids_of_chain {E : List UInt8 → List Int} (all : List UInt8) (hA : ∀ s, E s ≠ [] → s <+: all) : KidsLe 1 E := fun g root dom hw ht hm hs p n hp => by
  have key : ∀ b ∈ n.ks, n.str ++ [b] <+: all := fun b hb => by
    obtain ⟨q, hq⟩ := Option.isSome_iff_exists.1 (((hw.ks p n hp).2 b).1 hb)
    obtain ⟨m, hm', _⟩ := hw.kid p n b q hp hq
    obtain ⟨h3, ⟨tl, h4⟩, _⟩ := hw.lab hp hq hm'
    obtain ⟨t, h5, h6⟩ := has_below hw ht hm hs 1001 q m hm' (hw.kid_ne hp hq).1 (by omega)
    refine List.IsPrefix.trans ?_ (h5.trans (hA t h6))
    rw [h3, h4]
    exact ⟨tl, by simp⟩
  have hnd := (hw.ks p n hp).1
  match hk : n.ks with
  | [] => simp
  | [a] => simp
  | a :: b :: l =>
    exfalso
    rw [hk] at hnd key
    obtain ⟨u, hu⟩ := key a (by simp)
    obtain ⟨v, hv⟩ := key b (by simp)
    rw [← hv, List.append_assoc, List.append_assoc] at hu
    have := List.append_cancel_left hu
    simp at this
    simp [this.1] at hnd
theorem kids_all {E : List UInt8 → List Int} : KidsLe 256 E := fun g root dom hw ht hm hs p n hp => by
  have h1 := nodup_le (A := (List.range 256).map UInt8.ofNat) (hw.ks p n hp).1 (fun b _ => List.mem_map.2 ⟨b.toNat, List.mem_range.2 b.toNat_lt, by simp⟩)
  simpa using h1
theorem KidsLe.mono {B B' : Nat} {E : List UInt8 → List Int} (h : KidsLe B E) (hB : B ≤ B') : KidsLe B' E := fun g root dom h1 h2 h3 h4 p n hp => Nat.le_trans (h g root dom h1 h2 h3 h4 p n hp) hB
def PreOut (w : World) (E : List UInt8 → List Int) (s : List UInt8) (e : Ending) (w' : World) : Prop :=
  ∃ v l, e = .returned v ∧ OwnX w' 0 v l ∧ (∀ x ∈ l, KeyX w' x) ∧ EntsP E s (l.map prX) ∧ (∀ b, v.ownBlock = some b → w.heap.size ≤ b) ∧ (∀ x ∈ l, w.heap.size ≤ x.kb) ∧ Up w w'
theorem EntOut.pre {w0 w w' : World} {pv : Value} {s s' : List UInt8} {E : List UInt8 → List Int} {e : Ending} (h : EntOut w (.slice none 0 0) [] pv s E e w') (hu : Up w0 w) (hpv : ∀ b, pv.ownBlock = some b → w0.heap.size ≤ b) (hs : ∀ L, EntsP E s L → EntsP E s' L) : PreOut w0 E s' e w' := by
  obtain ⟨v, l, h1, h2, h3, h4, h5, h6, h7, h8⟩ := h
  have hs1 := hu.size
  refine ⟨v, l, h1, by simpa using h2, by simpa using h3, hs _ h4, fun b hb => ?_, fun x hx => Nat.le_trans hs1 (h8 x hx), ((Chg.of_up (C := fun y => pv.ownBlock = some y) hu).trans h6 (fun y hy e => e.resolve_left (fun e => by cases e))).up (fun x hx e => by have := hpv x e; omega)⟩
  rcases h7 with h9 | ⟨b', h9, h10⟩
  · rw [h9] at hb; cases hb
  · rw [h9] at hb; cases hb; omega
set_option maxHeartbeats 8000000 in
theorem prefix_calls (B T : Nat) (O : Nat → Prop) (E : List UInt8 → List Int) (len : Int) (k : Nat) (s : ByteArray) (w : World) (hS : SortBy B) (h : TrI w T O E len k) (hk : k ≤ 400) (hs : s.size ≤ 1000) (hB : KidsLe B E) :
    Calls Try.prog 11 #[.pointer (some ⟨T, 0, none⟩), .string s] w fun e w' => PreOut w E s.data.toList e w' := by
  obtain ⟨root, g, dom, hX, hM, rfl⟩ := h
  have HDP := hide (deepest_calls T root dom.length len g dom s w hX.wf hX.gm hX.top)
  have HEN := hide (entries_calls B root g dom E k hS hX.wf hX.tells (by have := hX.few; omega) (by omega) hX.ids hX.str (hB g root dom hX.wf hX.tells hM hX.str))
  have H := hide hX
  clear hX hM hB hS
  go_enter Try.func11, Try.ntmps11
  go_wp2_with fail
  refine HDP.out.mono ?_
  rintro _ w1 ⟨p, n, ab, r, rfl, hd, hu1⟩
  have X1 := hide (H.out.up hu1)
  have HD := hide hd.deep
  have HU1 := hide hu1
  clear HDP H hd hu1
  dsimp only
  rcases hr : r.data.toList with _ | ⟨b, t⟩
  · have hstr : n.str = s.data.toList := by have := HD.out.eq; rw [hr, List.append_nil] at this; exact this.symm
    obtain rfl := bytes_nil hr
    obtain ⟨pv, w2, hcv, hpt, hu2, hpb⟩ := conv_path w1 s (by omega)
    have X2 := X1.out.up hu2
    have hen := hide (HEN.out 1001 p n (.slice none 0 0) pv [] w2 HD.out.at_ (by omega) (Nat.le_refl _) X2.gm (OwnG.nil _ _ _ _ _) (fun x hx => by cases hx) (by rw [hstr]; exact hpt) (by simp))
    have HU2 := hide (HU1.out.trans hu2)
    have HPB : Hid (∀ b, pv.ownBlock = some b → w.heap.size ≤ b) := hide (fun b hb => by rw [hpb] at hb; cases hb; exact HU1.out.size)
    have HST := hide hstr
    clear X2 hpt hu2 hpb hr hstr HEN
    go_wp2_with fail
    refine hen.out.mono ?_
    rintro e w3 ho
    obtain ⟨v, l, rfl, hrest⟩ := ho
    have HO := hide (show EntOut w2 (.slice none 0 0) [] pv n.str E (.returned v) w3 from ⟨v, l, rfl, hrest⟩)
    clear hrest hen
    dsimp only
    go_wp2
    go_ret
    exact HO.out.pre HU2.out HPB.out (fun L hL => by rw [← HST.out]; exact hL)
  · obtain ⟨hz, hb⟩ := bytes_head hr
    have z1 : ¬ r.toList = [] := fun e => by rw [Lib.toList_data, hr] at e; cases e
    have z2 : r.toList.isEmpty = false := by rw [List.isEmpty_eq_false_iff]; exact z1
    have N := X1.out.gm.node p n HD.out.at_
    have c2 := N.c2
    have hlk : ∀ k, _ := fun k => (N.map.up ((Up.refl w1).drewN k)).look b
    have HD2 := HD.out
    rw [hr] at HD2
    have HD3 := hide HD2
    have HR := hide hr
    clear N HD2
    cases hf : n.kid b with
    | none =>
      rw [toldB_none hf] at hlk
      have hn := hide (ents_none (E := E) X1.out.wf X1.out.tells HD3.out (fun q m h1 => by rw [hf] at h1; cases h1))
      clear hf hr
      go_wp2_with fail
      go_quiet (fail)
      go_wp2
      go_ret
      exact ⟨_, [], rfl, OwnG.nil _ _ _ _ _, fun x hx => (by cases hx), hn.out, fun b hb => (by cases hb), fun x hx => (by cases hx), HU1.out.trans ((Up.refl w1).drewN _)⟩
    | some q =>
      rw [toldB_some hf] at hlk
      obtain ⟨m, hm⟩ : ∃ m, g q = some m := by obtain ⟨m, h1, _⟩ := X1.out.wf.kid p n b q HD.out.at_ hf; exact ⟨m, h1⟩
      have k0 := (X1.out.gm.node q m hm).c0
      cases hh : Lib.hasPrefix m.lab.data.toList r.data.toList with
      | false =>
        have hn := hide (ents_none (E := E) X1.out.wf X1.out.tells HD3.out (fun q' m' h1 h2 h3 => by
          rw [hf] at h1
          cases h1
          rw [hm] at h2
          cases h2
          unfold Lib.hasPrefix at hh
          have h4 : r.data.toList <+: m.lab.data.toList := by rw [hr]; exact h3
          rw [List.isPrefixOf_iff_prefix.2 h4] at hh
          cases hh))
        clear hf hr
        go_wp2_with fail
        go_quiet (fail)
        go_wp2_with (go_at_call 26; refine (Try.strings_HasPrefix m.lab r _).mono ?_; rintro _ _ ⟨rfl, rfl⟩; rw [hh])
        go_ret
        exact ⟨_, [], rfl, OwnG.nil _ _ _ _ _, fun x hx => (by cases hx), hn.out, fun b hb => (by cases hb), fun x hx => (by cases hx), HU1.out.trans ((Up.refl w1).drewN _)⟩
      | true =>
        have hpre : (b :: t) <+: m.lb := by
          unfold Lib.hasPrefix at hh
          rw [hr] at hh
          exact List.isPrefixOf_iff_prefix.1 hh
        have hms := (X1.out.wf.lab HD.out.at_ hf hm).1
        have hrm : r.size ≤ m.lab.size := by
          have e1 : r.data.toList.length = r.size := Array.length_toList
          have e2 : m.lb.length = m.lab.size := Array.length_toList
          have := hpre.length_le
          rw [← hr] at this
          omega
        have y0 : (0 : Int) ≤ (r.size : Int) := by omega
        have y1 : (r.size : Int) ≤ (m.lab.size : Int) := by omega
        have hcat : (s ++ m.lab.extract r.size m.lab.size).data.toList = m.str := by
          rw [ByteArray.data_append, Array.toList_append, rest_list, hms, HD3.out.eq, List.append_assoc]
          congr 1
          have e1 : r.data.toList.length = r.size := Array.length_toList
          obtain ⟨u, hu⟩ := hpre
          show (b :: t) ++ m.lb.drop r.size = m.lb
          rw [← hu, ← e1, hr, List.drop_left]
        have hcs : (s ++ m.lab.extract r.size m.lab.size).size ≤ 1000000 := by
          have e1 : (s ++ m.lab.extract r.size m.lab.size).data.toList.length = (s ++ m.lab.extract r.size m.lab.size).size := Array.length_toList
          rw [hcat] at e1
          have := X1.out.str q m hm
          omega
        have hov : ¬ 9223372036854775807 < s.size + (m.lab.size - r.size) := by
          have e2 : m.lb.length = m.lab.size := Array.length_toList
          have h1 := congrArg List.length hms
          rw [List.length_append] at h1
          have := X1.out.str q m hm
          omega
        have HKD := hide (fun L (hL : EntsP E m.str L) => ents_kid X1.out.wf X1.out.tells HD3.out hf hm hpre hL)
        have HM := hide hm
        have HCAT := hide hcat
        have HCS := hide hcs
        clear hf hpre hms hrm hcat hcs hm hr
        go_wp2_with fail
        go_quiet (fail)
        have X2 := hide (X1.out.up ((Up.refl w1).drewN nq))
        have HU2 := hide (HU1.out.trans ((Up.refl w1).drewN nq))
        replace k0 := (((Up.refl w1).drewN nq).cell k0)
        generalize w1.drewN nq = w2 at *
        obtain ⟨pv, w3, hcv, hpt, hu3, hpb⟩ := conv_path w2 (s ++ m.lab.extract r.size m.lab.size) HCS.out
        have X3 := X2.out.up hu3
        have hen := hide (HEN.out 1001 q m (.slice none 0 0) pv [] w3 HM.out (by omega) (Nat.le_refl _) X3.gm (OwnG.nil _ _ _ _ _) (fun x hx => by cases hx) (by rw [← HCAT.out]; exact hpt) (by simp))
        have HU3 := hide (HU2.out.trans hu3)
        have HPB : Hid (∀ b, pv.ownBlock = some b → w.heap.size ≤ b) := hide (fun b hb => by rw [hpb] at hb; cases hb; exact HU2.out.size)
        clear X3 hpt hu3 hpb HEN hlk c2 X1
        go_wp2_with (go_at_call 26; refine (Try.strings_HasPrefix m.lab r _).mono ?_; rintro _ _ ⟨rfl, rfl⟩; rw [hh])
        refine hen.out.mono ?_
        rintro e w4 ho
        obtain ⟨v, l, rfl, hrest⟩ := ho
        have HO := hide (show EntOut w3 (.slice none 0 0) [] pv m.str E (.returned v) w4 from ⟨v, l, rfl, hrest⟩)
        clear hrest hen
        dsimp only
        go_wp2
        go_ret
        exact HO.out.pre HU3.out HPB.out HKD.out

theorem all_calls (B T : Nat) (O : Nat → Prop) (E : List UInt8 → List Int) (len : Int) (k : Nat) (w : World) (hS : SortBy B) (h : TrI w T O E len k) (hk : k ≤ 400) (hB : KidsLe B E) :
    Calls Try.prog 10 #[.pointer (some ⟨T, 0, none⟩)] w fun e w' => PreOut w E [] e w' := by
  have HP := hide (prefix_calls B T O E len k ⟨#[]⟩ w hS h hk (by decide) hB)
  clear h hS hB
  go_enter Try.func10, Try.ntmps10
  go_wp2_with fail
  refine HP.out.mono ?_
  rintro _ w1 ⟨v, l, rfl, hrest⟩
  have HR := hide hrest
  clear hrest HP
  dsimp only
  go_wp2
  go_ret
  exact ⟨v, l, rfl, HR.out⟩

end Go.Proofs.Ytmbniakobhaomaa
