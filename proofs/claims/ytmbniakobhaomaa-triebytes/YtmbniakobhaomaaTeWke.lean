/-
  The landed package trie: Insert, Find, Len, Nodes, New, as their text runs.
-/
import Derived.Test.YtmbniakobhaomaaTeWkd
namespace Go.Proofs.Ytmbniakobhaomaa
open Go.ChangeShapes Go.WideShapes Go.ChangeAt Go.RowKit
set_option linter.unusedVariables false
set_option maxRecDepth 100000
attribute [local go_sem ↓] Go.wp_at_zero Go.wp_at_succ

theorem insJ_nil (vb : Nat) (x : Int) (w : World) (hv : w.cell? ⟨vb, 0, none⟩ = some (.int .i64 x)) :
    Calls Try.prog 23 #[.slice none 0 0, .int .i64 0, .slice (some ⟨vb, 0, none⟩) 1 1] w fun e w' => InsPost w (.slice none 0 0) [x] e w' := by
  have HV := hide hv
  clear hv
  go_enter Try.func23, Try.ntmps23
  go_wp2_with (at_builtin; refine append_ids rfl _ _ rfl 0 _ [] rfl (OwnG.nil _ _ _ _ _) ⟨vb, 0, none⟩ 1 1 [x] rfl rfl (fun j hj => ?_) (by simp) (Nat.zero_le _) ?_)
  all_goals first
    | (obtain rfl : j = 0 := by simpa using hj
       simpa [Addr.add_lit] using HV.out)
    | (intro v' w' ho hg hat
       have HO2 := hide ho
       have HG := hide hg
       have HA := hide hat
       clear ho hg hat
       go_wp2
       go_ret
       refine ⟨v', rfl, HO2.out, ⟨⟨HG.out.os, HG.out.tape, HG.out.output, HG.out.size, fun k hk => absurd hk (Nat.not_lt_zero k)⟩, fun y hy hne => HG.out.block y hy (fun e => hne e.symm)⟩, ?_⟩
       rcases HA.out with h | h
       · exact .inl h
       · exact .inr ⟨_, h, Nat.le_refl _, (HO2.out.lt _ h).2⟩)
theorem insJ_all (v : Value) (l : List Int) (x : Int) (p vb : Nat) (w : World) (h : OwnJ w 0 v l) (hn : l.length ≤ 1000) (hp : p ≤ l.length) (hvb : w.heap[vb]? = some (.cells #[.int .i64 x] 2 (0, 0))) (hne : ¬ v.ownBlock = some vb) :
    Calls Try.prog 23 #[v, .int .i64 p, .slice (some ⟨vb, 0, none⟩) 1 1] w fun e w' => InsPost w v (l.take p ++ x :: l.drop p) e w' := by
  by_cases hl : l = []
  · subst hl
    obtain rfl : p = 0 := by simpa using hp
    rcases h.2 with ⟨rfl, _⟩ | ⟨g, cap, cur, rfl, _⟩
    · exact insJ_nil vb x w (by rw [cell_of hvb]; rfl)
    · exact insJ_end g cap vb 0 [] x w h rfl (Nat.zero_le _) (by rw [cell_of hvb]; rfl)
  · exact insJ_calls v l x p vb w h hl hn hp hvb hne

/-- A trie as a law sees it: what stands with each string, how many entries; O: its blocks. -/
def TrI (w : World) (T : Nat) (O : Nat → Prop) (E : List UInt8 → List Int) (len : Int) (k : Nat) : Prop :=
  ∃ root g dom, TrX w T root g dom E len k ∧ Min0 g root ∧ O = OB g T
theorem TrI.up {w w' : World} {T : Nat} {O : Nat → Prop} {E : List UInt8 → List Int} {len : Int} {k : Nat} (h : TrI w T O E len k) (hu : Up w w') : TrI w' T O E len k := by
  obtain ⟨root, g, dom, h1, h2, h3⟩ := h
  exact ⟨root, g, dom, h1.up hu, h2, h3⟩
theorem TrI.lt {w : World} {T : Nat} {O : Nat → Prop} {E : List UInt8 → List Int} {len : Int} {k : Nat} (h : TrI w T O E len k) : ∀ y, O y → y < w.heap.size := by
  obtain ⟨root, g, dom, h1, h2, rfl⟩ := h
  exact fun y hy => OB.lt h1.gm h1.top hy
theorem TrI.chg {C : Nat → Prop} {w w' : World} {T : Nat} {O : Nat → Prop} {E : List UInt8 → List Int} {len : Int} {k : Nat} (h : TrI w T O E len k) (hc : Chg C w w') (hC : ∀ y, O y → ¬ C y) : TrI w' T O E len k := by
  obtain ⟨root, g, dom, h1, h2, rfl⟩ := h
  exact ⟨root, g, dom, ⟨h1.wf, h1.tells, h1.gm.chg hc ⟨fun q m hq => hC q (.inr ⟨q, m, hq, .inl rfl⟩), fun q m b hq hb => hC b (.inr ⟨q, m, hq, .inr (.inl hb)⟩), fun q m hq => hC m.mp (.inr ⟨q, m, hq, .inr (.inr rfl)⟩)⟩, h1.top.chg hc (hC T (.inl rfl)), h1.few, h1.ids, h1.str, h1.lab⟩, h2, rfl⟩
/-- What a change of a trie leaves. -/
def TrDid (w w' : World) (T : Nat) (O : Nat → Prop) (E : List UInt8 → List Int) (len : Int) (k : Nat) : Prop :=
  ∃ O', TrI w' T O' E len k ∧ Chg O w w' ∧ ∀ y, O' y → O y ∨ w.heap.size ≤ y
theorem TrX.did {w w' : World} {T root : Nat} {g g' : Gr} {dom' : List Nat} {E : List UInt8 → List Int} {len : Int} {k : Nat} (h : TrX w' T root g' dom' E len k) (hm : Min0 g' root) (hs : TStep T g g' w w') : TrDid w w' T (OB g T) E len k :=
  ⟨OB g' T, ⟨root, g', dom', h, hm, rfl⟩, hs.chg, hs.new⟩
theorem MinX.min {g : Gr} {root x : Nat} {n : ND} (h : MinX g root x) (hx : g x = some n) (hn : n.ids ≠ []) : Min0 g root := fun p m h1 h2 => by
  by_cases e : p = x
  · rw [e, hx] at h1; cases h1; exact .inl hn
  · exact h p m h1 h2 e
theorem TrX.mono {w : World} {T root : Nat} {g : Gr} {dom : List Nat} {E : List UInt8 → List Int} {len : Int} {k k' : Nat} (h : TrX w T root g dom E len k) (hk : k ≤ k') : TrX w T root g dom E len k' :=
  ⟨h.wf, h.tells, h.gm, h.top, by have := h.few; omega, fun p n hp => Nat.le_trans (h.ids p n hp) hk, h.str, h.lab⟩

def InsOut (w : World) (T : Nat) (O : Nat → Prop) (E : List UInt8 → List Int) (len : Int) (k : Nat) (s : List UInt8) (id : Int) (e : Ending) (w' : World) : Prop :=
  if id ∈ E s then e = .returned (.int .i64 72) ∧ TrDid w w' T O E len (k + 2)
  else e = .returned (.int .i64 0) ∧ TrDid w w' T O (updE E s (insF (E s) id)) (len + 1) (k + 2)
set_option maxHeartbeats 8000000 in
theorem insert_calls (T : Nat) (O : Nat → Prop) (E : List UInt8 → List Int) (len : Int) (k : Nat) (s : ByteArray) (id : Int) (w : World) (h : TrI w T O E len k) (hs : s.size ≤ 1000) (hk : k ≤ 900) (hl : 0 ≤ len ∧ len ≤ 1000000) :
    Calls Try.prog 9 #[.pointer (some ⟨T, 0, none⟩), .string s, .int .i64 id] w fun e w' => InsOut w T O E len k s.data.toList id e w' := by
  obtain ⟨root, g, dom, hX, hM, rfl⟩ := h
  have HND := hide (nodeOf_calls T root g dom E len k s w hX hM hs (by omega))
  have HB := hide (⟨hk, hl⟩ : _ ∧ _)
  have hw1 : wrap64 (len + 1) = len + 1 := by rw [wrap64]; omega
  clear hX hM hs hk
  go_enter Try.func9, Try.ntmps9
  go_wp2_with fail
  refine HND.out.mono ?_
  rintro _ w1 ⟨q, n, g1, dom1, rfl, X1, M1, S1, hq, hstr⟩
  clear HND
  have N := X1.gm.node q n hq
  have k1 := N.c1
  have f1 := N.fz 1
  have hids := X1.tells.node q n hq
  rw [hstr] at hids
  have hlen := X1.ids q n hq
  have HBS := hide (search_calls n.v n.ids id w1 (N.ids.rd) (by have := HB.out.1; omega) (X1.wf.rise q n hq))
  have hX1 := hide X1
  have hM1 := hide M1
  have hS1 := hide S1
  have HQ := hide (⟨hq, hstr, hids, hlen⟩ : _ ∧ _ ∧ _ ∧ _)
  clear X1 M1 S1 N hq hstr hids hlen
  dsimp only
  go_wp2_with fail
  refine HBS.out.mono ?_
  rintro _ w2 ⟨p, hst, rfl, hu2⟩
  clear HBS
  replace k1 := hu2.cell k1
  have f1' := (hu2.frozen (p := ⟨q, 1, none⟩) (hX1.out.gm.node q n HQ.out.1).lt).trans f1
  clear f1
  have HU2 := hide hu2
  have HST := hide hst
  clear hu2 hst
  by_cases hin : id ∈ n.ids
  · have t1 : decide (id ∈ n.ids) = true := decide_eq_true hin
    rw [t1]
    have HIN := hide hin
    clear hin t1
    dsimp only
    go_wp2
    go_ret
    unfold InsOut
    rw [if_pos (by rw [← HQ.out.2.2.1]; exact HIN.out)]
    exact ⟨rfl, ((hX1.out.up HU2.out).mono (Nat.le_succ _)).did (hM1.out.min HQ.out.1 (fun e => by have := HIN.out; rw [e] at this; cases this)) (hS1.out.trans (TStep.up HU2.out))⟩
  · have t1 : decide (id ∈ n.ids) = false := decide_eq_false hin
    rw [t1]
    have HIN := hide hin
    clear hin t1
    have X2 := hX1.out.up HU2.out
    have N2 := X2.gm.node q n HQ.out.1
    obtain ⟨W3, hW3⟩ : ∃ W3, W3 = w2.alloc (.cells #[.int .i64 id] 2) := ⟨_, rfl⟩
    have hu3 : Up w2 W3 := by rw [hW3]; exact (Up.refl _).alloc _
    have hvb : W3.heap[w2.heap.size]? = some (.cells #[.int .i64 id] 2 (0, 0)) := by rw [hW3]; exact heap_alloc_new _ _
    have HINS := hide (insJ_all n.v n.ids id p w2.heap.size W3 ((N2.up hu3).ids) (by have := HQ.out.2.2.2; have := HB.out.1; omega) HST.out.le hvb (fun e => by have := (N2.ids.lt _ e).2; omega))
    have HU3 := hide (HU2.out.trans hu3)
    have hz3 : w2.heap.size = w2.heap.size := rfl
    clear X2 N2 hvb hu3 hz3
    dsimp only
    go_wp2_with fail
    rw [← hW3]
    refine HINS.out.mono ?_
    rintro _ w4 ⟨v', rfl, ho4, hc4, hb4⟩
    clear HINS
    obtain ⟨va, vn, vc, rfl⟩ : ∃ va vn vc, v' = .slice va vn vc := by obtain ⟨a, c, h, _⟩ := ho4.rd; exact ⟨a, _, c, h⟩
    have X3 := hX1.out.up HU3.out
    have N3 := X3.gm.node q n HQ.out.1
    have hT4 := X3.top.chg hc4 (fun e => kd_ne X3.top.kd4 (N3.kd2 e) (by decide) rfl)
    have hb4q : w4.heap[q]? = _ := (hc4.2 q N3.lt (fun e => kd_ne N3.kd1 (N3.kd2 e) (by decide) rfl)).trans N3.blk
    obtain ⟨W5, hW5⟩ : ∃ W5, w4.setCell ⟨q, 1, none⟩ (.slice va vn vc) = W5 := ⟨_, rfl⟩
    have hb5 : W5.heap[q]? = some (.cells #[.string n.lab, .slice va vn vc, .map (some n.mp)] tNode (0, 0)) := by rw [← hW5]; exact heap_setCell_same w4 q 1 _ _ _ hb4q
    have hc5 : Chg (fun y => y = q) w4 W5 := by rw [← hW5]; exact chg_set w4 ⟨q, 1, none⟩ _
    have hqT : T ≠ q := kd_ne X3.top.kd4 N3.kd1 (by decide)
    have hT5 := hT4.chg hc5 hqT
    have k2 : w4.cell? ⟨q, 1, none⟩ = some n.v := by simp [World.cell?, hb4q]
    have f2 : w4.frozen? ⟨q, 1, none⟩ = false := by simp [World.frozen?, hb4q]
    have k3 := hT5.c2
    have f3 := hT5.fz 2
    have h5q : q < w4.heap.size := lt_of_heap hb4q
    -- the whole
    have hcC : Chg (fun y => y = q ∨ n.v.ownBlock = some y) W3 W5 := (hc4.mono (fun y _ h => Or.inr h)).trans hc5 (fun y _ h => .inl h)
    have hoq : ∀ b, (Value.slice va vn vc).ownBlock = some b → ¬ b = q := fun b hb => kd_ne (own_kd ho4 hb) (by unfold kd; rw [hb4q]; rfl : kd w4 q = 1) (by decide)
    have N5 : NAt W5 q { n with v := .slice va vn vc, ids := n.ids.take p ++ id :: n.ids.drop p } := ⟨hb5, OwnG.chgT ho4 hc5 hoq, N3.map.chg hcC (fun e => e.elim (fun e => kd_ne N3.kd3 N3.kd1 (by decide) e) (fun e => kd_ne N3.kd3 (N3.kd2 e) (by decide) rfl))⟩
    have hvv : ∀ b, (Value.slice va vn vc).ownBlock = some b → n.v.ownBlock = some b ∨ W3.heap.size ≤ b := fun b hb => by
      rcases hb4 with h | ⟨g', h, h', _⟩
      · exact .inl (by rw [← h]; exact hb)
      · rw [h] at hb; cases hb; exact .inr h'
    have G5 := hide (X3.gm.set1 hcC HQ.out.1 (fun y _ e => e.elim .inl (fun e => .inr (.inl e))) N5 rfl hvv)
    have S5 := hide ((hS1.out.trans (TStep.up HU3.out)).trans (TStep.set (T := T) (n' := { n with v := .slice va vn vc, ids := n.ids.take p ++ id :: n.ids.drop p }) HQ.out.1 hcC (fun y _ e => e.elim .inl (fun e => .inr (.inl e))) rfl hvv))
    have HT5 := hide hT5
    have HX3 := hide X3
    clear X3 N3 hT4 hb4q hb5 hc5 hT5 hcC hoq N5 hvv hc4 hb4 ho4 k1 f1'
    dsimp only
    go_wp2
    go_ret
    unfold InsOut
    rw [if_neg (by rw [← HQ.out.2.2.1]; exact HIN.out)]
    have hT6 := HT5.out.set2 (len + 1)
    have hc6 := chg_set W5 ⟨T, 2, none⟩ (.int .i64 (len + 1))
    have hins : n.ids.take p ++ id :: n.ids.drop p = insF n.ids id := HST.out.ins HIN.out
    have hwf := HX3.out.wf
    have e1 := hwf.setIds (n' := { n with v := .slice va vn vc, ids := n.ids.take p ++ id :: n.ids.drop p }) HQ.out.1 rfl rfl rfl rfl (by rw [hins]; exact insF_rise (hwf.rise q n HQ.out.1))
    have e2 := HX3.out.tells.setIds hwf (n' := { n with v := .slice va vn vc, ids := n.ids.take p ++ id :: n.ids.drop p }) HQ.out.1 rfl
    refine ⟨rfl, TrX.did ⟨e1, ?_, G5.out.chg hc6 (G5.out.top HT5.out), hT6, by have := HX3.out.few; omega, fun x m hx => ?_, fun x m hx => ?_, fun x m hx => ?_⟩ (MinX.min (MinX.setIds (dom := dom1) hM1.out HQ.out.1) (updG_same ..) (by simp)) (S5.out.trans (TStep.top hc6))⟩
    · rw [← HQ.out.2.2.1, ← hins, ← HQ.out.2.1]
      exact e2
    · by_cases e : x = q
      · rw [e, updG_same] at hx
        cases hx
        show (n.ids.take p ++ id :: n.ids.drop p).length ≤ k + 2
        rw [hins, insF_length HST.out HIN.out]
        have := HQ.out.2.2.2
        omega
      · rw [updG_other _ _ e] at hx
        exact Nat.le_succ_of_le (HX3.out.ids x m hx)
    · by_cases e : x = q
      · rw [e, updG_same] at hx
        cases hx
        exact HX3.out.str q n HQ.out.1
      · rw [updG_other _ _ e] at hx
        exact HX3.out.str x m hx
    · by_cases e : x = q
      · rw [e, updG_same] at hx
        cases hx
        exact HX3.out.lab q n HQ.out.1
      · rw [updG_other _ _ e] at hx
        exact HX3.out.lab x m hx

theorem trlen_calls (T : Nat) (O : Nat → Prop) (E : List UInt8 → List Int) (len : Int) (k : Nat) (w : World) (h : TrI w T O E len k) :
    Calls Try.prog 18 #[.pointer (some ⟨T, 0, none⟩)] w fun e w' => e = .returned (.int .i64 len) ∧ w' = w := by
  obtain ⟨root, g, dom, hX, _, rfl⟩ := h
  have k2 := hX.top.c2
  clear hX
  go_enter Try.func18, Try.ntmps18
  go_wp2
  go_ret
  exact ⟨rfl, rfl⟩
def FewAs (E : List UInt8 → List Int) (nd : Nat) : Prop := ∃ ss : List (List UInt8), ss.Nodup ∧ (∀ s ∈ ss, E s ≠ []) ∧ nd ≤ 2 * ss.length + 1
theorem trnodes_calls (T : Nat) (O : Nat → Prop) (E : List UInt8 → List Int) (len : Int) (k : Nat) (w : World) (h : TrI w T O E len k) :
    Calls Try.prog 19 #[.pointer (some ⟨T, 0, none⟩)] w fun e w' => ∃ nd : Nat, FewAs E nd ∧ nd ≤ 2 * k + 1 ∧ e = .returned (.int .i64 nd) ∧ w' = w := by
  obtain ⟨root, g, dom, hX, hM, rfl⟩ := h
  have k2 := hX.top.c1
  have HF := hide (few_nodes hX.wf hM hX.tells)
  have HG := hide hX.few
  clear hX hM
  go_enter Try.func19, Try.ntmps19
  go_wp2
  go_ret
  exact ⟨dom.length, HF.out, HG.out, rfl, rfl⟩
/-- What is found. -/
theorem TrX.found {w : World} {T root : Nat} {g : Gr} {dom : List Nat} {E : List UInt8 → List Int} {len : Int} {k : Nat} (h : TrX w T root g dom E len k) {s : List UInt8} {p : Nat} {n : ND} {rest : List UInt8} (hd : Deep g root s p n rest) : (rest = [] → E s = n.ids) ∧ (rest ≠ [] → E s = []) := by
  refine ⟨fun e => ?_, fun e => ?_⟩
  · have := hd.eq
    rw [e, List.append_nil] at this
    rw [this]
    exact (h.tells.node p n hd.at_).symm
  · by_cases e' : E s = []
    · exact e'
    · obtain ⟨q, m, h1, h2⟩ := h.tells.here s e'
      exact absurd h2 (h.wf.none_at hd e h1)
theorem find_calls (T : Nat) (O : Nat → Prop) (E : List UInt8 → List Int) (len : Int) (k : Nat) (s : ByteArray) (w : World) (h : TrI w T O E len k) (hk : k ≤ 1000) :
    Calls Try.prog 13 #[.pointer (some ⟨T, 0, none⟩), .string s] w fun e w' => ∃ v, e = .returned v ∧ OwnJ w' w.heap.size v (E s.data.toList) ∧ Up w w' := by
  obtain ⟨root, g, dom, hX, hM, rfl⟩ := h
  have HDP := hide (deepest_calls T root dom.length len g dom s w hX.wf hX.gm hX.top)
  have H := hide hX
  clear hX hM
  go_enter Try.func13, Try.ntmps13
  go_wp2_with fail
  refine HDP.out.mono ?_
  rintro _ w1 ⟨p, n, ab, r, rfl, hd, hu1⟩
  have hF := hide (H.out.found hd.deep)
  have X := H.out.up hu1
  have N := X.gm.node p n hd.deep.at_
  have k1 := N.c1
  have HCL := hide (cloneJ_calls n.v n.ids w1 N.ids (by have := X.ids p n hd.deep.at_; omega))
  have HU1 := hide hu1
  clear HDP X N hd hu1
  dsimp only
  rcases hr : r.data.toList with _ | ⟨b, t⟩
  · rw [hr] at hF
    obtain rfl := bytes_nil hr
    clear hr
    go_wp2_with fail
    refine HCL.out.mono ?_
    rintro _ w2 ⟨v, rfl, ho, hu⟩
    have HO := hide ho
    have HU := hide hu
    have hz := HU1.out.size
    clear ho hu HCL
    dsimp only
    go_wp2
    go_ret
    refine ⟨v, rfl, ?_, HU1.out.trans HU.out⟩
    rw [hF.out.1 (by trivial)]
    rcases HO.out.2 with h0 | ⟨g', cap, cur, h1, h2, h3⟩
    · exact ⟨HO.out.1, .inl h0⟩
    · exact ⟨HO.out.1, .inr ⟨g', cap, cur, h1, by omega, h3⟩⟩
  · have z1 : ¬ r.toList = [] := fun e => by rw [Lib.toList_data, hr] at e; cases e
    have z2 : r.toList.isEmpty = false := by rw [List.isEmpty_eq_false_iff]; exact z1
    have HE := hide (hF.out.2 (by rw [hr]; simp))
    clear hF hr
    go_wp2
    go_ret
    refine ⟨_, rfl, ?_, HU1.out⟩
    rw [HE.out]
    exact OwnG.nil _ _ _ _ _

/-- A root alone. -/
def rootG (q : Nat) (n : ND) : Gr := updG (fun _ => none) q (some n)
theorem rootG_inv {q : Nat} {n : ND} {x : Nat} {m : ND} (h : rootG q n x = some m) : x = q ∧ m = n := by
  unfold rootG updG at h
  split at h
  · cases h; exact ⟨‹_›, rfl⟩
  · cases h
theorem rootG_same (q : Nat) (n : ND) : rootG q n q = some n := updG_same ..
theorem rootG_wf {q : Nat} {n : ND} (h1 : n.str = []) (h2 : n.lb = []) (h3 : ∀ b, n.kid b = none) (h4 : n.ks = []) (h5 : n.ids = []) : WF (rootG q n) q [q] := by
  refine ⟨⟨n, rootG_same _ _, h1, h2⟩, fun x => ?_, by simp, fun x m b y hx hy => ?_, fun x y m l hx hy e => ?_, fun x y m l hx hy hp hne => ?_, fun x m hx => ?_, ?_, fun x m hx => ?_⟩
  · by_cases e : x = q
    · subst e; simp [rootG_same]
    · unfold rootG; rw [updG_other _ _ e]; simp [e]
  · obtain ⟨_, rfl⟩ := rootG_inv hx
    rw [h3] at hy; cases hy
  · rw [(rootG_inv hx).1, (rootG_inv hy).1]
  · exact absurd ((rootG_inv hx).1.trans (rootG_inv hy).1.symm) hne
  · obtain ⟨_, rfl⟩ := rootG_inv hx
    rw [h4]
    exact ⟨List.nodup_nil, fun b => by rw [h3]; simp⟩
  · simp [rootG_same, h4]
  · obtain ⟨_, rfl⟩ := rootG_inv hx
    rw [h5]
    exact List.Pairwise.nil

def NewOut (w : World) (e : Ending) (w' : World) : Prop := ∃ T O, e = .returned (.pointer (some ⟨T, 0, none⟩)) ∧ w.heap.size ≤ T ∧ TrI w' T O (fun _ => []) 0 0 ∧ (∀ y, O y → w.heap.size ≤ y) ∧ Up w w'
set_option maxHeartbeats 2000000 in
theorem trnew_calls (w : World) : Calls Try.prog 8 #[] w fun e w' => NewOut w e w' := by
  obtain ⟨W1, hW1⟩ : ∃ W1, w.alloc (.cells #[.pointer none, .int .i64 0, .int .i64 0] tTrie) = W1 := ⟨_, rfl⟩
  have ht1 : TopAt W1 w.heap.size (.pointer none) 0 0 := by rw [← hW1]; exact heap_alloc_new _ _
  have hu1 : Up w W1 := by rw [← hW1]; exact (Up.refl _).alloc _
  have hz1 : w.heap.size < W1.heap.size := by rw [← hW1]; simp
  have HMD := hide (made_calls w.heap.size (.pointer none) 0 0 ⟨#[]⟩ W1 ht1 (by omega) (by decide))
  have HT1 := hide ht1
  have HU1 := hide hu1
  clear ht1 hu1
  go_enter Try.func8, Try.ntmps8
  go_wp2_with fail
  refine HMD.out.mono ?_
  rintro _ w2 ⟨q, M, rfl, hq, hM, hN, ht2, hc2⟩
  have k0 := ht2.c0
  have f0 := ht2.fz 0
  have h2z : w.heap.size < w2.heap.size := ht2.lt
  have HH := hide (⟨hq, hM, hN, ht2, hc2⟩ : _ ∧ _ ∧ _ ∧ _ ∧ _)
  clear hq hM hN ht2 hc2 HMD
  dsimp only
  go_wp2
  go_ret
  obtain ⟨hq, hM, hN, ht2, hc2⟩ := HH.out
  have hc3 := chg_set w2 ⟨w.heap.size, 0, none⟩ (nP q)
  have ht3 := ht2.set0 (nP q)
  have hu3 : Up w (w2.setCell ⟨w.heap.size, 0, none⟩ (nP q)) := ((Chg.of_up (C := fun y => y = w.heap.size) HU1.out).trans (hc2.trans hc3 (fun _ _ h => h)) (fun _ _ h => h)).up (fun x hx e => by omega)
  have hNq := (hN []).chg hc3 (fun e => by simp only at e; omega) (fun b hb => by cases hb) (fun e => by simp only [newN] at e; omega)
  have hinv : ∀ x m, rootG q (newN ⟨#[]⟩ [] M) x = some m → x = q ∧ m = newN ⟨#[]⟩ [] M := fun x m => rootG_inv
  refine ⟨w.heap.size, OB (rootG q (newN ⟨#[]⟩ [] M)) w.heap.size, rfl, Nat.le_refl _, ⟨q, rootG q (newN ⟨#[]⟩ [] M), [q], ⟨rootG_wf rfl rfl (fun _ => rfl) rfl rfl, ⟨fun p n hp => ?_, fun s hs => absurd rfl hs⟩, ⟨fun p n hp => ?_, fun x y m l hx hy _ => ?_, fun x y m l b hx hy _ _ => ?_⟩, ht3, by simp, fun p n hp => ?_, fun p n hp => ?_, fun p n hp => ?_⟩, fun p n hp hne => ?_, rfl⟩, fun y hy => ?_, hu3⟩
  · rw [(hinv p n hp).2]; rfl
  · rw [(hinv p n hp).1, (hinv p n hp).2]; exact hNq
  · rw [(hinv x m hx).1, (hinv y l hy).1]
  · rw [(hinv x m hx).1, (hinv y l hy).1]
  · rw [(hinv p n hp).2]; exact Nat.zero_le _
  · rw [(hinv p n hp).2]; exact Nat.zero_le _
  · rw [(hinv p n hp).2]; exact Nat.zero_le _
  · exact absurd (hinv p n hp).1 hne
  · rcases hy with rfl | ⟨p, n, hp, h⟩
    · exact Nat.le_refl _
    · obtain ⟨rfl, rfl⟩ := hinv p n hp
      rcases h with rfl | h | rfl
      · omega
      · cases h
      · exact Nat.le_trans (Nat.le_of_lt hz1) hM

end Go.Proofs.Ytmbniakobhaomaa
