/-
  The landed package trie: Insert, Find, Len, Nodes, New, as their text runs.
  The landed package trie: join, as its text runs.
  The landed package trie: tidy, Erase, as their text runs.
  The landed package trie: Erase, as its text runs.
  The landed package trie: Longest, as its text runs.
-/
import Derived.Test.YtmbniakobhaomaaTeWkA
import Derived.Maps.RangeWalk
import Derived.LaidEqlPtr
import Derived.BigRegion
namespace Go.Proofs.Ytmbniakobhaomaa
open Go.ChangeShapes Go.WideShapes Go.ChangeAt Go.RowKit
set_option linter.unusedVariables false
set_option maxRecDepth 100000
attribute [local go_sem ↓] Go.wp_at_zero Go.wp_at_succ

theorem insJ_nil (vb : Nat) (x : Int) (w : World) (hv : w.cell? ⟨vb, 0, none⟩ = some (.int .i64 x)) :
    Calls Try.prog 23 #[.slice none 0 0, .int .i64 0, .slice (some ⟨vb, 0, none⟩) 1 1] w fun e w' => InsPost w (.slice none 0 0) [x] e w' := by
  have HV := hide hv
  clear hv
  go_enter Try.func23, Try.ntmps23
  go_wp2_with (at_builtin; refine append_ids rfl _ _ rfl 0 _ [] rfl (OwnG.nil _ _ _ _ _) ⟨vb, 0, none⟩ 1 1 [x] rfl rfl (fun j hj => ?_) (by simp) (Nat.zero_le _) ?_)
  all_goals first
    | (obtain rfl : j = 0 := by simpa using hj
       simpa [Addr.add_lit] using HV.out)
    | (intro v' w' ho hg hat
       have HO2 := hide ho
       have HG := hide hg
       have HA := hide hat
       clear ho hg hat
       go_wp2
       go_ret
       refine ⟨v', rfl, HO2.out, ⟨⟨HG.out.os, HG.out.tape, HG.out.output, HG.out.size, fun k hk => absurd hk (Nat.not_lt_zero k)⟩, fun y hy hne => HG.out.block y hy (fun e => hne e.symm)⟩, ?_⟩
       rcases HA.out with h | h
       · exact .inl h
       · exact .inr ⟨_, h, Nat.le_refl _, (HO2.out.lt _ h).2⟩)
theorem insJ_all (v : Value) (l : List Int) (x : Int) (p vb : Nat) (w : World) (h : OwnJ w 0 v l) (hn : l.length ≤ 1000) (hp : p ≤ l.length) (hvb : w.heap[vb]? = some (.cells #[.int .i64 x] 2 (0, 0))) (hne : ¬ v.ownBlock = some vb) :
    Calls Try.prog 23 #[v, .int .i64 p, .slice (some ⟨vb, 0, none⟩) 1 1] w fun e w' => InsPost w v (l.take p ++ x :: l.drop p) e w' := by
  by_cases hl : l = []
  · subst hl
    obtain rfl : p = 0 := by simpa using hp
    rcases h.2 with ⟨rfl, _⟩ | ⟨g, cap, cur, rfl, _⟩
    · exact insJ_nil vb x w (by rw [cell_of hvb]; rfl)
    · exact insJ_end g cap vb 0 [] x w h rfl (Nat.zero_le _) (by rw [cell_of hvb]; rfl)
  · exact insJ_calls v l x p vb w h hl hn hp hvb hne

/-- A trie as a law sees it: what stands with each string, how many entries; O: its blocks. -/
def TrI (w : World) (T : Nat) (O : Nat → Prop) (E : List UInt8 → List Int) (len : Int) (k : Nat) : Prop :=
  ∃ root g dom, TrX w T root g dom E len k ∧ Min0 g root ∧ O = OB g T
theorem TrI.up {w w' : World} {T : Nat} {O : Nat → Prop} {E : List UInt8 → List Int} {len : Int} {k : Nat} (h : TrI w T O E len k) (hu : Up w w') : TrI w' T O E len k := by
  obtain ⟨root, g, dom, h1, h2, h3⟩ := h
  exact ⟨root, g, dom, h1.up hu, h2, h3⟩
theorem TrI.lt {w : World} {T : Nat} {O : Nat → Prop} {E : List UInt8 → List Int} {len : Int} {k : Nat} (h : TrI w T O E len k) : ∀ y, O y → y < w.heap.size := by
  obtain ⟨root, g, dom, h1, h2, rfl⟩ := h
  exact fun y hy => OB.lt h1.gm h1.top hy
theorem TrI.chg {C : Nat → Prop} {w w' : World} {T : Nat} {O : Nat → Prop} {E : List UInt8 → List Int} {len : Int} {k : Nat} (h : TrI w T O E len k) (hc : Chg C w w') (hC : ∀ y, O y → ¬ C y) : TrI w' T O E len k := by
  obtain ⟨root, g, dom, h1, h2, rfl⟩ := h
  exact ⟨root, g, dom, ⟨h1.wf, h1.tells, h1.gm.chg hc ⟨fun q m hq => hC q (.inr ⟨q, m, hq, .inl rfl⟩), fun q m b hq hb => hC b (.inr ⟨q, m, hq, .inr (.inl hb)⟩), fun q m hq => hC m.mp (.inr ⟨q, m, hq, .inr (.inr rfl)⟩)⟩, h1.top.chg hc (hC T (.inl rfl)), h1.few, h1.ids, h1.str, h1.lab⟩, h2, rfl⟩
/-- What a change of a trie leaves. -/
def TrDid (w w' : World) (T : Nat) (O : Nat → Prop) (E : List UInt8 → List Int) (len : Int) (k : Nat) : Prop :=
  ∃ O', TrI w' T O' E len k ∧ Chg O w w' ∧ ∀ y, O' y → O y ∨ w.heap.size ≤ y
theorem TrX.did {w w' : World} {T root : Nat} {g g' : Gr} {dom' : List Nat} {E : List UInt8 → List Int} {len : Int} {k : Nat} (h : TrX w' T root g' dom' E len k) (hm : Min0 g' root) (hs : TStep T g g' w w') : TrDid w w' T (OB g T) E len k :=
  ⟨OB g' T, ⟨root, g', dom', h, hm, rfl⟩, hs.chg, hs.new⟩
theorem MinX.min {g : Gr} {root x : Nat} {n : ND} (h : MinX g root x) (hx : g x = some n) (hn : n.ids ≠ []) : Min0 g root := fun p m h1 h2 => by
  by_cases e : p = x
  · rw [e, hx] at h1; cases h1; exact .inl hn
  · exact h p m h1 h2 e
theorem TrX.mono {w : World} {T root : Nat} {g : Gr} {dom : List Nat} {E : List UInt8 → List Int} {len : Int} {k k' : Nat} (h : TrX w T root g dom E len k) (hk : k ≤ k') : TrX w T root g dom E len k' :=
  ⟨h.wf, h.tells, h.gm, h.top, by have := h.few; omega, fun p n hp => Nat.le_trans (h.ids p n hp) hk, h.str, h.lab⟩

def InsOut (w : World) (T : Nat) (O : Nat → Prop) (E : List UInt8 → List Int) (len : Int) (k : Nat) (s : List UInt8) (id : Int) (e : Ending) (w' : World) : Prop :=
  if id ∈ E s then e = .returned (.int .i64 72) ∧ TrDid w w' T O E len (k + 2)
  else e = .returned (.int .i64 0) ∧ TrDid w w' T O (updE E s (insF (E s) id)) (len + 1) (k + 2)
set_option maxHeartbeats 8000000 in
theorem insert_calls (T : Nat) (O : Nat → Prop) (E : List UInt8 → List Int) (len : Int) (k : Nat) (s : ByteArray) (id : Int) (w : World) (h : TrI w T O E len k) (hs : s.size ≤ 1000) (hk : k ≤ 900) (hl : 0 ≤ len ∧ len ≤ 1000000) :
    Calls Try.prog 9 #[.pointer (some ⟨T, 0, none⟩), .string s, .int .i64 id] w fun e w' => InsOut w T O E len k s.data.toList id e w' := by
  obtain ⟨root, g, dom, hX, hM, rfl⟩ := h
  have HND := hide (nodeOf_calls T root g dom E len k s w hX hM hs (by omega))
  have HB := hide (⟨hk, hl⟩ : _ ∧ _)
  have hw1 : wrap64 (len + 1) = len + 1 := by rw [wrap64]; omega
  clear hX hM hs hk
  go_enter Try.func9, Try.ntmps9
  go_wp2_with fail
  refine HND.out.mono ?_
  rintro _ w1 ⟨q, n, g1, dom1, rfl, X1, M1, S1, hq, hstr⟩
  clear HND
  have N := X1.gm.node q n hq
  have k1 := N.c1
  have f1 := N.fz 1
  have hids := X1.tells.node q n hq
  rw [hstr] at hids
  have hlen := X1.ids q n hq
  have HBS := hide (search_calls n.v n.ids id w1 (N.ids.rd) (by have := HB.out.1; omega) (X1.wf.rise q n hq))
  have hX1 := hide X1
  have hM1 := hide M1
  have hS1 := hide S1
  have HQ := hide (⟨hq, hstr, hids, hlen⟩ : _ ∧ _ ∧ _ ∧ _)
  clear X1 M1 S1 N hq hstr hids hlen
  dsimp only
  go_wp2_with fail
  refine HBS.out.mono ?_
  rintro _ w2 ⟨p, hst, rfl, hu2⟩
  clear HBS
  replace k1 := hu2.cell k1
  have f1' := (hu2.frozen (p := ⟨q, 1, none⟩) (hX1.out.gm.node q n HQ.out.1).lt).trans f1
  clear f1
  have HU2 := hide hu2
  have HST := hide hst
  clear hu2 hst
  by_cases hin : id ∈ n.ids
  · have t1 : decide (id ∈ n.ids) = true := decide_eq_true hin
    rw [t1]
    have HIN := hide hin
    clear hin t1
    dsimp only
    go_wp2
    go_ret
    unfold InsOut
    rw [if_pos (by rw [← HQ.out.2.2.1]; exact HIN.out)]
    exact ⟨rfl, ((hX1.out.up HU2.out).mono (Nat.le_succ _)).did (hM1.out.min HQ.out.1 (fun e => by have := HIN.out; rw [e] at this; cases this)) (hS1.out.trans (TStep.up HU2.out))⟩
  · have t1 : decide (id ∈ n.ids) = false := decide_eq_false hin
    rw [t1]
    have HIN := hide hin
    clear hin t1
    have X2 := hX1.out.up HU2.out
    have N2 := X2.gm.node q n HQ.out.1
    obtain ⟨W3, hW3⟩ : ∃ W3, W3 = w2.alloc (.cells #[.int .i64 id] 2) := ⟨_, rfl⟩
    have hu3 : Up w2 W3 := by rw [hW3]; exact (Up.refl _).alloc _
    have hvb : W3.heap[w2.heap.size]? = some (.cells #[.int .i64 id] 2 (0, 0)) := by rw [hW3]; exact heap_alloc_new _ _
    have HINS := hide (insJ_all n.v n.ids id p w2.heap.size W3 ((N2.up hu3).ids) (by have := HQ.out.2.2.2; have := HB.out.1; omega) HST.out.le hvb (fun e => by have := (N2.ids.lt _ e).2; omega))
    have HU3 := hide (HU2.out.trans hu3)
    have hz3 : w2.heap.size = w2.heap.size := rfl
    clear X2 N2 hvb hu3 hz3
    dsimp only
    go_wp2_with fail
    rw [← hW3]
    refine HINS.out.mono ?_
    rintro _ w4 ⟨v', rfl, ho4, hc4, hb4⟩
    clear HINS
    obtain ⟨va, vn, vc, rfl⟩ : ∃ va vn vc, v' = .slice va vn vc := by obtain ⟨a, c, h, _⟩ := ho4.rd; exact ⟨a, _, c, h⟩
    have X3 := hX1.out.up HU3.out
    have N3 := X3.gm.node q n HQ.out.1
    have hT4 := X3.top.chg hc4 (fun e => kd_ne X3.top.kd4 (N3.kd2 e) (by decide) rfl)
    have hb4q : w4.heap[q]? = _ := (hc4.2 q N3.lt (fun e => kd_ne N3.kd1 (N3.kd2 e) (by decide) rfl)).trans N3.blk
    obtain ⟨W5, hW5⟩ : ∃ W5, w4.setCell ⟨q, 1, none⟩ (.slice va vn vc) = W5 := ⟨_, rfl⟩
    have hb5 : W5.heap[q]? = some (.cells #[.string n.lab, .slice va vn vc, .map (some n.mp)] tNode (0, 0)) := by rw [← hW5]; exact heap_setCell_same w4 q 1 _ _ _ hb4q
    have hc5 : Chg (fun y => y = q) w4 W5 := by rw [← hW5]; exact chg_set w4 ⟨q, 1, none⟩ _
    have hqT : T ≠ q := kd_ne X3.top.kd4 N3.kd1 (by decide)
    have hT5 := hT4.chg hc5 hqT
    have k2 : w4.cell? ⟨q, 1, none⟩ = some n.v := by simp [World.cell?, hb4q]
    have f2 : w4.frozen? ⟨q, 1, none⟩ = false := by simp [World.frozen?, hb4q]
    have k3 := hT5.c2
    have f3 := hT5.fz 2
    have h5q : q < w4.heap.size := lt_of_heap hb4q
    -- the whole
    have hcC : Chg (fun y => y = q ∨ n.v.ownBlock = some y) W3 W5 := (hc4.mono (fun y _ h => Or.inr h)).trans hc5 (fun y _ h => .inl h)
    have hoq : ∀ b, (Value.slice va vn vc).ownBlock = some b → ¬ b = q := fun b hb => kd_ne (own_kd ho4 hb) (by unfold kd; rw [hb4q]; rfl : kd w4 q = 1) (by decide)
    have N5 : NAt W5 q { n with v := .slice va vn vc, ids := n.ids.take p ++ id :: n.ids.drop p } := ⟨hb5, OwnG.chgT ho4 hc5 hoq, N3.map.chg hcC (fun e => e.elim (fun e => kd_ne N3.kd3 N3.kd1 (by decide) e) (fun e => kd_ne N3.kd3 (N3.kd2 e) (by decide) rfl))⟩
    have hvv : ∀ b, (Value.slice va vn vc).ownBlock = some b → n.v.ownBlock = some b ∨ W3.heap.size ≤ b := fun b hb => by
      rcases hb4 with h | ⟨g', h, h', _⟩
      · exact .inl (by rw [← h]; exact hb)
      · rw [h] at hb; cases hb; exact .inr h'
    have G5 := hide (X3.gm.set1 hcC HQ.out.1 (fun y _ e => e.elim .inl (fun e => .inr (.inl e))) N5 rfl hvv)
    have S5 := hide ((hS1.out.trans (TStep.up HU3.out)).trans (TStep.set (T := T) (n' := { n with v := .slice va vn vc, ids := n.ids.take p ++ id :: n.ids.drop p }) HQ.out.1 hcC (fun y _ e => e.elim .inl (fun e => .inr (.inl e))) rfl hvv))
    have HT5 := hide hT5
    have HX3 := hide X3
    clear X3 N3 hT4 hb4q hb5 hc5 hT5 hcC hoq N5 hvv hc4 hb4 ho4 k1 f1'
    dsimp only
    go_wp2
    go_ret
    unfold InsOut
    rw [if_neg (by rw [← HQ.out.2.2.1]; exact HIN.out)]
    have hT6 := HT5.out.set2 (len + 1)
    have hc6 := chg_set W5 ⟨T, 2, none⟩ (.int .i64 (len + 1))
    have hins : n.ids.take p ++ id :: n.ids.drop p = insF n.ids id := HST.out.ins HIN.out
    have hwf := HX3.out.wf
    have e1 := hwf.setIds (n' := { n with v := .slice va vn vc, ids := n.ids.take p ++ id :: n.ids.drop p }) HQ.out.1 rfl rfl rfl rfl (by rw [hins]; exact insF_rise (hwf.rise q n HQ.out.1))
    have e2 := HX3.out.tells.setIds hwf (n' := { n with v := .slice va vn vc, ids := n.ids.take p ++ id :: n.ids.drop p }) HQ.out.1 rfl
    refine ⟨rfl, TrX.did ⟨e1, ?_, G5.out.chg hc6 (G5.out.top HT5.out), hT6, by have := HX3.out.few; omega, fun x m hx => ?_, fun x m hx => ?_, fun x m hx => ?_⟩ (MinX.min (MinX.setIds (dom := dom1) hM1.out HQ.out.1) (updG_same ..) (by simp)) (S5.out.trans (TStep.top hc6))⟩
    · rw [← HQ.out.2.2.1, ← hins, ← HQ.out.2.1]
      exact e2
    · by_cases e : x = q
      · rw [e, updG_same] at hx
        cases hx
        show (n.ids.take p ++ id :: n.ids.drop p).length ≤ k + 2
        rw [hins, insF_length HST.out HIN.out]
        have := HQ.out.2.2.2
        omega
      · rw [updG_other _ _ e] at hx
        exact Nat.le_succ_of_le (HX3.out.ids x m hx)
    · by_cases e : x = q
      · rw [e, updG_same] at hx
        cases hx
        exact HX3.out.str q n HQ.out.1
      · rw [updG_other _ _ e] at hx
        exact HX3.out.str x m hx
    · by_cases e : x = q
      · rw [e, updG_same] at hx
        cases hx
        exact HX3.out.lab q n HQ.out.1
      · rw [updG_other _ _ e] at hx
        exact HX3.out.lab x m hx

theorem trlen_calls (T : Nat) (O : Nat → Prop) (E : List UInt8 → List Int) (len : Int) (k : Nat) (w : World) (h : TrI w T O E len k) :
    Calls Try.prog 18 #[.pointer (some ⟨T, 0, none⟩)] w fun e w' => e = .returned (.int .i64 len) ∧ w' = w := by
  obtain ⟨root, g, dom, hX, _, rfl⟩ := h
  have k2 := hX.top.c2
  clear hX
  go_enter Try.func18, Try.ntmps18
  go_wp2
  go_ret
  exact ⟨rfl, rfl⟩
def FewAs (E : List UInt8 → List Int) (nd : Nat) : Prop := ∃ ss : List (List UInt8), ss.Nodup ∧ (∀ s ∈ ss, E s ≠ []) ∧ nd ≤ 2 * ss.length + 1
theorem trnodes_calls (T : Nat) (O : Nat → Prop) (E : List UInt8 → List Int) (len : Int) (k : Nat) (w : World) (h : TrI w T O E len k) :
    Calls Try.prog 19 #[.pointer (some ⟨T, 0, none⟩)] w fun e w' => ∃ nd : Nat, FewAs E nd ∧ nd ≤ 2 * k + 1 ∧ e = .returned (.int .i64 nd) ∧ w' = w := by
  obtain ⟨root, g, dom, hX, hM, rfl⟩ := h
  have k2 := hX.top.c1
  have HF := hide (few_nodes hX.wf hM hX.tells)
  have HG := hide hX.few
  clear hX hM
  go_enter Try.func19, Try.ntmps19
  go_wp2
  go_ret
  exact ⟨dom.length, HF.out, HG.out, rfl, rfl⟩
/-- What is found. -/
theorem TrX.found {w : World} {T root : Nat} {g : Gr} {dom : List Nat} {E : List UInt8 → List Int} {len : Int} {k : Nat} (h : TrX w T root g dom E len k) {s : List UInt8} {p : Nat} {n : ND} {rest : List UInt8} (hd : Deep g root s p n rest) : (rest = [] → E s = n.ids) ∧ (rest ≠ [] → E s = []) := by
  refine ⟨fun e => ?_, fun e => ?_⟩
  · have := hd.eq
    rw [e, List.append_nil] at this
    rw [this]
    exact (h.tells.node p n hd.at_).symm
  · by_cases e' : E s = []
    · exact e'
    · obtain ⟨q, m, h1, h2⟩ := h.tells.here s e'
      exact absurd h2 (h.wf.none_at hd e h1)
theorem find_calls (T : Nat) (O : Nat → Prop) (E : List UInt8 → List Int) (len : Int) (k : Nat) (s : ByteArray) (w : World) (h : TrI w T O E len k) (hk : k ≤ 1000) :
    Calls Try.prog 13 #[.pointer (some ⟨T, 0, none⟩), .string s] w fun e w' => ∃ v, e = .returned v ∧ OwnJ w' w.heap.size v (E s.data.toList) ∧ Up w w' := by
  obtain ⟨root, g, dom, hX, hM, rfl⟩ := h
  have HDP := hide (deepest_calls T root dom.length len g dom s w hX.wf hX.gm hX.top)
  have H := hide hX
  clear hX hM
  go_enter Try.func13, Try.ntmps13
  go_wp2_with fail
  refine HDP.out.mono ?_
  rintro _ w1 ⟨p, n, ab, r, rfl, hd, hu1⟩
  have hF := hide (H.out.found hd.deep)
  have X := H.out.up hu1
  have N := X.gm.node p n hd.deep.at_
  have k1 := N.c1
  have HCL := hide (cloneJ_calls n.v n.ids w1 N.ids (by have := X.ids p n hd.deep.at_; omega))
  have HU1 := hide hu1
  clear HDP X N hd hu1
  dsimp only
  rcases hr : r.data.toList with _ | ⟨b, t⟩
  · rw [hr] at hF
    obtain rfl := bytes_nil hr
    clear hr
    go_wp2_with fail
    refine HCL.out.mono ?_
    rintro _ w2 ⟨v, rfl, ho, hu⟩
    have HO := hide ho
    have HU := hide hu
    have hz := HU1.out.size
    clear ho hu HCL
    dsimp only
    go_wp2
    go_ret
    refine ⟨v, rfl, ?_, HU1.out.trans HU.out⟩
    rw [hF.out.1 (by trivial)]
    rcases HO.out.2 with h0 | ⟨g', cap, cur, h1, h2, h3⟩
    · exact ⟨HO.out.1, .inl h0⟩
    · exact ⟨HO.out.1, .inr ⟨g', cap, cur, h1, by omega, h3⟩⟩
  · have z1 : ¬ r.toList = [] := fun e => by rw [Lib.toList_data, hr] at e; cases e
    have z2 : r.toList.isEmpty = false := by rw [List.isEmpty_eq_false_iff]; exact z1
    have HE := hide (hF.out.2 (by rw [hr]; simp))
    clear hF hr
    go_wp2
    go_ret
    refine ⟨_, rfl, ?_, HU1.out⟩
    rw [HE.out]
    exact OwnG.nil _ _ _ _ _

/-- A root alone. -/
def rootG (q : Nat) (n : ND) : Gr := updG (fun _ => none) q (some n)
theorem rootG_inv {q : Nat} {n : ND} {x : Nat} {m : ND} (h : rootG q n x = some m) : x = q ∧ m = n := by
  unfold rootG updG at h
  split at h
  · cases h; exact ⟨‹_›, rfl⟩
  · cases h
theorem rootG_same (q : Nat) (n : ND) : rootG q n q = some n := updG_same ..
theorem rootG_wf {q : Nat} {n : ND} (h1 : n.str = []) (h2 : n.lb = []) (h3 : ∀ b, n.kid b = none) (h4 : n.ks = []) (h5 : n.ids = []) : WF (rootG q n) q [q] := by
  refine ⟨⟨n, rootG_same _ _, h1, h2⟩, fun x => ?_, by simp, fun x m b y hx hy => ?_, fun x y m l hx hy e => ?_, fun x y m l hx hy hp hne => ?_, fun x m hx => ?_, ?_, fun x m hx => ?_⟩
  · by_cases e : x = q
    · subst e; simp [rootG_same]
    · unfold rootG; rw [updG_other _ _ e]; simp [e]
  · obtain ⟨_, rfl⟩ := rootG_inv hx
    rw [h3] at hy; cases hy
  · rw [(rootG_inv hx).1, (rootG_inv hy).1]
  · exact absurd ((rootG_inv hx).1.trans (rootG_inv hy).1.symm) hne
  · obtain ⟨_, rfl⟩ := rootG_inv hx
    rw [h4]
    exact ⟨List.nodup_nil, fun b => by rw [h3]; simp⟩
  · simp [rootG_same, h4]
  · obtain ⟨_, rfl⟩ := rootG_inv hx
    rw [h5]
    exact List.Pairwise.nil

def NewOut (w : World) (e : Ending) (w' : World) : Prop := ∃ T O, e = .returned (.pointer (some ⟨T, 0, none⟩)) ∧ w.heap.size ≤ T ∧ TrI w' T O (fun _ => []) 0 0 ∧ (∀ y, O y → w.heap.size ≤ y) ∧ Up w w'
set_option maxHeartbeats 2000000 in
theorem trnew_calls (w : World) : Calls Try.prog 8 #[] w fun e w' => NewOut w e w' := by
  obtain ⟨W1, hW1⟩ : ∃ W1, w.alloc (.cells #[.pointer none, .int .i64 0, .int .i64 0] tTrie) = W1 := ⟨_, rfl⟩
  have ht1 : TopAt W1 w.heap.size (.pointer none) 0 0 := by rw [← hW1]; exact heap_alloc_new _ _
  have hu1 : Up w W1 := by rw [← hW1]; exact (Up.refl _).alloc _
  have hz1 : w.heap.size < W1.heap.size := by rw [← hW1]; simp
  have HMD := hide (made_calls w.heap.size (.pointer none) 0 0 ⟨#[]⟩ W1 ht1 (by omega) (by decide))
  have HT1 := hide ht1
  have HU1 := hide hu1
  clear ht1 hu1
  go_enter Try.func8, Try.ntmps8
  go_wp2_with fail
  refine HMD.out.mono ?_
  rintro _ w2 ⟨q, M, rfl, hq, hM, hN, ht2, hc2⟩
  have k0 := ht2.c0
  have f0 := ht2.fz 0
  have h2z : w.heap.size < w2.heap.size := ht2.lt
  have HH := hide (⟨hq, hM, hN, ht2, hc2⟩ : _ ∧ _ ∧ _ ∧ _ ∧ _)
  clear hq hM hN ht2 hc2 HMD
  dsimp only
  go_wp2
  go_ret
  obtain ⟨hq, hM, hN, ht2, hc2⟩ := HH.out
  have hc3 := chg_set w2 ⟨w.heap.size, 0, none⟩ (nP q)
  have ht3 := ht2.set0 (nP q)
  have hu3 : Up w (w2.setCell ⟨w.heap.size, 0, none⟩ (nP q)) := ((Chg.of_up (C := fun y => y = w.heap.size) HU1.out).trans (hc2.trans hc3 (fun _ _ h => h)) (fun _ _ h => h)).up (fun x hx e => by omega)
  have hNq := (hN []).chg hc3 (fun e => by simp only at e; omega) (fun b hb => by cases hb) (fun e => by simp only [newN] at e; omega)
  have hinv : ∀ x m, rootG q (newN ⟨#[]⟩ [] M) x = some m → x = q ∧ m = newN ⟨#[]⟩ [] M := fun x m => rootG_inv
  refine ⟨w.heap.size, OB (rootG q (newN ⟨#[]⟩ [] M)) w.heap.size, rfl, Nat.le_refl _, ⟨q, rootG q (newN ⟨#[]⟩ [] M), [q], ⟨rootG_wf rfl rfl (fun _ => rfl) rfl rfl, ⟨fun p n hp => ?_, fun s hs => absurd rfl hs⟩, ⟨fun p n hp => ?_, fun x y m l hx hy _ => ?_, fun x y m l b hx hy _ _ => ?_⟩, ht3, by simp, fun p n hp => ?_, fun p n hp => ?_, fun p n hp => ?_⟩, fun p n hp hne => ?_, rfl⟩, fun y hy => ?_, hu3⟩
  · rw [(hinv p n hp).2]; rfl
  · rw [(hinv p n hp).1, (hinv p n hp).2]; exact hNq
  · rw [(hinv x m hx).1, (hinv y l hy).1]
  · rw [(hinv x m hx).1, (hinv y l hy).1]
  · rw [(hinv p n hp).2]; exact Nat.zero_le _
  · rw [(hinv p n hp).2]; exact Nat.zero_le _
  · rw [(hinv p n hp).2]; exact Nat.zero_le _
  · exact absurd (hinv p n hp).1 hne
  · rcases hy with rfl | ⟨p, n, hp, h⟩
    · exact Nat.le_refl _
    · obtain ⟨rfl, rfl⟩ := hinv p n hp
      rcases h with rfl | h | rfl
      · omega
      · cases h
      · exact Nat.le_trans (Nat.le_of_lt hz1) hM

end Go.Proofs.Ytmbniakobhaomaa

namespace Go.Proofs.Ytmbniakobhaomaa
open Go.ChangeShapes Go.WideShapes Go.ChangeAt Go.RowKit Go.Maps
set_option linter.unusedVariables false
set_option maxRecDepth 100000
attribute [local go_sem ↓] Go.wp_at_zero Go.wp_at_succ

theorem info_node : (Try.prog.info? tNode).map (·.size) = some 3 := by kernel_rfl
/-- Two nodes' pointers are held against one another. -/
theorem eql_nodes {w : World} {g : Gr} (hg : GMem w g) {p q : Nat} {n m : ND} (hp : g p = some n) (hq : g q = some m) : (binOp .eql 54 (.pointer (some ⟨p, 0, none⟩)) (.pointer (some ⟨q, 0, none⟩))).run Try.prog w = .ok (.bool (decide (p = q))) w := by
  obtain ⟨j, hj, hs⟩ : ∃ j, Try.prog.info? tNode = some j ∧ j.size = 3 := by
    have h := info_node
    cases hi : Try.prog.info? tNode with
    | none => rw [hi] at h; cases h
    | some j => rw [hi] at h; exact ⟨j, rfl, by simpa using h⟩
  by_cases e : p = q
  · subst e
    rw [run_eql_ptr_same w ⟨p, 0, none⟩ Try.underlying54 hj, decide_eq_true rfl]
  · rw [run_eql_ptr_other w Try.underlying54 hj (by omega) (fun h => e (by cases h; rfl)) (hg.node p n hp).blk (hg.node q m hq).blk, decide_eq_false e]

/-- Nothing is to be made one. -/
theorem join_not (T root : Nat) (a l : Int) (g : Gr) (dom : List Nat) (p : Nat) (n : ND) (w : World) (hw : WF g root dom) (hg : GMem w g) (ht : TopAt w T (nP root) a l) (hp : g p = some n) (hno : p = root ∨ n.ids ≠ [] ∨ 1 < n.ks.length) (hz : n.ks.length ≤ 1000000) (hi : n.ids.length ≤ 1000000) :
    Calls Try.prog 43 #[.pointer (some ⟨T, 0, none⟩), .pointer (some ⟨p, 0, none⟩)] w fun e w' => e = .returned (.tuple #[]) ∧ Up w w' := by
  obtain ⟨r, hr, _⟩ := hw.top
  have hpq := eql_nodes hg hp hr
  have N := hg.node p n hp
  have c0 := ht.c0
  unfold nP at c0
  have c1 := N.c1
  have c2 := N.c2
  obtain ⟨va, vc, hv, _⟩ := N.ids.rd
  rw [hv] at c1
  have hlen := fun ty => (N.map).len ty
  have HN := hide N
  clear N hg ht hv hr hw
  by_cases h1 : p = root
  · rw [decide_eq_true h1] at hpq
    clear h1
    go_enter Try.func43, Try.ntmps43
    go_wp2
    refine bodyPost_ret (results_none rfl _ _ _) rfl ?_
    exact ⟨rfl, Up.refl _⟩
  · rw [decide_eq_false h1] at hpq
    by_cases h2 : n.ids = []
    · have h3 : 1 < n.ks.length := (hno.resolve_left h1).resolve_left (fun h => h h2)
      have l0 : n.ids.length = 0 := by rw [h2]; rfl
      rw [l0] at c1
      obtain ⟨L, hL⟩ : ∃ L, L = n.ks.length := ⟨_, rfl⟩
      rw [← hL] at h3 hlen
      have t1 : (1 : Int) < (L : Int) := by omega
      replace hL := hide hL
      clear h1 h2 hno l0
      go_enter Try.func43, Try.ntmps43
      go_wp2
      refine bodyPost_ret (results_none rfl _ _ _) rfl ?_
      exact ⟨rfl, Up.refl _⟩
    · have l0 : 0 < n.ids.length := List.length_pos_iff.2 h2
      obtain ⟨L, hL⟩ : ∃ L, L = n.ids.length := ⟨_, rfl⟩
      rw [← hL] at c1 l0
      have t1 : (0 : Int) < (L : Int) := by omega
      replace hL := hide hL
      clear h1 h2 hno
      go_enter Try.func43, Try.ntmps43
      go_wp2
      refine bodyPost_ret (results_none rfl _ _ _) rfl ?_
      exact ⟨rfl, Up.refl _⟩

theorem up_grT {w w0 w' : World} {r : Nat} (h : Up w w0) (hg : w0.grownBy w' (some r)) (hr : w.heap.size ≤ r) : Up w w' :=
  ((Chg.of_up (C := fun y => y = r) h).trans (⟨⟨hg.os, hg.tape, hg.output, hg.size, fun k hk => absurd hk (Nat.not_lt_zero k)⟩, fun y hy hn => hg.block y hy (fun e => hn (Option.some.inj e))⟩ : Chg (fun y => y = r) w0 w') (fun _ _ h => h)).up (fun x hx (e : x = r) => by omega)
theorem up_grT0 {w w' : World} (hg : w.grownBy w' none) : Up w w' := ⟨hg.os, hg.tape, hg.output, hg.size, fun y hy => hg.block y hy (by simp)⟩
theorem u8_of_wf {x : Int} (h : (Lit.int .u8 x).wf = true) : ∃ b : UInt8, x = (b.toNat : Int) := by
  have h1 : (0 : Int) ≤ x ∧ x ≤ 255 := by
    simp only [Lit.wf, decide_eq_true_eq, Bool.and_eq_true] at h
    exact h
  refine ⟨UInt8.ofNat x.toNat, ?_⟩
  rw [UInt8.toNat_ofNat']
  omega
theorem ranges_same {P : Program} {k : TypeId} {R : Value → Option (DataW Value × List MemPlace)} {w w' : World} {b r n : Nat} {D : DataW Value} {left : Lit → Bool} {cnt : Nat} (h : w.ranges P k R b r n D left cnt) (hb : w'.heap[b]? = w.heap[b]?) (hr : w'.heap[r]? = w.heap[r]?) : w'.ranges P k R b r n D left cnt := by
  obtain ⟨es, clock, since, seen, c0, h1, h2, h3, h4, h5, h6⟩ := h
  exact ⟨es, clock, since, seen, c0, hb.trans h1, h2, h3, h4, hr.trans h5, h6⟩
def joiN (n m : ND) : ND := ⟨n.lab ++ m.lab, m.str, m.v, m.ids, m.mp, m.kid, m.ks⟩
theorem joi_funext {g : Gr} {p c : Nat} {N : ND} (h : c ≠ p) : updG (updG g c none) p (some N) = joiG g p c N := by
  funext x
  unfold joiG updG
  by_cases e : x = p
  · subst e; simp [h.symm]
  · simp [e]
/-- Two nodes are one, in memory. -/
theorem join_mem {w1 w2 : World} {T : Nat} {r : Value} {a l : Int} {g : Gr} {p c : Nat} {n m : ND} (hg : GMem w1 g) (ht : TopAt w1 T r a l) (hp : g p = some n) (hc : g c = some m) (hcp : c ≠ p)
    (h2 : w2.heap[p]? = some (.cells #[.string (n.lab ++ m.lab), m.v, .map (some m.mp)] tNode (0, 0))) (hcg : Chg (fun y => y = p) w1 w2) : GMem w2 (joiG g p c (joiN n m)) ∧ TStep T g (joiG g p c (joiN n m)) w1 w2 ∧ TopAt w2 T r a l := by
  have NP := hg.node p n hp
  have NC := hg.node c m hc
  have hp1 : updG g c none p = some n := by rw [updG_other _ _ hcp.symm]; exact hp
  have NN : NAt w2 p (joiN n m) := ⟨h2, OwnG.chgT NC.ids hcg (fun b hb => kd_ne (NC.kd2 hb) NP.kd1 (by decide)), NC.map.chg hcg (kd_ne NC.kd3 NP.kd1 (by decide))⟩
  have old : ∀ x k, updG g c none x = some k → x ≠ c ∧ g x = some k := fun x k hx => by
    unfold updG at hx
    split at hx
    · cases hx
    · exact ⟨‹_›, hx⟩
  have g2 := (hg.del c).set hcg hp1 (fun y _ e => .inl e) NN (fun q k hq hne e => (old q k hq).1 (hg.mpi q c k m (old q k hq).2 hc e.symm)) (fun q k b hq hne e1 e2 => (old q k hq).1 (hg.vi q c k m b (old q k hq).2 hc e2 e1))
  rw [joi_funext hcp] at g2
  refine ⟨g2, ⟨hcg.mono (fun y _ e => .inr ⟨p, n, hp, .inl e⟩), fun y hy => .inl ?_⟩, ht.chg hcg (kd_ne ht.kd4 NP.kd1 (by decide))⟩
  obtain ⟨Gc, Gp, Go⟩ := joi_gets (g := g) (N := joiN n m) hcp
  rcases hy with rfl | ⟨x, k, hx, h⟩
  · exact .inl rfl
  · have hxc : x ≠ c := fun e => by rw [e, Gc] at hx; cases hx
    by_cases e : x = p
    · rw [e, Gp] at hx
      cases hx
      rcases h with rfl | h | rfl
      · exact .inr ⟨p, n, hp, .inl e⟩
      · exact .inr ⟨c, m, hc, .inr (.inl h)⟩
      · exact .inr ⟨c, m, hc, .inr (.inr rfl)⟩
    · rw [Go x hxc e] at hx
      exact .inr ⟨x, k, hx, h⟩
def JoiDone (T root : Nat) (a l : Int) (g : Gr) (p c : Nat) (n m : ND) (w w' : World) : Prop :=
  GMem w' (joiG g p c (joiN n m)) ∧ TStep T g (joiG g p c (joiN n m)) w w' ∧ TopAt w' T (nP root) (a - 1) l
set_option maxHeartbeats 8000000 in
theorem join_one (T root : Nat) (a l : Int) (g : Gr) (dom : List Nat) (p c : Nat) (n m : ND) (b : UInt8) (w : World) (hw : WF g root dom) (hg : GMem w g) (ht : TopAt w T (nP root) a l) (ha : 0 ≤ a ∧ a ≤ 1000000) (hp : g p = some n) (hpr : p ≠ root) (hi : n.ids = []) (hks : n.ks = [b]) (hk : n.kid b = some c) (hc : g c = some m) (hz : n.lab.size + m.lab.size ≤ 1000000) :
    Calls Try.prog 43 #[.pointer (some ⟨T, 0, none⟩), .pointer (some ⟨p, 0, none⟩)] w fun e w' => e = .returned (.tuple #[]) ∧ JoiDone T root a l g p c n m w w' := by
  obtain ⟨r, hr, _⟩ := hw.top
  have hpq := eql_nodes hg hp hr
  rw [decide_eq_false hpr] at hpq
  have N := hg.node p n hp
  have c0 := ht.c0
  unfold nP at c0
  have c1 := N.c1
  have c2 := N.c2
  obtain ⟨va, vc, hv, _⟩ := N.ids.rd
  rw [hv, hi] at c1
  replace c1 : w.cell? ⟨p, 1, none⟩ = some (.slice va 0 vc) := c1
  have hlen := fun ty => (N.map).len ty
  rw [hks] at hlen
  replace hlen : ∀ ty, (Builtin.len_ #[60] ty #[.map (some n.mp)]).run Try.prog w = .ok (.int .i64 1) w := hlen
  have hcp := (hw.kid_ne hp hk).2
  have HK3 := hide N.kd3
  have HMAP := hide N.map
  obtain ⟨D, hown, hsz, hat⟩ := N.map
  rw [hks] at hsz hown
  replace hsz : Maps.size D = 1 := hsz
  have HAT := hide hat
  have HSZ := hide hsz
  have H := hide (⟨hw, hg, ht, hp, hc, hk, hcp, hks, (hw.ks p n hp).2⟩ : _ ∧ _ ∧ _ ∧ _ ∧ _ ∧ _ ∧ _ ∧ _ ∧ _)
  have hw1 : wrap64 (a - 1) = a - 1 := by rw [wrap64]; omega
  have HMP := hide (hg.node p n hp).map.lt
  clear N hg ht hv hr hw hi hks hk hc hp hpr hat hsz hcp
  go_enter Try.func43, Try.ntmps43
  go_wp2_with (first
    | (at_range; refine wpList_range_own _ rfl _ 60 rfl 5 54 lawB Try.underlying60 heldN n.mp 1 D rfl hown ?_; intro w0 hrg0 hg0 hs0)
    | go_in)
  go_frame
  have HU0 := hide (up_grT0 hg0)
  rw [HSZ.out] at hrg0
  have HRG := hide hrg0
  clear hg0 hs0 hrg0
  go_loopw [5] (fun u wr => (wr.ranges Try.prog 5 heldN n.mp w.heap.size 1 D (Maps.has D) 1 ∧ Hid (Up w wr)) ∨ (∃ left, wr.ranges Try.prog 5 heldN n.mp w.heap.size 1 D left 0 ∧ Hid (JoiDone T root a l g p c n m w wr)))
    (fun _ wr => wr.rangeLeft n.mp w.heap.size)
  case atStart => exact .inl ⟨HRG.out, HU0⟩
  case round =>
    clear HRG HU0
    rcases hrel with ⟨hrg, hu⟩ | ⟨left, hrg, hdone⟩
    · go_wp2_with (first
        | (at_next; refine wpList_next_ranges _ rfl _ rfl 5 lawB heldN (Value.int .u8) oP (fun key kl hk => by obtain ⟨x, hx, _⟩ := Maps.keyOf_int_inv Try.underlying5 hk; exact ⟨x, hx⟩) (fun v y hv => ⟨npOf v, (heldN_inv hv).2⟩) n.mp w.heap.size 1 _ _ _ rfl hrg ?_ ?_)
        | go_in)
      · intro x o kl yd yp w1 cnt1 hkey hlk hv hax hrg1 hlt hg1 hs1 hen
        subst hlt
        obtain ⟨x', ex, rfl, hwf⟩ := Maps.keyOf_int_inv Try.underlying5 hkey
        cases ex
        obtain ⟨b', rfl⟩ := u8_of_wf hwf
        obtain ⟨hw, hg, ht, hp, hc, hk, hcp, hks, hki⟩ := H.out
        have hb : b' = b := by
          have h5 := (HAT.out b').1
          rw [has_true_of_atKey hax] at h5
          have h6 := (hki b').2 h5.symm
          rw [hks] at h6
          simpa using h6
        subst hb
        have ho : o = some c := by
          have h5 := (HAT.out b').2 c hk
          rw [hax] at h5
          have h7 := (heldN_inv hv).1
          simp only [Prod.mk.injEq] at h7
          rw [h7.1] at h5
          injection h5 with h5
          cases o with
          | none => cases h5
          | some z => cases h5; rfl
        subst ho
        have hu1 := up_grT hu.out hg1 (Nat.le_refl _)
        have hrL : w1.rangeLeft n.mp w.heap.size < wr.rangeLeft n.mp w.heap.size := by rw [hrg1.left_eq, hrg.left_eq]; decide
        have G1 := hg.up hu1
        have T1 := ht.up hu1
        have NP := G1.node p n hp
        have NC := G1.node c m hc
        have p0 := NP.c0
        have p1 := NP.c1
        have p2 := NP.c2
        have q0 := NC.c0
        have q1 := NC.c1
        have q2 := NC.c2
        obtain ⟨ma, mn, mc, hmv⟩ : ∃ ma mn mc, m.v = .slice ma mn mc := by obtain ⟨a, c, h, _⟩ := NC.ids.rd; exact ⟨a, _, c, h⟩
        obtain ⟨na, nn, nc, hnv⟩ : ∃ ma mn mc, n.v = .slice ma mn mc := by obtain ⟨a, c, h, _⟩ := NP.ids.rd; exact ⟨a, _, c, h⟩
        rw [hmv] at q1
        rw [hnv] at p1
        have fp0 := NP.fz 0
        have fp1 := NP.fz 1
        have fp2 := NP.fz 2
        have fT := T1.fz 1
        have hlT := T1.lt
        have hRG1 := hide hrg1
        have HU1 := hide hu1
        have HRL := hide hrL
        have HMV := hide hmv
        have t1 := T1.c1
        have HTP := hide (kd_ne T1.kd4 NP.kd1 (by decide))
        rw [oP_some] at hen
        clear hw hg ht hp hc hk hcp hks hki hax hv hlk hkey hwf hu hrg hrg1 hg1 hs1 hu1 hrL G1 T1 NP NC hmv hnv
        go_wp2_with fail
        go_region
        obtain ⟨W2, hW2⟩ : ∃ W2, W2 = (((w1.setCell ⟨p, 0, none⟩ (.string (n.lab ++ m.lab))).setCell ⟨p, 1, none⟩ (.slice ma mn mc)).setCell ⟨p, 2, none⟩ (.map (some m.mp))).drew := ⟨_, rfl⟩
        rw [← hW2]
        obtain ⟨hw, hg, ht, hp, hc, hk, hcp, hks, hki⟩ := H.out
        have G1 := hg.up HU1.out
        have T1 := ht.up HU1.out
        have hblk : W2.heap[p]? = some (.cells #[.string (n.lab ++ m.lab), m.v, .map (some m.mp)] tNode (0, 0)) := by
          rw [hW2, HMV.out]
          exact heap_setCell_same _ p 2 _ _ _ (heap_setCell_same _ p 1 _ _ _ (heap_setCell_same w1 p 0 _ _ _ (G1.node p n hp).blk))
        have hcg : Chg (fun y => y = p) w1 W2 := by
          rw [hW2]
          exact ((((Chg.refl (fun y => y = p) w1).set (p := ⟨p, 0, none⟩) (fun _ => rfl) _).set (p := ⟨p, 1, none⟩) (fun _ => rfl) _).set (p := ⟨p, 2, none⟩) (fun _ => rfl) _).drew
        obtain ⟨j1, j2, j3⟩ := join_mem G1 T1 hp hc hcp hblk hcg
        have s1 := j3.c1
        have fs1 := j3.fz 1
        have hlT2 := j3.lt
        have J1 := hide j1
        have J2 := hide ((TStep.up (T := T) (g := g) HU1.out).trans j2)
        have J3 := hide j3
        have hmp := (hg.node p n hp).map.lt
        have NP1 := G1.node p n hp
        have TP1 := T1
        have hrg2 := hide (ranges_same hRG1.out (hcg.2 n.mp (by have := HU1.out.size; omega) (kd_ne NP1.kd3 NP1.kd1 (by decide))) (hcg.2 w.heap.size (by
          obtain ⟨es, clock, since, seen, c0, h1, h2, h3, h4, h5, h6⟩ := hRG1.out
          exact lt_of_heap h5) (fun e => by have := (hg.node p n hp).lt; omega)))
        have hfin : (W2.setCell ⟨T, 1, none⟩ (.int .i64 (a - 1))).ranges Try.prog 5 heldN n.mp w.heap.size 1 D (fun z => Maps.has D z && !z.sameKey (Lit.int .u8 (b'.toNat : Int))) 0 := by
          refine ranges_same hrg2.out ((chg_set W2 ⟨T, 1, none⟩ _).2 n.mp ?_ ?_) ((chg_set W2 ⟨T, 1, none⟩ _).2 w.heap.size ?_ ?_)
          · obtain ⟨es, clock, since, seen, c0, h1, _⟩ := hrg2.out
            exact lt_of_heap h1
          · exact kd_ne HK3.out ht.kd4 (by decide)
          · obtain ⟨es, clock, since, seen, c0, h1, h2, h3, h4, h5, h6⟩ := hrg2.out
            exact lt_of_heap h5
          · have := ht.lt
            exact fun (e : w.heap.size = T) => by omega
        have HFIN := hide hfin
        clear hw hg ht hp hc hk hcp hks hki G1 T1 hblk hcg j1 j2 j3 p0 p1 p2 q0 q1 q2 fp0 fp1 fp2 fT t1 hen NP1 TP1 hlT hW2 hmp hfin
        go_wp2
        go_roundw
        case rel => exact .inr ⟨_, HFIN.out, hide ⟨J1.out.chg (chg_set _ _ _) (J1.out.top J3.out), J2.out.trans (TStep.top (chg_set _ _ _)), J3.out.set1 (a - 1)⟩⟩
        case measure =>
          have := HRL.out
          rw [HFIN.out.left_eq]
          omega
    · go_wp2_with (first
        | (at_next; refine wpList_next_ranges _ rfl _ rfl 5 lawB heldN (Value.int .u8) oP (fun key kl hk => by obtain ⟨x, hx, _⟩ := Maps.keyOf_int_inv Try.underlying5 hk; exact ⟨x, hx⟩) (fun v y hv => ⟨npOf v, (heldN_inv hv).2⟩) n.mp w.heap.size 1 _ _ _ rfl hrg ?_ ?_)
        | go_in)
      intro _
      go_wp2
      go_end0
      exact ⟨rfl, hdone.out⟩

end Go.Proofs.Ytmbniakobhaomaa

namespace Go.Proofs.Ytmbniakobhaomaa
open Go.ChangeShapes Go.WideShapes Go.ChangeAt Go.RowKit Go.Maps
set_option linter.unusedVariables false
set_option maxRecDepth 100000
attribute [local go_sem ↓] Go.wp_at_zero Go.wp_at_succ

def TidOut (w : World) (T root : Nat) (g : Gr) (E : List UInt8 → List Int) (len : Int) (k : Nat) (w' : World) : Prop :=
  ∃ g' dom', TrX w' T root g' dom' E len k ∧ Min0 g' root ∧ TStep T g g' w w'
/-- Two nodes were made one. -/
theorem TrX.join {w w2 : World} {T root : Nat} {g : Gr} {dom : List Nat} {E : List UInt8 → List Int} {len : Int} {k : Nat} (h : TrX w T root g dom E len k) {p c : Nat} {n m N : ND} {b : UInt8} (S : JoiAt g p c n m N b) (hpr : p ≠ root) (hg : GMem w2 (joiG g p c N)) (ht : TopAt w2 T (nP root) ((dom.length : Int) - 1) len) : TrX w2 T root (joiG g p c N) (dom.erase c) E len k := by
  obtain ⟨hcr, hcp⟩ := h.wf.kid_ne S.hp S.hk
  obtain ⟨Gc, Gp, Go⟩ := joi_gets (g := g) (N := N) hcp
  have hcd : c ∈ dom := (h.wf.mem c).2 (by rw [S.hc]; rfl)
  have e6 : (dom.erase c).length = dom.length - 1 := List.length_erase_of_mem hcd
  have e7 : 0 < dom.length := List.length_pos_of_mem hcd
  have inv : ∀ x r, joiG g p c N x = some r → (x = p ∧ r = N) ∨ g x = some r := fun x r hx => by
    have hxc : x ≠ c := fun e => by rw [e, Gc] at hx; cases hx
    by_cases e : x = p
    · rw [e, Gp] at hx; cases hx; exact .inl ⟨e, rfl⟩
    · rw [Go x hxc e] at hx; exact .inr hx
  refine ⟨h.wf.join S hpr, h.tells.join h.wf S, hg, ?_, by have := h.few; omega, fun x r hx => ?_, fun x r hx => ?_, fun x r hx => ?_⟩
  · rw [e6, show ((dom.length - 1 : Nat) : Int) = (dom.length : Int) - 1 by omega]; exact ht
  · rcases inv x r hx with ⟨_, rfl⟩ | h1
    · rw [S.n5]; exact h.ids c m S.hc
    · exact h.ids x r h1
  · rcases inv x r hx with ⟨_, rfl⟩ | h1
    · rw [S.n1]; exact h.str c m S.hc
    · exact h.str x r h1
  · rcases inv x r hx with ⟨_, rfl⟩ | h1
    · have e4 : r.lb.length = r.lab.size := Array.length_toList
      have e5 : n.lb.length = n.lab.size := Array.length_toList
      rw [S.n2, List.length_append] at e4
      rw [S.n1, (h.wf.lab S.hp S.hk S.hc).1, List.length_append]
      have := h.lab p n S.hp
      omega
    · exact h.lab x r h1
/-- Whatever is to be made one. -/
theorem join_any (T root : Nat) (g : Gr) (dom : List Nat) (E : List UInt8 → List Int) (len : Int) (k p : Nat) (n : ND) (w : World) (h : TrX w T root g dom E len k) (hm : MinX g root p) (hp : g p = some n) (hc : p = root ∨ n.ids ≠ [] ∨ 1 ≤ n.ks.length) (hk : k ≤ 10000) :
    Calls Try.prog 43 #[.pointer (some ⟨T, 0, none⟩), .pointer (some ⟨p, 0, none⟩)] w fun e w' => e = .returned (.tuple #[]) ∧ TidOut w T root g E len k w' := by
  have hds := h.few
  have hkl := h.wf.ksle hp
  by_cases hno : p = root ∨ n.ids ≠ [] ∨ 1 < n.ks.length
  · refine (join_not T root dom.length len g dom p n w h.wf h.gm h.top hp hno (by omega) (by have := h.ids p n hp; omega)).mono ?_
    rintro e w' ⟨rfl, hu⟩
    refine ⟨rfl, g, dom, h.up hu, fun x r h1 h2 => ?_, TStep.up hu⟩
    by_cases e : x = p
    · rw [e, hp] at h1
      cases h1
      rcases hno with h3 | h3 | h3
      · exact absurd (e.trans h3) h2
      · exact .inl h3
      · exact .inr h3
    · exact hm x r h1 h2 e
  · have hpr : p ≠ root := fun e => hno (.inl e)
    have hi : n.ids = [] := Classical.byContradiction fun e => hno (.inr (.inl e))
    have hk1 : n.ks.length = 1 := by
      have h1 : ¬ 1 < n.ks.length := fun e => hno (.inr (.inr e))
      rcases hc with h2 | h2 | h2
      · exact absurd h2 hpr
      · exact absurd hi h2
      · omega
    obtain ⟨b, hks⟩ := List.length_eq_one_iff.1 hk1
    obtain ⟨c, hkc⟩ := Option.isSome_iff_exists.1 (((h.wf.ks p n hp).2 b).1 (by rw [hks]; simp))
    obtain ⟨m, hcm, _⟩ := h.wf.kid p n b c hp hkc
    obtain ⟨hcr, hcp⟩ := h.wf.kid_ne hp hkc
    have S : JoiAt g p c n m (joiN n m) b := ⟨hp, hkc, hcm, hks, hi, rfl, by show (n.lab ++ m.lab).data.toList = _; rw [ByteArray.data_append, Array.toList_append]; rfl, rfl, rfl, rfl⟩
    refine (join_one T root dom.length len g dom p c n m b w h.wf h.gm h.top (by omega) hp hpr hi hks hkc hcm ?_).mono ?_
    · have h1 := h.lab p n hp
      have h2 := h.str p n hp
      have h3 := h.lab c m hcm
      have h4 := h.str c m hcm
      omega
    · rintro e w' ⟨rfl, h1, h2, h3⟩
      exact ⟨rfl, _, _, h.join S hpr h1 h3, MinX.join hm S hcp hcr, h2⟩

/-- A leaf has gone, in memory. -/
theorem drop_mem {w1 w2 : World} {T : Nat} {r : Value} {a l : Int} {g : Gr} {p c : Nat} {n m : ND} {b : UInt8} (hg : GMem w1 g) (ht : TopAt w1 T r a l) (hp : g p = some n) (hc : g c = some m) (hcp : c ≠ p) (hbn : b ∈ n.ks)
    (hm2 : MapB w2 n.mp (updK n.kid b none) (n.ks.length - 1)) (hc2 : Chg (fun y => y = n.mp) w1 w2) : GMem w2 (drpG g p c n b) ∧ TStep T g (drpG g p c n b) w1 w2 ∧ TopAt w2 T r a l := by
  have NP := hg.node p n hp
  have NP2 : NAt w2 p (drpP n b) := ⟨(hc2.2 p NP.lt (kd_ne NP.kd1 NP.kd3 (by decide))).trans NP.blk, OwnG.chgT NP.ids hc2 (fun x hx => kd_ne (NP.kd2 hx) NP.kd3 (by decide)), by
    have e4 : (drpP n b).ks.length = n.ks.length - 1 := List.length_erase_of_mem hbn
    rw [e4]; exact hm2⟩
  have g3 := (hg.set1 hc2 hp (fun y _ e => .inr (.inr e)) NP2 rfl (fun b h => .inl h)).del c
  have s3 := TStep.set (T := T) (n' := drpP n b) hp hc2 (fun y _ e => .inr (.inr e)) rfl (fun b h => .inl h)
  refine ⟨g3, ⟨s3.chg, fun y hy => s3.new y ?_⟩, ht.chg hc2 (fun e => kd_ne ht.kd4 NP.kd3 (by decide) e)⟩
  rcases hy with rfl | ⟨x, k, hx, h⟩
  · exact .inl rfl
  · refine .inr ⟨x, k, ?_, h⟩
    unfold drpG at hx
    unfold updG at hx
    split at hx
    · cases hx
    · exact hx
theorem TrX.drop {w w2 : World} {T root : Nat} {g : Gr} {dom : List Nat} {E : List UInt8 → List Int} {len : Int} {k : Nat} (h : TrX w T root g dom E len k) {p c : Nat} {n m : ND} {b : UInt8} (hp : g p = some n) (hk : n.kid b = some c) (hc : g c = some m) (hm : m.ks = []) (hi : m.ids = []) (hg : GMem w2 (drpG g p c n b)) (ht : TopAt w2 T (nP root) ((dom.length : Int) - 1) len) : TrX w2 T root (drpG g p c n b) (dom.erase c) E len k := by
  obtain ⟨hcr, hcp⟩ := h.wf.kid_ne hp hk
  obtain ⟨Gc, Gp, Go⟩ := drp_gets (g := g) (n := n) (b := b) hcp
  have hcd : c ∈ dom := (h.wf.mem c).2 (by rw [hc]; rfl)
  have e6 : (dom.erase c).length = dom.length - 1 := List.length_erase_of_mem hcd
  have e7 : 0 < dom.length := List.length_pos_of_mem hcd
  have inv : ∀ x r, drpG g p c n b x = some r → ∃ r0, g x = some r0 ∧ r.str = r0.str ∧ r.ids = r0.ids ∧ r.lab = r0.lab := fun x r hx => by
    have hxc : x ≠ c := fun e => by rw [e, Gc] at hx; cases hx
    by_cases e : x = p
    · rw [e, Gp] at hx; cases hx; exact ⟨n, by rw [e]; exact hp, rfl, rfl, rfl⟩
    · rw [Go x hxc e] at hx; exact ⟨r, hx, rfl, rfl, rfl⟩
  refine ⟨h.wf.drop hp hk hc hm, h.tells.drop h.wf hp hk hc hi, hg, ?_, by have := h.few; omega, fun x r hx => ?_, fun x r hx => ?_, fun x r hx => ?_⟩
  · rw [e6, show ((dom.length - 1 : Nat) : Int) = (dom.length : Int) - 1 by omega]; exact ht
  · obtain ⟨r0, h1, _, h3, _⟩ := inv x r hx; rw [h3]; exact h.ids x r0 h1
  · obtain ⟨r0, h1, h2, _⟩ := inv x r hx; rw [h2]; exact h.str x r0 h1
  · obtain ⟨r0, h1, h2, _, h4⟩ := inv x r hx; rw [h2, h4]; exact h.lab x r0 h1

set_option maxHeartbeats 8000000 in
theorem tidy_calls (T root : Nat) (g : Gr) (dom : List Nat) (E : List UInt8 → List Int) (len : Int) (k p : Nat) (ab : Option Nat) (n : ND) (w : World) (h : TrX w T root g dom E len k) (hm : MinX g root p) (hp : g p = some n) (hi : n.ids = []) (ha : Above g root p ab) (hk : k ≤ 10000) :
    Calls Try.prog 29 #[.pointer (some ⟨T, 0, none⟩), .pointer (some ⟨p, 0, none⟩), oP ab] w fun e w' => e = .returned (.tuple #[]) ∧ TidOut w T root g E len k w' := by
  obtain ⟨r, hr, _⟩ := h.wf.top
  have hpq := eql_nodes h.gm hp hr
  have N := h.gm.node p n hp
  have c0 := h.top.c0
  unfold nP at c0
  have c2 := N.c2
  have hlen := fun ty => (N.map).len ty
  by_cases hj : 1 ≤ n.ks.length ∨ p = root
  · have HJ := hide (join_any T root g dom E len k p n w h hm hp (hj.elim (fun h => .inr (.inr h)) .inl) hk)
    clear N h hm hi ha hr
    obtain ⟨L, hL⟩ : ∃ L, L = n.ks.length := ⟨_, rfl⟩
    rw [← hL] at hlen hj
    replace hL := hide hL
    by_cases h1 : 1 ≤ L
    · have t1 : (0 : Int) < (L : Int) := by omega
      clear hj h1
      go_enter Try.func29, Try.ntmps29
      go_wp2_with fail
      refine HJ.out.mono ?_
      rintro _ w1 ⟨rfl, ho⟩
      have HO := hide ho
      clear ho HJ
      dsimp only
      go_wp2
      first | go_end0 | refine bodyPost_ret (results_none rfl _ _ _) rfl ?_
      exact ⟨rfl, HO.out⟩
    · have h2 : p = root := hj.resolve_left h1
      rw [decide_eq_true h2] at hpq
      obtain rfl : L = 0 := by omega
      replace hlen : ∀ ty, (Builtin.len_ #[60] ty #[.map (some n.mp)]).run Try.prog w = .ok (.int .i64 0) w := hlen
      clear hj h1 h2
      go_enter Try.func29, Try.ntmps29
      go_wp2_with fail
      refine HJ.out.mono ?_
      rintro _ w1 ⟨rfl, ho⟩
      have HO := hide ho
      clear ho HJ
      dsimp only
      go_wp2
      first | go_end0 | refine bodyPost_ret (results_none rfl _ _ _) rfl ?_
      exact ⟨rfl, HO.out⟩
  · have hpr : p ≠ root := fun e => hj (.inr e)
    have hk0 : n.ks.length = 0 := by
      have : ¬ 1 ≤ n.ks.length := fun e => hj (.inl e)
      omega
    have hks : n.ks = [] := List.length_eq_zero_iff.1 hk0
    rw [decide_eq_false hpr] at hpq
    rw [hk0] at hlen
    replace hlen : ∀ ty, (Builtin.len_ #[60] ty #[.map (some n.mp)]).run Try.prog w = .ok (.int .i64 0) w := hlen
    obtain ⟨x, nx, b, rfl, hx, hkx⟩ : ∃ x nx b, ab = some x ∧ g x = some nx ∧ nx.kid b = some p := by
      rcases ha with ⟨e, _⟩ | h1
      · exact absurd e hpr
      · exact h1
    obtain ⟨hstr, ⟨t, htl⟩, _⟩ := h.wf.lab hx hkx hp
    obtain ⟨hz, hb⟩ := bytes_head (s := n.lab) (show n.lab.data.toList = b :: t from htl)
    have NX := h.gm.node x nx hx
    have x2 := NX.c2
    have k0 := N.c0
    have hpx := (h.wf.kid_ne hx hkx).2
    obtain ⟨w1, hrun, hm1, hc1, _⟩ := MapB.drop (NX.map.up (Up.refl w).drew) b (by rw [hkx]; rfl) 0
    have hbn : b ∈ nx.ks := by rw [(h.wf.ks x nx hx).2, hkx]; rfl
    have hcc : Chg (fun y => y = nx.mp) w w1 := (Chg.refl _ w).drew.trans hc1 (fun _ _ h => h)
    obtain ⟨G1, S1, T1⟩ := drop_mem h.gm h.top hx hp hpx hbn hm1 hcc
    have s1 := T1.c1
    have f1 := T1.fz 1
    have hlT := T1.lt
    have hd1 : 1 ≤ dom.length ∧ dom.length ≤ 2 * k + 1 := ⟨List.length_pos_of_mem ((h.wf.mem p).2 (by rw [hp]; rfl)), h.few⟩
    obtain ⟨W2, hW2⟩ : ∃ W2, w1.setCell ⟨T, 1, none⟩ (.int .i64 ((dom.length : Int) - 1)) = W2 := ⟨_, rfl⟩
    have hc2 : Chg (fun y => y = T) w1 W2 := by rw [← hW2]; exact chg_set w1 ⟨T, 1, none⟩ _
    have T2 : TopAt W2 T (nP root) ((dom.length : Int) - 1) len := by rw [← hW2]; exact T1.set1 _
    have G2 := G1.chg hc2 (G1.top T1)
    have X2 := h.drop hx hkx hp hks hi G2 T2
    have M2 := MinX.drop (n := nx) (b := b) hm hpx
    have S2 := hide (S1.trans (TStep.top hc2))
    obtain ⟨Gc, Gp, Go⟩ := drp_gets (g := g) (n := nx) (b := b) hpx
    have hel : (drpP nx b).ks.length = nx.ks.length - 1 := List.length_erase_of_mem hbn
    have HJ := hide (join_any T root _ _ E len k x (drpP nx b) W2 X2 M2 Gp (by
      by_cases e : x = root
      · exact .inl e
      · right
        rcases hm x nx hx e (fun e => hpx e.symm) with h1 | h1
        · exact .inl h1
        · right; omega) hk)
    have hw1 : wrap64 ((dom.length : Int) - 1) = (dom.length : Int) - 1 := by rw [wrap64]; omega
    clear hj hpr hk0 hks ha hx hkx hstr htl NX hpx hm1 hc1 hbn hcc G1 S1 T1 hc2 T2 G2 X2 M2 Gc Gp Go hel h hm hp hi N hr hd1
    rw [oP_some]
    go_enter Try.func29, Try.ntmps29
    go_wp2_with fail
    go_region
    go_wp2_with fail
    refine HJ.out.mono ?_
    rintro _ w3 ⟨rfl, ho⟩
    have HO := hide ho
    clear ho HJ
    dsimp only
    go_wp2
    first | go_end0 | refine bodyPost_ret (results_none rfl _ _ _) rfl ?_
    obtain ⟨g', dom', h1, h2, h3⟩ := HO.out
    exact ⟨rfl, g', dom', h1, h2, S2.out.trans h3⟩

end Go.Proofs.Ytmbniakobhaomaa

namespace Go.Proofs.Ytmbniakobhaomaa
open Go.ChangeShapes Go.WideShapes Go.ChangeAt Go.RowKit Go.Maps
set_option linter.unusedVariables false
set_option maxRecDepth 100000
attribute [local go_sem ↓] Go.wp_at_zero Go.wp_at_succ

/-- The numbers of one node are others. -/
theorem TrX.setIds {w w2 : World} {T root : Nat} {g : Gr} {dom : List Nat} {E : List UInt8 → List Int} {len len' : Int} {k : Nat} (h : TrX w T root g dom E len k) {p : Nat} {n n' : ND} (hp : g p = some n) (hl : n'.lab = n.lab) (hs : n'.str = n.str) (hk : n'.kid = n.kid) (hks : n'.ks = n.ks) (hr : Rise n'.ids) (hi : n'.ids.length ≤ k) (hg : GMem w2 (updG g p (some n'))) (ht : TopAt w2 T (nP root) dom.length len') :
    TrX w2 T root (updG g p (some n')) dom (updE E n.str n'.ids) len' k := by
  have inv : ∀ x r, updG g p (some n') x = some r → (x = p ∧ r = n') ∨ (x ≠ p ∧ g x = some r) := fun x r hx => by
    unfold updG at hx
    split at hx
    · cases hx; exact .inl ⟨‹_›, rfl⟩
    · exact .inr ⟨‹_›, hx⟩
  refine ⟨h.wf.setIds hp hl hs hk hks hr, h.tells.setIds h.wf hp hs, hg, ht, h.few, fun x r hx => ?_, fun x r hx => ?_, fun x r hx => ?_⟩
  · rcases inv x r hx with ⟨_, rfl⟩ | ⟨_, h1⟩
    · exact hi
    · exact h.ids x r h1
  · rcases inv x r hx with ⟨_, rfl⟩ | ⟨_, h1⟩
    · rw [hs]; exact h.str p n hp
    · exact h.str x r h1
  · rcases inv x r hx with ⟨_, rfl⟩ | ⟨_, h1⟩
    · rw [hs, hl]; exact h.lab p n hp
    · exact h.lab x r h1

def EraOut (w : World) (T : Nat) (O : Nat → Prop) (E : List UInt8 → List Int) (len : Int) (k : Nat) (s : List UInt8) (id : Int) (e : Ending) (w' : World) : Prop :=
  if id ∈ E s then e = .returned (.int .i64 0) ∧ TrDid w w' T O (updE E s (eraF (E s) id)) (len - 1) k
  else e = .returned (.int .i64 71) ∧ Up w w'
set_option maxHeartbeats 8000000 in
theorem erase_calls (T : Nat) (O : Nat → Prop) (E : List UInt8 → List Int) (len : Int) (k : Nat) (s : ByteArray) (id : Int) (w : World) (h : TrI w T O E len k) (hk : k ≤ 900) (hl : 0 ≤ len ∧ len ≤ 1000000) :
    Calls Try.prog 14 #[.pointer (some ⟨T, 0, none⟩), .string s, .int .i64 id] w fun e w' => EraOut w T O E len k s.data.toList id e w' := by
  obtain ⟨root, g, dom, hX, hM, rfl⟩ := h
  have HDP := hide (deepest_calls T root dom.length len g dom s w hX.wf hX.gm hX.top)
  have H := hide hX
  have HM := hide hM
  have hw1 : wrap64 (len - 1) = len - 1 := by rw [wrap64]; omega
  clear hX hM
  go_enter Try.func14, Try.ntmps14
  go_wp2_with fail
  refine HDP.out.mono ?_
  rintro _ w1 ⟨p, n, ab, r, rfl, hd, hu1⟩
  have hF := hide (H.out.found hd.deep)
  have X1 := hide (H.out.up hu1)
  have HD := hide hd
  have HU1 := hide hu1
  clear HDP H hd hu1
  dsimp only
  rcases hr : r.data.toList with _ | ⟨b, t⟩
  · rw [hr] at hF
    have hstr : s.data.toList = n.str := by have := HD.out.deep.eq; rw [hr, List.append_nil] at this; exact this
    have hEn : E s.data.toList = n.ids := hF.out.1 rfl
    obtain rfl := bytes_nil hr
    have hp := HD.out.deep.at_
    have N := X1.out.gm.node p n hp
    have k1 := N.c1
    have f1 := N.fz 1
    obtain ⟨va, vc, hv, _⟩ := N.ids.rd
    have HIL := hide (X1.out.ids p n hp)
    have HBS := hide (search_calls n.v n.ids id w1 (N.ids.rd) (by have := HIL.out; omega) (X1.out.wf.rise p n hp))
    have HV := hide hv
    have HP := hide hp
    have HS := hide hstr
    have HE := hide hEn
    clear N hp hr hF hstr hEn hv
    go_wp2_with fail
    refine HBS.out.mono ?_
    rintro _ w2 ⟨q, hst, rfl, hu2⟩
    clear HBS
    have HST := hide hst
    have X2 := hide (X1.out.up hu2)
    have HU2 := hide (HU1.out.trans hu2)
    clear hst hu2 k1 f1
    by_cases hin : id ∈ n.ids
    · have t1 : decide (id ∈ n.ids) = true := decide_eq_true hin
      rw [t1]
      have HIN := hide hin
      clear hin t1
      -- the trie's own block
      have T2 := X2.out.top
      have kT := T2.c2
      have fT := T2.fz 2
      have hlT := T2.lt
      obtain ⟨W3, hW3⟩ : ∃ W3, w2.setCell ⟨T, 2, none⟩ (.int .i64 (len - 1)) = W3 := ⟨_, rfl⟩
      have hc3 : Chg (fun y => y = T) w2 W3 := by rw [← hW3]; exact chg_set w2 ⟨T, 2, none⟩ _
      have T3 : TopAt W3 T (nP root) dom.length (len - 1) := by rw [← hW3]; exact T2.set2 _
      have G3 := X2.out.gm.chg hc3 (X2.out.gm.top T2)
      have X3 := hide (⟨X2.out.wf, X2.out.tells, G3, T3, X2.out.few, X2.out.ids, X2.out.str, X2.out.lab⟩ : TrX W3 T root g dom E (len - 1) k)
      have S3 := hide ((TStep.up (T := T) (g := g) HU2.out).trans (TStep.top hc3))
      have N3 := G3.node p n HP.out
      have k1 := N3.c1
      have f1 := N3.fz 1
      rw [HV.out] at k1
      have hlp := N3.lt
      clear T2 hc3 T3 G3 N3
      obtain ⟨L, hL⟩ : ∃ L, L = n.ids.length := ⟨_, rfl⟩
      rw [← hL] at k1
      by_cases hL1 : 1 < L
      · have t1 : (1 : Int) < (L : Int) := by omega
        have hql : q < n.ids.length := (HST.out.mem (X3.out.wf.rise p n HP.out)).1 HIN.out |>.1
        have hqw : wrap64 ((q : Int) + 1) = (q : Int) + 1 := by rw [wrap64]; have := HIL.out; omega
        have HDL := hide (delJ_calls n.v n.ids q W3 (X3.out.gm.node p n HP.out).ids (by have := HIL.out; omega) hql)
        rw [HV.out, ← hL] at HDL
        have HL := hide (⟨hL, hL1, hql⟩ : _ ∧ _ ∧ _)
        clear hL hL1 hql
        dsimp only
        go_wp2_with fail
        refine HDL.out.mono ?_
        rintro _ w4 ⟨v', rfl, ho4, hc4, hb4⟩
        clear HDL
        obtain ⟨ua, un, uc, rfl⟩ : ∃ va vn vc, v' = .slice va vn vc := by obtain ⟨a, c, h, _⟩ := ho4.rd; exact ⟨a, _, c, h⟩
        have N3 := X3.out.gm.node p n HP.out
        have hvv : (Value.slice va L vc).ownBlock = n.v.ownBlock := by rw [HV.out, HL.out.1]
        have hc4' : Chg (fun y => n.v.ownBlock = some y) W3 w4 := by rw [← hvv]; exact hc4
        have T4 := X3.out.top.chg hc4' (fun e => kd_ne X3.out.top.kd4 (N3.kd2 e) (by decide) rfl)
        have hb4p : w4.heap[p]? = _ := (hc4'.2 p N3.lt (fun e => kd_ne N3.kd1 (N3.kd2 e) (by decide) rfl)).trans N3.blk
        obtain ⟨W5, hW5⟩ : ∃ W5, w4.setCell ⟨p, 1, none⟩ (.slice ua un uc) = W5 := ⟨_, rfl⟩
        have hb5 : W5.heap[p]? = some (.cells #[.string n.lab, .slice ua un uc, .map (some n.mp)] tNode (0, 0)) := by rw [← hW5]; exact heap_setCell_same w4 p 1 _ _ _ hb4p
        have hc5 : Chg (fun y => y = p) w4 W5 := by rw [← hW5]; exact chg_set w4 ⟨p, 1, none⟩ _
        have k2 : w4.cell? ⟨p, 1, none⟩ = some n.v := by simp [World.cell?, hb4p]
        have f2 : w4.frozen? ⟨p, 1, none⟩ = false := by simp [World.frozen?, hb4p]
        have hcC : Chg (fun y => y = p ∨ n.v.ownBlock = some y) W3 W5 := (hc4'.mono (fun y _ h => Or.inr h)).trans hc5 (fun y _ h => .inl h)
        have hop : ∀ b, (Value.slice ua un uc).ownBlock = some b → ¬ b = p := fun b hb => kd_ne (own_kd ho4 hb) (by unfold kd; rw [hb4p]; rfl : kd w4 p = 1) (by decide)
        have N5 : NAt W5 p { n with v := .slice ua un uc, ids := n.ids.take q ++ n.ids.drop (q + 1) } := ⟨hb5, OwnG.chgT ho4 hc5 hop, N3.map.chg hcC (fun e => e.elim (fun e => kd_ne N3.kd3 N3.kd1 (by decide) e) (fun e => kd_ne N3.kd3 (N3.kd2 e) (by decide) rfl))⟩
        have hv2 : ∀ b, (Value.slice ua un uc).ownBlock = some b → n.v.ownBlock = some b ∨ W3.heap.size ≤ b := fun b hb => .inl (by rw [hb4, hvv] at hb; exact hb)
        have G5 := hide (X3.out.gm.set1 hcC HP.out (fun y _ e => e.elim .inl (fun e => .inr (.inl e))) N5 rfl hv2)
        have S5 := hide (S3.out.trans (TStep.set (T := T) (n' := { n with v := .slice ua un uc, ids := n.ids.take q ++ n.ids.drop (q + 1) }) HP.out hcC (fun y _ e => e.elim .inl (fun e => .inr (.inl e))) rfl hv2))
        have HT5 := hide (T4.chg hc5 (kd_ne X3.out.top.kd4 N3.kd1 (by decide)))
        clear N3 hvv hc4' T4 hb4p hb5 hc5 hcC hop N5 hv2 hc4 hb4 ho4 k1 f1 kT fT hlT
        dsimp only
        go_wp2
        go_ret
        unfold EraOut
        rw [if_pos (by rw [HE.out]; exact HIN.out), HE.out, HS.out]
        have hr := X3.out.wf.rise p n HP.out
        have hera : n.ids.take q ++ n.ids.drop (q + 1) = eraF n.ids id := HST.out.era hr HIN.out
        have hll : (n.ids.take q ++ n.ids.drop (q + 1)).length = n.ids.length - 1 := by
          have := HL.out.2.2
          rw [List.length_append, List.length_take, List.length_drop]
          omega
        have X5 := X3.out.setIds (n' := { n with v := .slice ua un uc, ids := n.ids.take q ++ n.ids.drop (q + 1) }) HP.out rfl rfl rfl rfl (by rw [hera]; exact eraF_rise hr) (by show (n.ids.take q ++ n.ids.drop (q + 1)).length ≤ k; have := HIL.out; omega) G5.out HT5.out
        rw [← hera]
        refine ⟨rfl, X5.did (MinX.min (MinX.setIds (dom := dom) HM.out.x HP.out) (updG_same ..) (fun e => ?_)) S5.out⟩
        have e' := congrArg List.length e
        have h1 := HL.out
        simp only [hll, List.length_nil] at e'
        omega
      · have t1 : ¬ (1 : Int) < (L : Int) := by omega
        have hlen1 : n.ids = [id] := by
          have h0 := HIN.out
          have h1 : n.ids.length ≤ 1 := by omega
          match hn : n.ids with
          | [] => rw [hn] at h0; cases h0
          | [y] => rw [hn] at h0; simp at h0; rw [h0]
          | y :: z :: l => rw [hn] at h1; simp at h1
        have N3 := X3.out.gm.node p n HP.out
        obtain ⟨W4, hW4⟩ : ∃ W4, W3.setCell ⟨p, 1, none⟩ (.slice none 0 0) = W4 := ⟨_, rfl⟩
        have hb4 : W4.heap[p]? = some (.cells #[.string n.lab, .slice none 0 0, .map (some n.mp)] tNode (0, 0)) := by rw [← hW4]; exact heap_setCell_same W3 p 1 _ _ _ N3.blk
        have hc4 : Chg (fun y => y = p) W3 W4 := by rw [← hW4]; exact chg_set W3 ⟨p, 1, none⟩ _
        have N4 : NAt W4 p { n with v := .slice none 0 0, ids := [] } := ⟨hb4, OwnG.nil _ _ _ _ _, N3.map.chg hc4 (kd_ne N3.kd3 N3.kd1 (by decide))⟩
        have G4 := X3.out.gm.set1 (n' := { n with v := .slice none 0 0, ids := [] }) hc4 HP.out (fun y _ e => .inl e) N4 rfl (fun b hb => by cases hb)
        have S4 := hide (S3.out.trans (TStep.set (T := T) (n' := { n with v := .slice none 0 0, ids := [] }) HP.out hc4 (fun y _ e => .inl e) rfl (fun b hb => by cases hb)))
        have T4 := X3.out.top.chg hc4 (kd_ne X3.out.top.kd4 N3.kd1 (by decide))
        have X4 := X3.out.setIds (n' := { n with v := .slice none 0 0, ids := [] }) HP.out rfl rfl rfl rfl List.Pairwise.nil (Nat.zero_le _) G4 T4
        have hab : Above (updG g p (some { n with v := .slice none 0 0, ids := [] })) root p ab := by
          rcases HD.out.ab with h1 | ⟨x, nx, b, h1, h2, h3⟩
          · exact .inl h1
          · have hne := (X3.out.wf.kid_ne h2 h3).2
            exact .inr ⟨x, nx, b, h1, by rw [updG_other _ _ hne.symm]; exact h2, h3⟩
        have HTD := hide (tidy_calls T root _ dom _ (len - 1) k p ab _ W4 X4 (MinX.setIds (dom := dom) HM.out.x HP.out) (updG_same ..) rfl hab (by have := hk; omega))
        have HN1 := hide hlen1
        replace hL := hide hL
        clear hL1 hlen1 N3 hb4 hc4 N4 G4 T4 X4 hab
        dsimp only
        go_wp2_with fail
        refine HTD.out.mono ?_
        rintro _ w5 ⟨rfl, ho⟩
        have HO := hide ho
        clear ho HTD
        dsimp only
        go_wp2
        go_ret
        unfold EraOut
        rw [if_pos (by rw [HE.out]; exact HIN.out), HE.out, HS.out]
        obtain ⟨g', dom', h1, h2, h3⟩ := HO.out
        have hera : eraF n.ids id = [] := by rw [HN1.out]; simp [eraF]
        rw [hera]
        exact ⟨rfl, h1.did h2 (S4.out.trans h3)⟩
    · have t1 : decide (id ∈ n.ids) = false := decide_eq_false hin
      rw [t1]
      have HIN := hide hin
      clear hin t1
      dsimp only
      go_wp2
      go_ret
      unfold EraOut
      rw [if_neg (by rw [HE.out]; exact HIN.out)]
      exact ⟨rfl, HU2.out⟩
  · have z1 : ¬ r.toList = [] := fun e => by rw [Lib.toList_data, hr] at e; cases e
    have z2 : r.toList.isEmpty = false := by rw [List.isEmpty_eq_false_iff]; exact z1
    have HE := hide (hF.out.2 (by rw [hr]; simp))
    clear hF hr
    go_wp2
    go_ret
    unfold EraOut
    rw [if_neg (by rw [HE.out]; simp)]
    exact ⟨rfl, HU1.out⟩

end Go.Proofs.Ytmbniakobhaomaa

namespace Go.Proofs.Ytmbniakobhaomaa
open Go.ChangeShapes Go.WideShapes Go.ChangeAt Go.RowKit Go.Maps
set_option linter.unusedVariables false
set_option maxRecDepth 100000
attribute [local go_sem ↓] Go.wp_at_zero Go.wp_at_succ

/-- The best of those shorter than so many. -/
def BestB (E : List UInt8 → List Int) (s : List UInt8) (bound size : Nat) (f : Bool) : Prop :=
  (f = false ∧ size = 0 ∧ ∀ t, t <+: s → t.length < bound → E t = []) ∨ (f = true ∧ size ≤ s.length ∧ E (s.take size) ≠ [] ∧ ∀ t, t <+: s → size < t.length → t.length < bound → E t = [])
theorem gap {g : Gr} {root : Nat} {dom : List Nat} {E : List UInt8 → List Int} (h : WF g root dom) (ht : Tells g E) {s : List UInt8} {q : Nat} {m : ND} {r : List UInt8} {o : Option Nat} (hq : g q = some m) (hs : s = m.str ++ r) (hn : NextIs g m r o) :
    (∀ q' m', o = some q' → g q' = some m' → ∀ t, t <+: s → m.str.length < t.length → t.length < m'.str.length → E t = []) ∧ (o = none → ∀ t, t <+: s → m.str.length < t.length → E t = []) := by
  have key : ∀ t, t <+: s → m.str.length < t.length → E t ≠ [] → ∃ b q' m' tl, m.kid b = some q' ∧ g q' = some m' ∧ m'.str <+: t ∧ m'.lb <+: r ∧ m'.lb = b :: tl := fun t h1 h2 h3 => by
    obtain ⟨x, nx, h4, h5⟩ := ht.here t h3
    have h6 : m.str <+: nx.str := by
      rw [h5]
      rcases prefix_both h1 (show m.str <+: s from ⟨r, hs.symm⟩) with h | h
      · have := h.length_le; omega
      · exact h
    have h7 : q ≠ x := fun e => by
      rw [e, h4] at hq
      cases hq
      rw [h5] at h2
      omega
    obtain ⟨b, q', m', tl, h8, h9, h10, h11, h12⟩ := h.next hq h4 h6 h7
    rw [h5] at h10
    refine ⟨b, q', m', tl, h8, h9, h10, ?_, h12⟩
    have := h10.trans h1
    rw [h11, hs] at this
    exact (List.prefix_append_right_inj _).1 this
  refine ⟨fun q' m' ho hq' t h1 h2 h3 => Classical.byContradiction fun h4 => ?_, fun ho t h1 h2 => Classical.byContradiction fun h4 => ?_⟩
  · obtain ⟨b, q2, m2, tl, h5, h6, h7, h8, h9⟩ := key t h1 h2 h4
    subst ho
    obtain ⟨b3, t3, m3, h10, h11, h12, h13⟩ := hn
    have hb : b = b3 := by
      rw [h9, h10] at h8
      obtain ⟨u, hu⟩ := h8
      simp at hu
      exact hu.1
    rw [hb, h11] at h5
    cases h5
    rw [hq'] at h6
    cases h6
    have := h7.length_le
    omega
  · obtain ⟨b, q2, m2, tl, h5, h6, h7, h8, h9⟩ := key t h1 h2 h4
    subst ho
    obtain ⟨u, hu⟩ := h8
    rw [h9] at hu
    exact hn b (tl ++ u) q2 m2 hu.symm h5 h6 ⟨u, by rw [h9]; exact hu⟩
/-- One node further. -/
theorem BestB.step {g : Gr} {E : List UInt8 → List Int} (ht : Tells g E) {s r : List UInt8} {q : Nat} {m : ND} (hq : g q = some m) (hs : s = m.str ++ r) {size : Nat} {f : Bool} (h : BestB E s m.str.length size f) (bound : Nat) (hb : ∀ t, t <+: s → m.str.length < t.length → t.length < bound → E t = []) :
    (m.ids = [] → BestB E s bound size f) ∧ (m.ids ≠ [] → BestB E s bound m.str.length true) := by
  have hm : ∀ t, t <+: s → t.length = m.str.length → t = m.str := fun t h1 h2 => by
    rcases prefix_both h1 (show m.str <+: s from ⟨r, hs.symm⟩) with h3 | h3
    · exact h3.eq_of_length h2
    · exact (h3.eq_of_length h2.symm).symm
  have hE := ht.node q m hq
  refine ⟨fun hi => ?_, fun hi => .inr ⟨rfl, by rw [hs, List.length_append]; omega, ?_, hb⟩⟩
  · have all : ∀ t, t <+: s → m.str.length ≤ t.length → t.length < bound → E t = [] := fun t h1 h2 h3 => by
      rcases Nat.lt_or_ge m.str.length t.length with h4 | h4
      · exact hb t h1 h4 h3
      · rw [hm t h1 (by omega), ← hE, hi]
    rcases h with ⟨rfl, rfl, h1⟩ | ⟨rfl, h0, h1, h2⟩
    · refine .inl ⟨rfl, rfl, fun t h2 h3 => ?_⟩
      rcases Nat.lt_or_ge t.length m.str.length with h4 | h4
      · exact h1 t h2 h4
      · exact all t h2 h4 h3
    · refine .inr ⟨rfl, h0, h1, fun t h3 h4 h5 => ?_⟩
      rcases Nat.lt_or_ge t.length m.str.length with h6 | h6
      · exact h2 t h3 h4 h6
      · exact all t h3 h6 h5
  · rw [hs, List.take_left, ← hE]
    exact hi

def LongIs (E : List UInt8 → List Int) (s t : List UInt8) (f : Bool) : Prop :=
  (f = true ∧ t <+: s ∧ E t ≠ [] ∧ ∀ u, u <+: s → E u ≠ [] → u.length ≤ t.length) ∨ (f = false ∧ t = [] ∧ ∀ u, u <+: s → E u = [])
theorem BestB.long {E : List UInt8 → List Int} {s : List UInt8} {size : Nat} {f : Bool} (h : BestB E s (s.length + 1) size f) : LongIs E s (s.take size) f := by
  rcases h with ⟨rfl, rfl, h1⟩ | ⟨rfl, h0, h1, h2⟩
  · exact .inr ⟨rfl, rfl, fun u hu => h1 u hu (by have := hu.length_le; omega)⟩
  · refine .inl ⟨rfl, List.take_prefix .., h1, fun u hu h3 => ?_⟩
    rw [List.length_take]
    have h4 := hu.length_le
    rcases Nat.lt_or_ge size u.length with h5 | h5
    · exact absurd (h2 u hu h5 (by omega)) h3
    · omega
def LongOut (w : World) (E : List UInt8 → List Int) (s : List UInt8) (e : Ending) (w' : World) : Prop :=
  ∃ t f, e = .returned (.tuple #[.string t, .bool f]) ∧ LongIs E s t.data.toList f ∧ Up w w'
set_option maxHeartbeats 8000000 in
theorem longest_calls (T : Nat) (O : Nat → Prop) (E : List UInt8 → List Int) (len : Int) (k : Nat) (s : ByteArray) (w : World) (h : TrI w T O E len k) (hs : s.size ≤ 1000000) :
    Calls Try.prog 16 #[.pointer (some ⟨T, 0, none⟩), .string s] w fun e w' => LongOut w E s.data.toList e w' := by
  obtain ⟨root, g, dom, hX, hM, rfl⟩ := h
  obtain ⟨m0, hm0, hs0, hl0⟩ := hX.wf.top
  have c0 := hX.top.c0
  unfold nP at c0
  have HW := hide hX.wf
  have HG := hide hX.gm
  have HT := hide hX.tells
  have HI := hide hX.ids
  have HA := hide (show DownA g root s.data.toList root m0 none s from ⟨hm0, ⟨[], rfl, by rw [hs0, hl0]; rfl⟩, by rw [hl0]; exact List.nil_prefix, .inl ⟨rfl, rfl⟩⟩)
  have HB := hide (show BestB E s.data.toList m0.str.length 0 false from .inl ⟨rfl, rfl, fun t _ h => by rw [hs0] at h; exact absurd h (Nat.not_lt_zero _)⟩)
  have hsl : s.data.toList.length = s.size := Array.length_toList
  have HSL := hide hsl
  clear hX hM hm0 hs0 hl0 hsl
  go_enter Try.func16, Try.ntmps16
  go_wp2_with fail
  go_loopw [6, 7, 8, 9] (fun v6 v7 v8 v9 wr => ∃ (r : ByteArray) (size : Nat) (f : Bool), v6 = .int .i64 size ∧ v7 = .bool f ∧ v8 = .string r ∧ Hid (Up w wr) ∧ ((∃ q m prev, v9 = .pointer (some ⟨q, 0, none⟩) ∧ Hid (DownA g root s.data.toList q m prev r) ∧ Hid (BestB E s.data.toList m.str.length size f)) ∨ (v9 = .pointer none ∧ Hid (BestB E s.data.toList (s.data.toList.length + 1) size f)))) (fun v6 v7 v8 v9 _ => strLen v8 + isRootV root v9)
  case atStart => exact ⟨s, 0, false, rfl, rfl, rfl, hide (Up.refl _), .inl ⟨root, m0, none, rfl, HA, HB⟩⟩
  case round =>
    obtain ⟨r, size, f, rfl, rfl, rfl, hu, ⟨q, m, prev, rfl, hd, hb⟩ | ⟨rfl, hb⟩⟩ := hrel
    · have N := (HG.out.up hu.out).node q m hd.out.at_
      have k0 := N.c0
      have k1 := N.c1
      obtain ⟨va, vc, hv, _⟩ := N.ids.rd
      rw [hv] at k1
      have hsz := hd.out.sz
      have hz0 : (0 : Int) ≤ (m.lab.size : Int) := by omega
      have hz1 : (m.lab.size : Int) ≤ (r.size : Int) := by omega
      have hnx := next_calls g q m (r.extract m.lab.size r.size) wr (HG.out.up hu.out) hd.out.at_ (fun b y hy => by obtain ⟨k, h1, _⟩ := HW.out.kid q m b y hd.out.at_ hy; exact ⟨k, h1⟩)
      have HNX := hide hnx
      have HSZ := hide hsz
      have HV := hide hv
      -- what is left
      obtain ⟨pre, hp1, hp2⟩ := hd.out.eq
      have hrest : s.data.toList = m.str ++ (r.extract m.lab.size r.size).data.toList := by
        obtain ⟨u, hu'⟩ := hd.out.pre
        have e2 : m.lb.length = m.lab.size := Array.length_toList
        rw [rest_list, hp1, hp2, ← hu', ← e2, List.drop_left, List.append_assoc]
      have hzs : (s.size : Int) - ((r.extract m.lab.size r.size).size : Int) = (m.str.length : Int) := by
        have e1 : (r.extract m.lab.size r.size).data.toList.length = (r.extract m.lab.size r.size).size := Array.length_toList
        have e3 := congrArg List.length hrest
        rw [List.length_append, e1, HSL.out] at e3
        omega
      have hml : m.str.length ≤ 1000000 := by
        have e3 := congrArg List.length hrest
        rw [List.length_append, HSL.out] at e3
        omega
      have hwz : wrap64 ((s.size : Int) - ((r.extract m.lab.size r.size).size : Int)) = (m.str.length : Int) := by rw [hzs, wrap64]; omega
      have HRS := hide hrest
      obtain ⟨r2, hr2⟩ : ∃ r2, r.extract m.lab.size r.size = r2 := ⟨_, rfl⟩
      rw [hr2] at hwz HNX HRS
      have HR2 := hide hr2
      obtain ⟨L, hL⟩ : ∃ L, L = m.ids.length := ⟨_, rfl⟩
      rw [← hL] at k1
      clear N hsz hnx hv hp1 hp2 hrest hzs hml
      by_cases hL0 : 0 < L
      · have t1 : (0 : Int) < (L : Int) := by omega
        have hne : m.ids ≠ [] := fun e => by rw [e] at hL; simp at hL; omega
        replace hne := hide hne
        replace hL := hide hL
        clear hL0
        go_wp2_with fail
        refine HNX.out.mono ?_
        rintro _ w2 ⟨o, rfl, hno, hu2⟩
        have hst := hd.out.step HW.out (by rw [← HR2.out]; exact rest_list r m.lab.size) hno
        obtain ⟨gp1, gp2⟩ := gap HW.out HT.out hd.out.at_ HRS.out hno
        clear HNX hno
        replace hu := hide (hu.out.trans hu2)
        clear hu2
        cases o with
        | some q' =>
          obtain ⟨hs', m', hd', hqr⟩ := hst
          have hbb := hide ((BestB.step HT.out hd.out.at_ HRS.out hb.out m'.str.length (gp1 q' m' rfl hd'.at_)).2 hne.out)
          replace hd' := hide hd'
          have H := hide hqr
          clear hs' hqr gp1 gp2
          rw [oP_some]
          dsimp only
          go_wp2
          go_roundw
          case rel => exact ⟨_, m.str.length, _, by rw [hwz], rfl, rfl, hu, .inl ⟨q', m', some q, rfl, hd', hbb⟩⟩
          case measure =>
            have hz := HSZ.out
            have e1 : isRootV root (.pointer (some ⟨q', 0, none⟩)) = 0 := by simp [isRootV, H.out]
            have hp := hd.out.pos HW.out
            show strLen (.string r2) + isRootV root (.pointer (some ⟨q', 0, none⟩)) < strLen (.string r) + isRootV root (.pointer (some ⟨q, 0, none⟩))
            rw [e1, ← HR2.out]
            simp only [strLen, rest_size]
            omega
        | none =>
          have hbb := hide ((BestB.step HT.out hd.out.at_ HRS.out hb.out (s.data.toList.length + 1) (fun t h1 h2 _ => gp2 rfl t h1 h2)).2 hne.out)
          clear hst gp1 gp2
          dsimp only [oP]
          go_wp2
          go_roundw
          case rel => exact ⟨_, m.str.length, _, by rw [hwz], rfl, rfl, hu, .inr ⟨rfl, hbb⟩⟩
          case measure =>
            have hz := HSZ.out
            have hp := hd.out.pos HW.out
            have e1 : isRootV root (.pointer none) = 0 := rfl
            show strLen (.string r2) + isRootV root (.pointer none) < strLen (.string r) + isRootV root (.pointer (some ⟨q, 0, none⟩))
            rw [e1, ← HR2.out]
            simp only [strLen, rest_size]
            omega
      · have hne : m.ids = [] := List.length_eq_zero_iff.1 (by omega)
        obtain rfl : L = 0 := by omega
        replace hne := hide hne
        replace hL := hide hL
        replace k1 : wr.cell? ⟨q, 1, none⟩ = some (.slice va 0 vc) := k1
        clear hL0
        go_wp2_with fail
        refine HNX.out.mono ?_
        rintro _ w2 ⟨o, rfl, hno, hu2⟩
        have hst := hd.out.step HW.out (by rw [← HR2.out]; exact rest_list r m.lab.size) hno
        obtain ⟨gp1, gp2⟩ := gap HW.out HT.out hd.out.at_ HRS.out hno
        clear HNX hno
        replace hu := hide (hu.out.trans hu2)
        clear hu2
        cases o with
        | some q' =>
          obtain ⟨hs', m', hd', hqr⟩ := hst
          have hbb := hide ((BestB.step HT.out hd.out.at_ HRS.out hb.out m'.str.length (gp1 q' m' rfl hd'.at_)).1 hne.out)
          replace hd' := hide hd'
          have H := hide hqr
          clear hs' hqr gp1 gp2
          rw [oP_some]
          dsimp only
          go_wp2
          go_roundw
          case rel => exact ⟨_, size, _, rfl, rfl, rfl, hu, .inl ⟨q', m', some q, rfl, hd', hbb⟩⟩
          case measure =>
            have hz := HSZ.out
            have e1 : isRootV root (.pointer (some ⟨q', 0, none⟩)) = 0 := by simp [isRootV, H.out]
            have hp := hd.out.pos HW.out
            show strLen (.string r2) + isRootV root (.pointer (some ⟨q', 0, none⟩)) < strLen (.string r) + isRootV root (.pointer (some ⟨q, 0, none⟩))
            rw [e1, ← HR2.out]
            simp only [strLen, rest_size]
            omega
        | none =>
          have hbb := hide ((BestB.step HT.out hd.out.at_ HRS.out hb.out (s.data.toList.length + 1) (fun t h1 h2 _ => gp2 rfl t h1 h2)).1 hne.out)
          clear hst gp1 gp2
          dsimp only [oP]
          go_wp2
          go_roundw
          case rel => exact ⟨_, size, _, rfl, rfl, rfl, hu, .inr ⟨rfl, hbb⟩⟩
          case measure =>
            have hz := HSZ.out
            have hp := hd.out.pos HW.out
            have e1 : isRootV root (.pointer none) = 0 := rfl
            show strLen (.string r2) + isRootV root (.pointer none) < strLen (.string r) + isRootV root (.pointer (some ⟨q, 0, none⟩))
            rw [e1, ← HR2.out]
            simp only [strLen, rest_size]
            omega
    · have hsz : size ≤ s.size := by
        rcases hb.out with ⟨_, rfl, _⟩ | ⟨_, h1, _⟩
        · exact Nat.zero_le _
        · rw [HSL.out] at h1; exact h1
      have hz0 : (0 : Int) ≤ (size : Int) := by omega
      have hz1 : (size : Int) ≤ (s.size : Int) := by omega
      clear hsz
      go_wp2_with fail
      refine (clone_calls (s.extract 0 size) wr (by rw [ByteArray.size_extract]; omega)).mono ?_
      rintro _ w2 ⟨rfl, hu2⟩
      replace hu2 := hide hu2
      dsimp only
      go_wp2
      go_ret2
      refine ⟨_, f, rfl, ?_, hu.out.trans hu2.out⟩
      rw [show (s.extract 0 size).data.toList = s.data.toList.take size from topS_list s size]
      exact hb.out.long

end Go.Proofs.Ytmbniakobhaomaa
