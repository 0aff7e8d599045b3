/-
  The landed package trie: Erase, as its text runs.
-/
import Derived.Test.YtmbniakobhaomaaTeWkg
namespace Go.Proofs.Ytmbniakobhaomaa
open Go.ChangeShapes Go.WideShapes Go.ChangeAt Go.RowKit Go.Maps
set_option linter.unusedVariables false
set_option maxRecDepth 100000
attribute [local go_sem ↓] Go.wp_at_zero Go.wp_at_succ

/-- The numbers of one node are others. -/
theorem TrX.setIds {w w2 : World} {T root : Nat} {g : Gr} {dom : List Nat} {E : List UInt8 → List Int} {len len' : Int} {k : Nat} (h : TrX w T root g dom E len k) {p : Nat} {n n' : ND} (hp : g p = some n) (hl : n'.lab = n.lab) (hs : n'.str = n.str) (hk : n'.kid = n.kid) (hks : n'.ks = n.ks) (hr : Rise n'.ids) (hi : n'.ids.length ≤ k) (hg : GMem w2 (updG g p (some n'))) (ht : TopAt w2 T (nP root) dom.length len') :
    TrX w2 T root (updG g p (some n')) dom (updE E n.str n'.ids) len' k := by
  have inv : ∀ x r, updG g p (some n') x = some r → (x = p ∧ r = n') ∨ (x ≠ p ∧ g x = some r) := fun x r hx => by
    unfold updG at hx
    split at hx
    · cases hx; exact .inl ⟨‹_›, rfl⟩
    · exact .inr ⟨‹_›, hx⟩
  refine ⟨h.wf.setIds hp hl hs hk hks hr, h.tells.setIds h.wf hp hs, hg, ht, h.few, fun x r hx => ?_, fun x r hx => ?_, fun x r hx => ?_⟩
  · rcases inv x r hx with ⟨_, rfl⟩ | ⟨_, h1⟩
    · exact hi
    · exact h.ids x r h1
  · rcases inv x r hx with ⟨_, rfl⟩ | ⟨_, h1⟩
    · rw [hs]; exact h.str p n hp
    · exact h.str x r h1
  · rcases inv x r hx with ⟨_, rfl⟩ | ⟨_, h1⟩
    · rw [hs, hl]; exact h.lab p n hp
    · exact h.lab x r h1

def EraOut (w : World) (T : Nat) (O : Nat → Prop) (E : List UInt8 → List Int) (len : Int) (k : Nat) (s : List UInt8) (id : Int) (e : Ending) (w' : World) : Prop :=
  if id ∈ E s then e = .returned (.int .i64 0) ∧ TrDid w w' T O (updE E s (eraF (E s) id)) (len - 1) k
  else e = .returned (.int .i64 71) ∧ Up w w'
set_option maxHeartbeats 8000000 in
theorem erase_calls (T : Nat) (O : Nat → Prop) (E : List UInt8 → List Int) (len : Int) (k : Nat) (s : ByteArray) (id : Int) (w : World) (h : TrI w T O E len k) (hk : k ≤ 900) (hl : 0 ≤ len ∧ len ≤ 1000000) :
    Calls Try.prog 14 #[.pointer (some ⟨T, 0, none⟩), .string s, .int .i64 id] w fun e w' => EraOut w T O E len k s.data.toList id e w' := by
  obtain ⟨root, g, dom, hX, hM, rfl⟩ := h
  have HDP := hide (deepest_calls T root dom.length len g dom s w hX.wf hX.gm hX.top)
  have H := hide hX
  have HM := hide hM
  have hw1 : wrap64 (len - 1) = len - 1 := by rw [wrap64]; omega
  clear hX hM
  go_enter Try.func14, Try.ntmps14
  go_wp2_with fail
  refine HDP.out.mono ?_
  rintro _ w1 ⟨p, n, ab, r, rfl, hd, hu1⟩
  have hF := hide (H.out.found hd.deep)
  have X1 := hide (H.out.up hu1)
  have HD := hide hd
  have HU1 := hide hu1
  clear HDP H hd hu1
  dsimp only
  rcases hr : r.data.toList with _ | ⟨b, t⟩
  · rw [hr] at hF
    have hstr : s.data.toList = n.str := by have := HD.out.deep.eq; rw [hr, List.append_nil] at this; exact this
    have hEn : E s.data.toList = n.ids := hF.out.1 rfl
    obtain rfl := bytes_nil hr
    have hp := HD.out.deep.at_
    have N := X1.out.gm.node p n hp
    have k1 := N.c1
    have f1 := N.fz 1
    obtain ⟨va, vc, hv, _⟩ := N.ids.rd
    have HIL := hide (X1.out.ids p n hp)
    have HBS := hide (search_calls n.v n.ids id w1 (N.ids.rd) (by have := HIL.out; omega) (X1.out.wf.rise p n hp))
    have HV := hide hv
    have HP := hide hp
    have HS := hide hstr
    have HE := hide hEn
    clear N hp hr hF hstr hEn hv
    go_wp2_with fail
    refine HBS.out.mono ?_
    rintro _ w2 ⟨q, hst, rfl, hu2⟩
    clear HBS
    have HST := hide hst
    have X2 := hide (X1.out.up hu2)
    have HU2 := hide (HU1.out.trans hu2)
    clear hst hu2 k1 f1
    by_cases hin : id ∈ n.ids
    · have t1 : decide (id ∈ n.ids) = true := decide_eq_true hin
      rw [t1]
      have HIN := hide hin
      clear hin t1
      -- the trie's own block
      have T2 := X2.out.top
      have kT := T2.c2
      have fT := T2.fz 2
      have hlT := T2.lt
      obtain ⟨W3, hW3⟩ : ∃ W3, w2.setCell ⟨T, 2, none⟩ (.int .i64 (len - 1)) = W3 := ⟨_, rfl⟩
      have hc3 : Chg (fun y => y = T) w2 W3 := by rw [← hW3]; exact chg_set w2 ⟨T, 2, none⟩ _
      have T3 : TopAt W3 T (nP root) dom.length (len - 1) := by rw [← hW3]; exact T2.set2 _
      have G3 := X2.out.gm.chg hc3 (X2.out.gm.top T2)
      have X3 := hide (⟨X2.out.wf, X2.out.tells, G3, T3, X2.out.few, X2.out.ids, X2.out.str, X2.out.lab⟩ : TrX W3 T root g dom E (len - 1) k)
      have S3 := hide ((TStep.up (T := T) (g := g) HU2.out).trans (TStep.top hc3))
      have N3 := G3.node p n HP.out
      have k1 := N3.c1
      have f1 := N3.fz 1
      rw [HV.out] at k1
      have hlp := N3.lt
      clear T2 hc3 T3 G3 N3
      obtain ⟨L, hL⟩ : ∃ L, L = n.ids.length := ⟨_, rfl⟩
      rw [← hL] at k1
      by_cases hL1 : 1 < L
      · have t1 : (1 : Int) < (L : Int) := by omega
        have hql : q < n.ids.length := (HST.out.mem (X3.out.wf.rise p n HP.out)).1 HIN.out |>.1
        have hqw : wrap64 ((q : Int) + 1) = (q : Int) + 1 := by rw [wrap64]; have := HIL.out; omega
        have HDL := hide (delJ_calls n.v n.ids q W3 (X3.out.gm.node p n HP.out).ids (by have := HIL.out; omega) hql)
        rw [HV.out, ← hL] at HDL
        have HL := hide (⟨hL, hL1, hql⟩ : _ ∧ _ ∧ _)
        clear hL hL1 hql
        dsimp only
        go_wp2_with fail
        refine HDL.out.mono ?_
        rintro _ w4 ⟨v', rfl, ho4, hc4, hb4⟩
        clear HDL
        obtain ⟨ua, un, uc, rfl⟩ : ∃ va vn vc, v' = .slice va vn vc := by obtain ⟨a, c, h, _⟩ := ho4.rd; exact ⟨a, _, c, h⟩
        have N3 := X3.out.gm.node p n HP.out
        have hvv : (Value.slice va L vc).ownBlock = n.v.ownBlock := by rw [HV.out, HL.out.1]
        have hc4' : Chg (fun y => n.v.ownBlock = some y) W3 w4 := by rw [← hvv]; exact hc4
        have T4 := X3.out.top.chg hc4' (fun e => kd_ne X3.out.top.kd4 (N3.kd2 e) (by decide) rfl)
        have hb4p : w4.heap[p]? = _ := (hc4'.2 p N3.lt (fun e => kd_ne N3.kd1 (N3.kd2 e) (by decide) rfl)).trans N3.blk
        obtain ⟨W5, hW5⟩ : ∃ W5, w4.setCell ⟨p, 1, none⟩ (.slice ua un uc) = W5 := ⟨_, rfl⟩
        have hb5 : W5.heap[p]? = some (.cells #[.string n.lab, .slice ua un uc, .map (some n.mp)] tNode (0, 0)) := by rw [← hW5]; exact heap_setCell_same w4 p 1 _ _ _ hb4p
        have hc5 : Chg (fun y => y = p) w4 W5 := by rw [← hW5]; exact chg_set w4 ⟨p, 1, none⟩ _
        have k2 : w4.cell? ⟨p, 1, none⟩ = some n.v := by simp [World.cell?, hb4p]
        have f2 : w4.frozen? ⟨p, 1, none⟩ = false := by simp [World.frozen?, hb4p]
        have hcC : Chg (fun y => y = p ∨ n.v.ownBlock = some y) W3 W5 := (hc4'.mono (fun y _ h => Or.inr h)).trans hc5 (fun y _ h => .inl h)
        have hop : ∀ b, (Value.slice ua un uc).ownBlock = some b → ¬ b = p := fun b hb => kd_ne (own_kd ho4 hb) (by unfold kd; rw [hb4p]; rfl : kd w4 p = 1) (by decide)
        have N5 : NAt W5 p { n with v := .slice ua un uc, ids := n.ids.take q ++ n.ids.drop (q + 1) } := ⟨hb5, OwnG.chgT ho4 hc5 hop, N3.map.chg hcC (fun e => e.elim (fun e => kd_ne N3.kd3 N3.kd1 (by decide) e) (fun e => kd_ne N3.kd3 (N3.kd2 e) (by decide) rfl))⟩
        have hv2 : ∀ b, (Value.slice ua un uc).ownBlock = some b → n.v.ownBlock = some b ∨ W3.heap.size ≤ b := fun b hb => .inl (by rw [hb4, hvv] at hb; exact hb)
        have G5 := hide (X3.out.gm.set1 hcC HP.out (fun y _ e => e.elim .inl (fun e => .inr (.inl e))) N5 rfl hv2)
        have S5 := hide (S3.out.trans (TStep.set (T := T) (n' := { n with v := .slice ua un uc, ids := n.ids.take q ++ n.ids.drop (q + 1) }) HP.out hcC (fun y _ e => e.elim .inl (fun e => .inr (.inl e))) rfl hv2))
        have HT5 := hide (T4.chg hc5 (kd_ne X3.out.top.kd4 N3.kd1 (by decide)))
        clear N3 hvv hc4' T4 hb4p hb5 hc5 hcC hop N5 hv2 hc4 hb4 ho4 k1 f1 kT fT hlT
        dsimp only
        go_wp2
        go_ret
        unfold EraOut
        rw [if_pos (by rw [HE.out]; exact HIN.out), HE.out, HS.out]
        have hr := X3.out.wf.rise p n HP.out
        have hera : n.ids.take q ++ n.ids.drop (q + 1) = eraF n.ids id := HST.out.era hr HIN.out
        have hll : (n.ids.take q ++ n.ids.drop (q + 1)).length = n.ids.length - 1 := by
          have := HL.out.2.2
          rw [List.length_append, List.length_take, List.length_drop]
          omega
        have X5 := X3.out.setIds (n' := { n with v := .slice ua un uc, ids := n.ids.take q ++ n.ids.drop (q + 1) }) HP.out rfl rfl rfl rfl (by rw [hera]; exact eraF_rise hr) (by show (n.ids.take q ++ n.ids.drop (q + 1)).length ≤ k; have := HIL.out; omega) G5.out HT5.out
        rw [← hera]
        refine ⟨rfl, X5.did (MinX.min (MinX.setIds (dom := dom) HM.out.x HP.out) (updG_same ..) (fun e => ?_)) S5.out⟩
        have e' := congrArg List.length e
        have h1 := HL.out
        simp only [hll, List.length_nil] at e'
        omega
      · have t1 : ¬ (1 : Int) < (L : Int) := by omega
        have hlen1 : n.ids = [id] := by
          have h0 := HIN.out
          have h1 : n.ids.length ≤ 1 := by omega
          match hn : n.ids with
          | [] => rw [hn] at h0; cases h0
          | [y] => rw [hn] at h0; simp at h0; rw [h0]
          | y :: z :: l => rw [hn] at h1; simp at h1
        have N3 := X3.out.gm.node p n HP.out
        obtain ⟨W4, hW4⟩ : ∃ W4, W3.setCell ⟨p, 1, none⟩ (.slice none 0 0) = W4 := ⟨_, rfl⟩
        have hb4 : W4.heap[p]? = some (.cells #[.string n.lab, .slice none 0 0, .map (some n.mp)] tNode (0, 0)) := by rw [← hW4]; exact heap_setCell_same W3 p 1 _ _ _ N3.blk
        have hc4 : Chg (fun y => y = p) W3 W4 := by rw [← hW4]; exact chg_set W3 ⟨p, 1, none⟩ _
        have N4 : NAt W4 p { n with v := .slice none 0 0, ids := [] } := ⟨hb4, OwnG.nil _ _ _ _ _, N3.map.chg hc4 (kd_ne N3.kd3 N3.kd1 (by decide))⟩
        have G4 := X3.out.gm.set1 (n' := { n with v := .slice none 0 0, ids := [] }) hc4 HP.out (fun y _ e => .inl e) N4 rfl (fun b hb => by cases hb)
        have S4 := hide (S3.out.trans (TStep.set (T := T) (n' := { n with v := .slice none 0 0, ids := [] }) HP.out hc4 (fun y _ e => .inl e) rfl (fun b hb => by cases hb)))
        have T4 := X3.out.top.chg hc4 (kd_ne X3.out.top.kd4 N3.kd1 (by decide))
        have X4 := X3.out.setIds (n' := { n with v := .slice none 0 0, ids := [] }) HP.out rfl rfl rfl rfl List.Pairwise.nil (Nat.zero_le _) G4 T4
        have hab : Above (updG g p (some { n with v := .slice none 0 0, ids := [] })) root p ab := by
          rcases HD.out.ab with h1 | ⟨x, nx, b, h1, h2, h3⟩
          · exact .inl h1
          · have hne := (X3.out.wf.kid_ne h2 h3).2
            exact .inr ⟨x, nx, b, h1, by rw [updG_other _ _ hne.symm]; exact h2, h3⟩
        have HTD := hide (tidy_calls T root _ dom _ (len - 1) k p ab _ W4 X4 (MinX.setIds (dom := dom) HM.out.x HP.out) (updG_same ..) rfl hab (by have := hk; omega))
        have HN1 := hide hlen1
        replace hL := hide hL
        clear hL1 hlen1 N3 hb4 hc4 N4 G4 T4 X4 hab
        dsimp only
        go_wp2_with fail
        refine HTD.out.mono ?_
        rintro _ w5 ⟨rfl, ho⟩
        have HO := hide ho
        clear ho HTD
        dsimp only
        go_wp2
        go_ret
        unfold EraOut
        rw [if_pos (by rw [HE.out]; exact HIN.out), HE.out, HS.out]
        obtain ⟨g', dom', h1, h2, h3⟩ := HO.out
        have hera : eraF n.ids id = [] := by rw [HN1.out]; simp [eraF]
        rw [hera]
        exact ⟨rfl, h1.did h2 (S4.out.trans h3)⟩
    · have t1 : decide (id ∈ n.ids) = false := decide_eq_false hin
      rw [t1]
      have HIN := hide hin
      clear hin t1
      dsimp only
      go_wp2
      go_ret
      unfold EraOut
      rw [if_neg (by rw [HE.out]; exact HIN.out)]
      exact ⟨rfl, HU2.out⟩
  · have z1 : ¬ r.toList = [] := fun e => by rw [Lib.toList_data, hr] at e; cases e
    have z2 : r.toList.isEmpty = false := by rw [List.isEmpty_eq_false_iff]; exact z1
    have HE := hide (hF.out.2 (by rw [hr]; simp))
    clear hF hr
    go_wp2
    go_ret
    unfold EraOut
    rw [if_neg (by rw [HE.out]; simp)]
    exact ⟨rfl, HU1.out⟩

end Go.Proofs.Ytmbniakobhaomaa
