/-
  The landed package trie: tidy, Erase, as their text runs.
-/
import Derived.Test.YtmbniakobhaomaaTeWkf
namespace Go.Proofs.Ytmbniakobhaomaa
open Go.ChangeShapes Go.WideShapes Go.ChangeAt Go.RowKit Go.Maps
set_option linter.unusedVariables false
set_option maxRecDepth 100000
attribute [local go_sem ↓] Go.wp_at_zero Go.wp_at_succ

def TidOut (w : World) (T root : Nat) (g : Gr) (E : List UInt8 → List Int) (len : Int) (k : Nat) (w' : World) : Prop :=
  ∃ g' dom', TrX w' T root g' dom' E len k ∧ Min0 g' root ∧ TStep T g g' w w'
/-- Two nodes were made one. -/
theorem TrX.join {w w2 : World} {T root : Nat} {g : Gr} {dom : List Nat} {E : List UInt8 → List Int} {len : Int} {k : Nat} (h : TrX w T root g dom E len k) {p c : Nat} {n m N : ND} {b : UInt8} (S : JoiAt g p c n m N b) (hpr : p ≠ root) (hg : GMem w2 (joiG g p c N)) (ht : TopAt w2 T (nP root) ((dom.length : Int) - 1) len) : TrX w2 T root (joiG g p c N) (dom.erase c) E len k := by
  obtain ⟨hcr, hcp⟩ := h.wf.kid_ne S.hp S.hk
  obtain ⟨Gc, Gp, Go⟩ := joi_gets (g := g) (N := N) hcp
  have hcd : c ∈ dom := (h.wf.mem c).2 (by rw [S.hc]; rfl)
  have e6 : (dom.erase c).length = dom.length - 1 := List.length_erase_of_mem hcd
  have e7 : 0 < dom.length := List.length_pos_of_mem hcd
  have inv : ∀ x r, joiG g p c N x = some r → (x = p ∧ r = N) ∨ g x = some r := fun x r hx => by
    have hxc : x ≠ c := fun e => by rw [e, Gc] at hx; cases hx
    by_cases e : x = p
    · rw [e, Gp] at hx; cases hx; exact .inl ⟨e, rfl⟩
    · rw [Go x hxc e] at hx; exact .inr hx
  refine ⟨h.wf.join S hpr, h.tells.join h.wf S, hg, ?_, by have := h.few; omega, fun x r hx => ?_, fun x r hx => ?_, fun x r hx => ?_⟩
  · rw [e6, show ((dom.length - 1 : Nat) : Int) = (dom.length : Int) - 1 by omega]; exact ht
  · rcases inv x r hx with ⟨_, rfl⟩ | h1
    · rw [S.n5]; exact h.ids c m S.hc
    · exact h.ids x r h1
  · rcases inv x r hx with ⟨_, rfl⟩ | h1
    · rw [S.n1]; exact h.str c m S.hc
    · exact h.str x r h1
  · rcases inv x r hx with ⟨_, rfl⟩ | h1
    · have e4 : r.lb.length = r.lab.size := Array.length_toList
      have e5 : n.lb.length = n.lab.size := Array.length_toList
      rw [S.n2, List.length_append] at e4
      rw [S.n1, (h.wf.lab S.hp S.hk S.hc).1, List.length_append]
      have := h.lab p n S.hp
      omega
    · exact h.lab x r h1
/-- Whatever is to be made one. -/
theorem join_any (T root : Nat) (g : Gr) (dom : List Nat) (E : List UInt8 → List Int) (len : Int) (k p : Nat) (n : ND) (w : World) (h : TrX w T root g dom E len k) (hm : MinX g root p) (hp : g p = some n) (hc : p = root ∨ n.ids ≠ [] ∨ 1 ≤ n.ks.length) (hk : k ≤ 10000) :
    Calls Try.prog 43 #[.pointer (some ⟨T, 0, none⟩), .pointer (some ⟨p, 0, none⟩)] w fun e w' => e = .returned (.tuple #[]) ∧ TidOut w T root g E len k w' := by
  have hds := h.few
  have hkl := h.wf.ksle hp
  by_cases hno : p = root ∨ n.ids ≠ [] ∨ 1 < n.ks.length
  · refine (join_not T root dom.length len g dom p n w h.wf h.gm h.top hp hno (by omega) (by have := h.ids p n hp; omega)).mono ?_
    rintro e w' ⟨rfl, hu⟩
    refine ⟨rfl, g, dom, h.up hu, fun x r h1 h2 => ?_, TStep.up hu⟩
    by_cases e : x = p
    · rw [e, hp] at h1
      cases h1
      rcases hno with h3 | h3 | h3
      · exact absurd (e.trans h3) h2
      · exact .inl h3
      · exact .inr h3
    · exact hm x r h1 h2 e
  · have hpr : p ≠ root := fun e => hno (.inl e)
    have hi : n.ids = [] := Classical.byContradiction fun e => hno (.inr (.inl e))
    have hk1 : n.ks.length = 1 := by
      have h1 : ¬ 1 < n.ks.length := fun e => hno (.inr (.inr e))
      rcases hc with h2 | h2 | h2
      · exact absurd h2 hpr
      · exact absurd hi h2
      · omega
    obtain ⟨b, hks⟩ := List.length_eq_one_iff.1 hk1
    obtain ⟨c, hkc⟩ := Option.isSome_iff_exists.1 (((h.wf.ks p n hp).2 b).1 (by rw [hks]; simp))
    obtain ⟨m, hcm, _⟩ := h.wf.kid p n b c hp hkc
    obtain ⟨hcr, hcp⟩ := h.wf.kid_ne hp hkc
    have S : JoiAt g p c n m (joiN n m) b := ⟨hp, hkc, hcm, hks, hi, rfl, by show (n.lab ++ m.lab).data.toList = _; rw [ByteArray.data_append, Array.toList_append]; rfl, rfl, rfl, rfl⟩
    refine (join_one T root dom.length len g dom p c n m b w h.wf h.gm h.top (by omega) hp hpr hi hks hkc hcm ?_).mono ?_
    · have h1 := h.lab p n hp
      have h2 := h.str p n hp
      have h3 := h.lab c m hcm
      have h4 := h.str c m hcm
      omega
    · rintro e w' ⟨rfl, h1, h2, h3⟩
      exact ⟨rfl, _, _, h.join S hpr h1 h3, MinX.join hm S hcp hcr, h2⟩

/-- A leaf has gone, in memory. -/
theorem drop_mem {w1 w2 : World} {T : Nat} {r : Value} {a l : Int} {g : Gr} {p c : Nat} {n m : ND} {b : UInt8} (hg : GMem w1 g) (ht : TopAt w1 T r a l) (hp : g p = some n) (hc : g c = some m) (hcp : c ≠ p) (hbn : b ∈ n.ks)
    (hm2 : MapB w2 n.mp (updK n.kid b none) (n.ks.length - 1)) (hc2 : Chg (fun y => y = n.mp) w1 w2) : GMem w2 (drpG g p c n b) ∧ TStep T g (drpG g p c n b) w1 w2 ∧ TopAt w2 T r a l := by
  have NP := hg.node p n hp
  have NP2 : NAt w2 p (drpP n b) := ⟨(hc2.2 p NP.lt (kd_ne NP.kd1 NP.kd3 (by decide))).trans NP.blk, OwnG.chgT NP.ids hc2 (fun x hx => kd_ne (NP.kd2 hx) NP.kd3 (by decide)), by
    have e4 : (drpP n b).ks.length = n.ks.length - 1 := List.length_erase_of_mem hbn
    rw [e4]; exact hm2⟩
  have g3 := (hg.set1 hc2 hp (fun y _ e => .inr (.inr e)) NP2 rfl (fun b h => .inl h)).del c
  have s3 := TStep.set (T := T) (n' := drpP n b) hp hc2 (fun y _ e => .inr (.inr e)) rfl (fun b h => .inl h)
  refine ⟨g3, ⟨s3.chg, fun y hy => s3.new y ?_⟩, ht.chg hc2 (fun e => kd_ne ht.kd4 NP.kd3 (by decide) e)⟩
  rcases hy with rfl | ⟨x, k, hx, h⟩
  · exact .inl rfl
  · refine .inr ⟨x, k, ?_, h⟩
    unfold drpG at hx
    unfold updG at hx
    split at hx
    · cases hx
    · exact hx
theorem TrX.drop {w w2 : World} {T root : Nat} {g : Gr} {dom : List Nat} {E : List UInt8 → List Int} {len : Int} {k : Nat} (h : TrX w T root g dom E len k) {p c : Nat} {n m : ND} {b : UInt8} (hp : g p = some n) (hk : n.kid b = some c) (hc : g c = some m) (hm : m.ks = []) (hi : m.ids = []) (hg : GMem w2 (drpG g p c n b)) (ht : TopAt w2 T (nP root) ((dom.length : Int) - 1) len) : TrX w2 T root (drpG g p c n b) (dom.erase c) E len k := by
  obtain ⟨hcr, hcp⟩ := h.wf.kid_ne hp hk
  obtain ⟨Gc, Gp, Go⟩ := drp_gets (g := g) (n := n) (b := b) hcp
  have hcd : c ∈ dom := (h.wf.mem c).2 (by rw [hc]; rfl)
  have e6 : (dom.erase c).length = dom.length - 1 := List.length_erase_of_mem hcd
  have e7 : 0 < dom.length := List.length_pos_of_mem hcd
  have inv : ∀ x r, drpG g p c n b x = some r → ∃ r0, g x = some r0 ∧ r.str = r0.str ∧ r.ids = r0.ids ∧ r.lab = r0.lab := fun x r hx => by
    have hxc : x ≠ c := fun e => by rw [e, Gc] at hx; cases hx
    by_cases e : x = p
    · rw [e, Gp] at hx; cases hx; exact ⟨n, by rw [e]; exact hp, rfl, rfl, rfl⟩
    · rw [Go x hxc e] at hx; exact ⟨r, hx, rfl, rfl, rfl⟩
  refine ⟨h.wf.drop hp hk hc hm, h.tells.drop h.wf hp hk hc hi, hg, ?_, by have := h.few; omega, fun x r hx => ?_, fun x r hx => ?_, fun x r hx => ?_⟩
  · rw [e6, show ((dom.length - 1 : Nat) : Int) = (dom.length : Int) - 1 by omega]; exact ht
  · obtain ⟨r0, h1, _, h3, _⟩ := inv x r hx; rw [h3]; exact h.ids x r0 h1
  · obtain ⟨r0, h1, h2, _⟩ := inv x r hx; rw [h2]; exact h.str x r0 h1
  · obtain ⟨r0, h1, h2, _, h4⟩ := inv x r hx; rw [h2, h4]; exact h.lab x r0 h1

set_option maxHeartbeats 8000000 in
theorem tidy_calls (T root : Nat) (g : Gr) (dom : List Nat) (E : List UInt8 → List Int) (len : Int) (k p : Nat) (ab : Option Nat) (n : ND) (w : World) (h : TrX w T root g dom E len k) (hm : MinX g root p) (hp : g p = some n) (hi : n.ids = []) (ha : Above g root p ab) (hk : k ≤ 10000) :
    Calls Try.prog 29 #[.pointer (some ⟨T, 0, none⟩), .pointer (some ⟨p, 0, none⟩), oP ab] w fun e w' => e = .returned (.tuple #[]) ∧ TidOut w T root g E len k w' := by
  obtain ⟨r, hr, _⟩ := h.wf.top
  have hpq := eql_nodes h.gm hp hr
  have N := h.gm.node p n hp
  have c0 := h.top.c0
  unfold nP at c0
  have c2 := N.c2
  have hlen := fun ty => (N.map).len ty
  by_cases hj : 1 ≤ n.ks.length ∨ p = root
  · have HJ := hide (join_any T root g dom E len k p n w h hm hp (hj.elim (fun h => .inr (.inr h)) .inl) hk)
    clear N h hm hi ha hr
    obtain ⟨L, hL⟩ : ∃ L, L = n.ks.length := ⟨_, rfl⟩
    rw [← hL] at hlen hj
    replace hL := hide hL
    by_cases h1 : 1 ≤ L
    · have t1 : (0 : Int) < (L : Int) := by omega
      clear hj h1
      go_enter Try.func29, Try.ntmps29
      go_wp2_with fail
      refine HJ.out.mono ?_
      rintro _ w1 ⟨rfl, ho⟩
      have HO := hide ho
      clear ho HJ
      dsimp only
      go_wp2
      first | go_end0 | refine bodyPost_ret (results_none rfl _ _ _) rfl ?_
      exact ⟨rfl, HO.out⟩
    · have h2 : p = root := hj.resolve_left h1
      rw [decide_eq_true h2] at hpq
      obtain rfl : L = 0 := by omega
      replace hlen : ∀ ty, (Builtin.len_ #[60] ty #[.map (some n.mp)]).run Try.prog w = .ok (.int .i64 0) w := hlen
      clear hj h1 h2
      go_enter Try.func29, Try.ntmps29
      go_wp2_with fail
      refine HJ.out.mono ?_
      rintro _ w1 ⟨rfl, ho⟩
      have HO := hide ho
      clear ho HJ
      dsimp only
      go_wp2
      first | go_end0 | refine bodyPost_ret (results_none rfl _ _ _) rfl ?_
      exact ⟨rfl, HO.out⟩
  · have hpr : p ≠ root := fun e => hj (.inr e)
    have hk0 : n.ks.length = 0 := by
      have : ¬ 1 ≤ n.ks.length := fun e => hj (.inl e)
      omega
    have hks : n.ks = [] := List.length_eq_zero_iff.1 hk0
    rw [decide_eq_false hpr] at hpq
    rw [hk0] at hlen
    replace hlen : ∀ ty, (Builtin.len_ #[60] ty #[.map (some n.mp)]).run Try.prog w = .ok (.int .i64 0) w := hlen
    obtain ⟨x, nx, b, rfl, hx, hkx⟩ : ∃ x nx b, ab = some x ∧ g x = some nx ∧ nx.kid b = some p := by
      rcases ha with ⟨e, _⟩ | h1
      · exact absurd e hpr
      · exact h1
    obtain ⟨hstr, ⟨t, htl⟩, _⟩ := h.wf.lab hx hkx hp
    obtain ⟨hz, hb⟩ := bytes_head (s := n.lab) (show n.lab.data.toList = b :: t from htl)
    have NX := h.gm.node x nx hx
    have x2 := NX.c2
    have k0 := N.c0
    have hpx := (h.wf.kid_ne hx hkx).2
    obtain ⟨w1, hrun, hm1, hc1, _⟩ := MapB.drop (NX.map.up (Up.refl w).drew) b (by rw [hkx]; rfl) 0
    have hbn : b ∈ nx.ks := by rw [(h.wf.ks x nx hx).2, hkx]; rfl
    have hcc : Chg (fun y => y = nx.mp) w w1 := (Chg.refl _ w).drew.trans hc1 (fun _ _ h => h)
    obtain ⟨G1, S1, T1⟩ := drop_mem h.gm h.top hx hp hpx hbn hm1 hcc
    have s1 := T1.c1
    have f1 := T1.fz 1
    have hlT := T1.lt
    have hd1 : 1 ≤ dom.length ∧ dom.length ≤ 2 * k + 1 := ⟨List.length_pos_of_mem ((h.wf.mem p).2 (by rw [hp]; rfl)), h.few⟩
    obtain ⟨W2, hW2⟩ : ∃ W2, w1.setCell ⟨T, 1, none⟩ (.int .i64 ((dom.length : Int) - 1)) = W2 := ⟨_, rfl⟩
    have hc2 : Chg (fun y => y = T) w1 W2 := by rw [← hW2]; exact chg_set w1 ⟨T, 1, none⟩ _
    have T2 : TopAt W2 T (nP root) ((dom.length : Int) - 1) len := by rw [← hW2]; exact T1.set1 _
    have G2 := G1.chg hc2 (G1.top T1)
    have X2 := h.drop hx hkx hp hks hi G2 T2
    have M2 := MinX.drop (n := nx) (b := b) hm hpx
    have S2 := hide (S1.trans (TStep.top hc2))
    obtain ⟨Gc, Gp, Go⟩ := drp_gets (g := g) (n := nx) (b := b) hpx
    have hel : (drpP nx b).ks.length = nx.ks.length - 1 := List.length_erase_of_mem hbn
    have HJ := hide (join_any T root _ _ E len k x (drpP nx b) W2 X2 M2 Gp (by
      by_cases e : x = root
      · exact .inl e
      · right
        rcases hm x nx hx e (fun e => hpx e.symm) with h1 | h1
        · exact .inl h1
        · right; omega) hk)
    have hw1 : wrap64 ((dom.length : Int) - 1) = (dom.length : Int) - 1 := by rw [wrap64]; omega
    clear hj hpr hk0 hks ha hx hkx hstr htl NX hpx hm1 hc1 hbn hcc G1 S1 T1 hc2 T2 G2 X2 M2 Gc Gp Go hel h hm hp hi N hr hd1
    rw [oP_some]
    go_enter Try.func29, Try.ntmps29
    go_wp2_with fail
    go_region
    go_wp2_with fail
    refine HJ.out.mono ?_
    rintro _ w3 ⟨rfl, ho⟩
    have HO := hide ho
    clear ho HJ
    dsimp only
    go_wp2
    first | go_end0 | refine bodyPost_ret (results_none rfl _ _ _) rfl ?_
    obtain ⟨g', dom', h1, h2, h3⟩ := HO.out
    exact ⟨rfl, g', dom', h1, h2, S2.out.trans h3⟩

end Go.Proofs.Ytmbniakobhaomaa
