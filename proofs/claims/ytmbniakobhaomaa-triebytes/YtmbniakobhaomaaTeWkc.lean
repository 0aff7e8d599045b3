/-
  The landed package trie: split, as its text runs.
-/
import Derived.Test.YtmbniakobhaomaaTeWkb
namespace Go.Proofs.Ytmbniakobhaomaa
open Go.ChangeShapes Go.WideShapes Go.ChangeAt Go.RowKit
set_option linter.unusedVariables false
set_option maxRecDepth 100000
attribute [local go_sem ↓] Go.wp_at_zero Go.wp_at_succ

theorem spl_funext {g : Gr} {p q c : Nat} {n N0 N m' : ND} {b : UInt8} (h1 : p ≠ q) (h2 : c ≠ q) (h3 : c ≠ p) : updG (updG (updG (updG g q (some N0)) p (some (splP n b q))) c (some m')) q (some N) = splG g p q c n N m' b := by
  funext x
  unfold splG updG
  by_cases e1 : x = q
  · subst e1; simp [h2.symm]
  · by_cases e2 : x = c
    · subst e2; simp [e1]
    · simp [e1, e2]
def cutS (s : ByteArray) (k : Nat) : ByteArray := s.extract k s.size
def topS (s : ByteArray) (k : Nat) : ByteArray := s.extract 0 k
theorem cutS_list (s : ByteArray) (k : Nat) : (cutS s k).data.toList = s.data.toList.drop k := rest_list s k
theorem topS_list (s : ByteArray) (k : Nat) : (topS s k).data.toList = s.data.toList.take k := by unfold topS; rw [piece_list]; simp
def SplOut (w : World) (T : Nat) (r : Value) (a l : Int) (g : Gr) (p c sz : Nat) (n m : ND) (b b2 : UInt8) (e : Ending) (w' : World) : Prop :=
  ∃ q M, e = .returned (.pointer (some ⟨q, 0, none⟩)) ∧ w.heap.size ≤ q ∧
    (∃ N m', SplAt g p q c n N m m' b b2 (m.lb.take sz) (m.lb.drop sz) ∧ N.mp = M ∧ GMem w' (splG g p q c n N m' b) ∧ TStep T g (splG g p q c n N m' b) w w') ∧ TopAt w' T r (a + 1) l

set_option maxHeartbeats 4000000 in
theorem split_calls (T p c sz : Nat) (r : Value) (a l : Int) (g : Gr) (n m : ND) (b b2 : UInt8) (w : World) (hg : GMem w g) (ht : TopAt w T r a l) (ha : 0 ≤ a ∧ a ≤ 1000000) (hp : g p = some n) (hc : g c = some m) (hk : n.kid b = some c) (hcp : c ≠ p)
    (hn : n.ks.length < 1000000) (hki : ∀ x, x ∈ n.ks ↔ (n.kid x).isSome = true) (hz : m.lab.size ≤ 1000000) (h1 : ∃ t, m.lb.take sz = b :: t) (h2 : ∃ t, m.lb.drop sz = b2 :: t) :
    Calls Try.prog 34 #[.pointer (some ⟨T, 0, none⟩), .pointer (some ⟨p, 0, none⟩), .pointer (some ⟨c, 0, none⟩), .int .i64 sz] w fun e w' => SplOut w T r a l g p c sz n m b b2 e w' := by
  have NP := hg.node p n hp
  have NC := hg.node c m hc
  have k0 := NC.c0
  have hszl : sz < m.lab.size := by
    obtain ⟨t, ht2⟩ := h2
    have e1 : m.lb.length = m.lab.size := Array.length_toList
    have := congrArg List.length ht2
    rw [List.length_drop] at this
    simp at this
    omega
  have z0 : (0 : Int) ≤ (sz : Int) := by omega
  have z1 : (sz : Int) ≤ (m.lab.size : Int) := by omega
  have hcut : (m.lab.extract 0 sz).size ≤ 1000000 := by rw [ByteArray.size_extract]; omega
  have HM := hide (made_calls T r a l (topS m.lab sz) w ht ha hcut)
  have H := hide (⟨hg, ht, hp, hc, hk, hcp⟩ : GMem w g ∧ TopAt w T r a l ∧ g p = some n ∧ g c = some m ∧ n.kid b = some c ∧ c ≠ p)
  have HN := hide (⟨hn, hki⟩ : _ ∧ _)
  have H1 := hide h1
  have H2 := hide h2
  have HS := hide hszl
  clear hg ht hp hc hk hn hki NP NC h1 h2 hszl hcp
  go_enter Try.func34, Try.ntmps34
  go_wp2_with fail
  refine HM.out.mono ?_
  rintro _ w1 ⟨q, M, rfl, hq, hM, hN, ht1, hc1⟩
  clear HM
  obtain ⟨hg, ht, hp, hc, hk, hcp⟩ := H.out
  have g1 : GMem w1 g := hg.chg hc1 (hg.top ht)
  have hgq : g q = none := by
    cases e : g q with
    | none => rfl
    | some x => have := (hg.node q x e).lt; omega
  have hpq : p ≠ q := fun e => by rw [e, hgq] at hp; cases hp
  have hcq : c ≠ q := fun e => by rw [e, hgq] at hc; cases hc
  have g2 := GMem.new hg g1 (n := newN (topS m.lab sz) (n.str ++ m.lb.take sz) M) hq (hN _) hM rfl
  have s2 := TStep.new1 (g := g) (n := newN (topS m.lab sz) (n.str ++ m.lb.take sz) M) hc1 hq hM rfl
  have hp2 : updG g q (some (newN (topS m.lab sz) (n.str ++ m.lb.take sz) M)) p = some n := by rw [updG_other _ _ hpq]; exact hp
  have hc2 : updG g q (some (newN (topS m.lab sz) (n.str ++ m.lb.take sz) M)) c = some m := by rw [updG_other _ _ hcq]; exact hc
  obtain ⟨t1, ht1'⟩ := H1.out
  obtain ⟨t2, ht2'⟩ := H2.out
  obtain ⟨N0, hN0⟩ : ∃ N0, N0 = newN (topS m.lab sz) (n.str ++ m.lb.take sz) M := ⟨_, rfl⟩
  have HQ0 := hide hN0
  have hNq := hN (n.str ++ m.lb.take sz)
  rw [← hN0] at g2 s2 hp2 hc2 hNq
  have hput := put_calls p q n.mp n.ks.length n.ks.length n.kid (topS m.lab sz) b t1 w1 (g2.node p n hp2).c2 (hN []).c0 (by rw [topS_list]; exact ht1') (g2.node p n hp2).map HN.out.1 (by rw [hk]; rfl)
  have HP := hide hput
  have G2 := hide g2
  have S2 := hide s2
  have HH := hide (⟨hp2, hc2, hpq, hcq, hgq, hq, hNq, ht1⟩ : _ ∧ _ ∧ _ ∧ _ ∧ _ ∧ _ ∧ _ ∧ _)
  clear hput g2 s2 hp2 hc2 hpq hcq hgq hq hN ht1 g1 hg ht hp hc hk hcp hM hc1 k0 hN0 hNq
  dsimp only
  go_wp2_with fail
  refine HP.out.mono ?_
  rintro _ w2 ⟨rfl, hm2, hc2⟩
  clear HP
  -- below the upper one
  obtain ⟨hp2, hcc, hpq, hcq, hgq, hq, hNq, ht1⟩ := HH.out
  have hcp := H.out.2.2.2.2.2
  have hkc := H.out.2.2.2.2.1
  have NP := G2.out.node p n hp2
  have NP2 : NAt w2 p (splP n b q) := ⟨(hc2.2 p NP.lt (kd_ne NP.kd1 NP.kd3 (by decide))).trans NP.blk, OwnG.chgT NP.ids hc2 (fun x hx => kd_ne (NP.kd2 hx) NP.kd3 (by decide)), hm2⟩
  have g3 := hide (G2.out.set1 hc2 hp2 (fun y _ e => .inr (.inr e)) NP2 rfl (fun b h => .inl h))
  have s3 := hide (S2.out.trans (TStep.set (T := T) (n' := splP n b q) hp2 hc2 (fun y _ e => .inr (.inr e)) rfl (fun b h => .inl h)))
  have ht2 := hide (ht1.chg hc2 (fun e => kd_ne ht1.kd4 NP.kd3 (by decide) e))
  have hc3 : updG (updG g q (some N0)) p (some (splP n b q)) c = some m := by rw [updG_other _ _ hcp]; exact hcc
  have hq3 : updG (updG g q (some N0)) p (some (splP n b q)) q = some N0 := by rw [updG_other _ _ hpq.symm]; exact updG_same ..
  have NC := g3.out.node c m hc3
  have k0 := NC.c0
  have f0 := NC.fz 0
  have HC3 := hide (⟨hc3, hq3⟩ : _ ∧ _)
  have z2 := cutS_list m.lab sz
  clear hp2 hcc hpq hcq hgq hq hNq ht1 NP NP2 hc3 hq3 NC hm2 hc2 hcp hkc G2 S2
  dsimp only
  go_wp2_with fail
  refine (clone_calls (m.lab.extract sz m.lab.size) w2 (by rw [rest_size]; omega)).mono ?_
  rintro _ w3 ⟨rfl, hu3⟩
  have f0' := (hu3.frozen (p := ⟨c, 0, none⟩) (World.block_lt_of_cell? w2 ⟨c, 0, none⟩ k0)).trans f0
  clear f0
  replace k0 := hu3.cell k0
  have HU3 := hide hu3
  clear hu3
  obtain ⟨W4, hW4⟩ : ∃ W4, W4 = w3.setCell ⟨c, 0, none⟩ (.string (cutS m.lab sz)) := ⟨_, rfl⟩
  have hc4 : Chg (fun y => y = c) w3 W4 := by rw [hW4]; exact chg_set w3 ⟨c, 0, none⟩ _
  obtain ⟨hc3, hq3⟩ := HC3.out
  have g3' := g3.out.up HU3.out
  have NC := g3'.node c m hc3
  have NC4 : NAt W4 c { m with lab := cutS m.lab sz } := ⟨by rw [hW4]; exact heap_setCell_same w3 c 0 _ _ _ NC.blk, OwnG.chgT NC.ids hc4 (fun x hx => kd_ne (NC.kd2 hx) NC.kd1 (by decide)), NC.map.chg hc4 (fun e => kd_ne NC.kd3 NC.kd1 (by decide) e)⟩
  have g4 := hide (g3'.set1 hc4 hc3 (fun y _ e => .inl e) NC4 rfl (fun b h => .inl h))
  have s4 := hide ((s3.out.trans (TStep.up HU3.out)).trans (TStep.set (T := T) (n' := { m with lab := cutS m.lab sz }) hc3 hc4 (fun y _ e => .inl e) rfl (fun b h => .inl h)))
  have ht4 := hide ((ht2.out.up HU3.out).chg hc4 (fun e => kd_ne (ht2.out.up HU3.out).kd4 NC.kd1 (by decide) e))
  have hcq := HH.out.2.2.2.1
  have hq4 : updG (updG (updG g q (some N0)) p (some (splP n b q))) c (some { m with lab := cutS m.lab sz }) q = some N0 := by rw [updG_other _ _ hcq.symm]; exact hq3
  have NQ := g4.out.node q N0 hq4
  have e0 : N0.mp = M := by rw [HQ0.out]; rfl
  have e1 : N0.kid = fun _ => none := by rw [HQ0.out]; rfl
  have e2 : N0.ks = [] := by rw [HQ0.out]; rfl
  have hput := put_calls q c N0.mp 0 1 (fun _ => none) (cutS m.lab sz) b2 t2 W4 NQ.c2 NC4.c0 (by rw [cutS_list]; exact ht2') (by have := NQ.map; rw [e1, e2] at this; exact this) (by omega) rfl
  have HP := hide hput
  have HQ4 := hide (⟨hq4, e0, e1, e2⟩ : _ ∧ _ ∧ _ ∧ _)
  have HW := hide hW4
  clear hput g3' NC NC4 hq4 NQ e0 e1 e2 hc3 hq3 hc4 hcq
  have hW5 : w3.setCell ⟨c, 0, none⟩ (.string (m.lab.extract sz m.lab.size)) = W4 := hW4.symm
  clear hW4
  dsimp only
  go_wp2_with fail
  refine HP.out.mono ?_
  rintro _ w5 ⟨rfl, hm5, hc5⟩
  clear HP
  dsimp only
  go_wp2
  go_ret
  obtain ⟨hq4, e0, e1, e2⟩ := HQ4.out
  obtain ⟨hp2, hcc, hpq, hcq, hgq, hq, hNq, ht1⟩ := HH.out
  obtain ⟨hg, ht, hp, hc, hk, hcp⟩ := H.out
  have NQ := g4.out.node q N0 hq4
  have NQ5 : NAt w5 q { N0 with kid := updK (fun _ => none) b2 (some c), ks := [b2] } := ⟨(hc5.2 q NQ.lt (kd_ne NQ.kd1 NQ.kd3 (by decide))).trans NQ.blk, OwnG.chgT NQ.ids hc5 (fun x hx => kd_ne (NQ.kd2 hx) NQ.kd3 (by decide)), hm5⟩
  have g5 := g4.out.set1 hc5 hq4 (fun y _ e => .inr (.inr e)) NQ5 rfl (fun b h => .inl h)
  have s5 := s4.out.trans (TStep.set (T := T) (n' := { N0 with kid := updK (fun _ => none) b2 (some c), ks := [b2] }) hq4 hc5 (fun y _ e => .inr (.inr e)) rfl (fun b h => .inl h))
  rw [spl_funext hpq hcq hcp] at g5 s5
  refine ⟨q, M, rfl, hq, ⟨{ N0 with kid := updK (fun _ => none) b2 (some c), ks := [b2] }, { m with lab := cutS m.lab sz }, ⟨hp, hk, hc, hgq, (List.take_append_drop sz m.lb).symm, H1.out, H2.out, ?_, ?_, rfl, rfl, ?_, rfl, ?_, rfl, rfl, rfl⟩, e0, g5, s5⟩, ht4.out.chg hc5 (fun e => kd_ne ht4.out.kd4 NQ.kd3 (by decide) e)⟩
  · rw [HQ0.out]; rfl
  · rw [HQ0.out]; exact topS_list m.lab sz
  · rw [HQ0.out]; rfl
  · exact cutS_list m.lab sz

end Go.Proofs.Ytmbniakobhaomaa
