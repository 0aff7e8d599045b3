/-
  The landed package trie: join, as its text runs.
-/
import Derived.Test.YtmbniakobhaomaaTeWke
import Derived.Maps.RangeWalk
import Derived.LaidEqlPtr
import Derived.BigRegion
namespace Go.Proofs.Ytmbniakobhaomaa
open Go.ChangeShapes Go.WideShapes Go.ChangeAt Go.RowKit Go.Maps
set_option linter.unusedVariables false
set_option maxRecDepth 100000
attribute [local go_sem ↓] Go.wp_at_zero Go.wp_at_succ

theorem info_node : (Try.prog.info? tNode).map (·.size) = some 3 := by kernel_rfl
/-- Two nodes' pointers are held against one another. -/
theorem eql_nodes {w : World} {g : Gr} (hg : GMem w g) {p q : Nat} {n m : ND} (hp : g p = some n) (hq : g q = some m) : (binOp .eql 54 (.pointer (some ⟨p, 0, none⟩)) (.pointer (some ⟨q, 0, none⟩))).run Try.prog w = .ok (.bool (decide (p = q))) w := by
  obtain ⟨j, hj, hs⟩ : ∃ j, Try.prog.info? tNode = some j ∧ j.size = 3 := by
    have h := info_node
    cases hi : Try.prog.info? tNode with
    | none => rw [hi] at h; cases h
    | some j => rw [hi] at h; exact ⟨j, rfl, by simpa using h⟩
  by_cases e : p = q
  · subst e
    rw [run_eql_ptr_same w ⟨p, 0, none⟩ Try.underlying54 hj, decide_eq_true rfl]
  · rw [run_eql_ptr_other w Try.underlying54 hj (by omega) (fun h => e (by cases h; rfl)) (hg.node p n hp).blk (hg.node q m hq).blk, decide_eq_false e]

/-- Nothing is to be made one. -/
theorem join_not (T root : Nat) (a l : Int) (g : Gr) (dom : List Nat) (p : Nat) (n : ND) (w : World) (hw : WF g root dom) (hg : GMem w g) (ht : TopAt w T (nP root) a l) (hp : g p = some n) (hno : p = root ∨ n.ids ≠ [] ∨ 1 < n.ks.length) (hz : n.ks.length ≤ 1000000) (hi : n.ids.length ≤ 1000000) :
    Calls Try.prog 43 #[.pointer (some ⟨T, 0, none⟩), .pointer (some ⟨p, 0, none⟩)] w fun e w' => e = .returned (.tuple #[]) ∧ Up w w' := by
  obtain ⟨r, hr, _⟩ := hw.top
  have hpq := eql_nodes hg hp hr
  have N := hg.node p n hp
  have c0 := ht.c0
  unfold nP at c0
  have c1 := N.c1
  have c2 := N.c2
  obtain ⟨va, vc, hv, _⟩ := N.ids.rd
  rw [hv] at c1
  have hlen := fun ty => (N.map).len ty
  have HN := hide N
  clear N hg ht hv hr hw
  by_cases h1 : p = root
  · rw [decide_eq_true h1] at hpq
    clear h1
    go_enter Try.func43, Try.ntmps43
    go_wp2
    refine bodyPost_ret (results_none rfl _ _ _) rfl ?_
    exact ⟨rfl, Up.refl _⟩
  · rw [decide_eq_false h1] at hpq
    by_cases h2 : n.ids = []
    · have h3 : 1 < n.ks.length := (hno.resolve_left h1).resolve_left (fun h => h h2)
      have l0 : n.ids.length = 0 := by rw [h2]; rfl
      rw [l0] at c1
      obtain ⟨L, hL⟩ : ∃ L, L = n.ks.length := ⟨_, rfl⟩
      rw [← hL] at h3 hlen
      have t1 : (1 : Int) < (L : Int) := by omega
      replace hL := hide hL
      clear h1 h2 hno l0
      go_enter Try.func43, Try.ntmps43
      go_wp2
      refine bodyPost_ret (results_none rfl _ _ _) rfl ?_
      exact ⟨rfl, Up.refl _⟩
    · have l0 : 0 < n.ids.length := List.length_pos_iff.2 h2
      obtain ⟨L, hL⟩ : ∃ L, L = n.ids.length := ⟨_, rfl⟩
      rw [← hL] at c1 l0
      have t1 : (0 : Int) < (L : Int) := by omega
      replace hL := hide hL
      clear h1 h2 hno
      go_enter Try.func43, Try.ntmps43
      go_wp2
      refine bodyPost_ret (results_none rfl _ _ _) rfl ?_
      exact ⟨rfl, Up.refl _⟩

theorem up_grT {w w0 w' : World} {r : Nat} (h : Up w w0) (hg : w0.grownBy w' (some r)) (hr : w.heap.size ≤ r) : Up w w' :=
  ((Chg.of_up (C := fun y => y = r) h).trans (⟨⟨hg.os, hg.tape, hg.output, hg.size, fun k hk => absurd hk (Nat.not_lt_zero k)⟩, fun y hy hn => hg.block y hy (fun e => hn (Option.some.inj e))⟩ : Chg (fun y => y = r) w0 w') (fun _ _ h => h)).up (fun x hx (e : x = r) => by omega)
theorem up_grT0 {w w' : World} (hg : w.grownBy w' none) : Up w w' := ⟨hg.os, hg.tape, hg.output, hg.size, fun y hy => hg.block y hy (by simp)⟩
theorem u8_of_wf {x : Int} (h : (Lit.int .u8 x).wf = true) : ∃ b : UInt8, x = (b.toNat : Int) := by
  have h1 : (0 : Int) ≤ x ∧ x ≤ 255 := by
    simp only [Lit.wf, decide_eq_true_eq, Bool.and_eq_true] at h
    exact h
  refine ⟨UInt8.ofNat x.toNat, ?_⟩
  rw [UInt8.toNat_ofNat']
  omega
theorem ranges_same {P : Program} {k : TypeId} {R : Value → Option (DataW Value × List MemPlace)} {w w' : World} {b r n : Nat} {D : DataW Value} {left : Lit → Bool} {cnt : Nat} (h : w.ranges P k R b r n D left cnt) (hb : w'.heap[b]? = w.heap[b]?) (hr : w'.heap[r]? = w.heap[r]?) : w'.ranges P k R b r n D left cnt := by
  obtain ⟨es, clock, since, seen, c0, h1, h2, h3, h4, h5, h6⟩ := h
  exact ⟨es, clock, since, seen, c0, hb.trans h1, h2, h3, h4, hr.trans h5, h6⟩
def joiN (n m : ND) : ND := ⟨n.lab ++ m.lab, m.str, m.v, m.ids, m.mp, m.kid, m.ks⟩
theorem joi_funext {g : Gr} {p c : Nat} {N : ND} (h : c ≠ p) : updG (updG g c none) p (some N) = joiG g p c N := by
  funext x
  unfold joiG updG
  by_cases e : x = p
  · subst e; simp [h.symm]
  · simp [e]
/-- Two nodes are one, in memory. -/
theorem join_mem {w1 w2 : World} {T : Nat} {r : Value} {a l : Int} {g : Gr} {p c : Nat} {n m : ND} (hg : GMem w1 g) (ht : TopAt w1 T r a l) (hp : g p = some n) (hc : g c = some m) (hcp : c ≠ p)
    (h2 : w2.heap[p]? = some (.cells #[.string (n.lab ++ m.lab), m.v, .map (some m.mp)] tNode (0, 0))) (hcg : Chg (fun y => y = p) w1 w2) : GMem w2 (joiG g p c (joiN n m)) ∧ TStep T g (joiG g p c (joiN n m)) w1 w2 ∧ TopAt w2 T r a l := by
  have NP := hg.node p n hp
  have NC := hg.node c m hc
  have hp1 : updG g c none p = some n := by rw [updG_other _ _ hcp.symm]; exact hp
  have NN : NAt w2 p (joiN n m) := ⟨h2, OwnG.chgT NC.ids hcg (fun b hb => kd_ne (NC.kd2 hb) NP.kd1 (by decide)), NC.map.chg hcg (kd_ne NC.kd3 NP.kd1 (by decide))⟩
  have old : ∀ x k, updG g c none x = some k → x ≠ c ∧ g x = some k := fun x k hx => by
    unfold updG at hx
    split at hx
    · cases hx
    · exact ⟨‹_›, hx⟩
  have g2 := (hg.del c).set hcg hp1 (fun y _ e => .inl e) NN (fun q k hq hne e => (old q k hq).1 (hg.mpi q c k m (old q k hq).2 hc e.symm)) (fun q k b hq hne e1 e2 => (old q k hq).1 (hg.vi q c k m b (old q k hq).2 hc e2 e1))
  rw [joi_funext hcp] at g2
  refine ⟨g2, ⟨hcg.mono (fun y _ e => .inr ⟨p, n, hp, .inl e⟩), fun y hy => .inl ?_⟩, ht.chg hcg (kd_ne ht.kd4 NP.kd1 (by decide))⟩
  obtain ⟨Gc, Gp, Go⟩ := joi_gets (g := g) (N := joiN n m) hcp
  rcases hy with rfl | ⟨x, k, hx, h⟩
  · exact .inl rfl
  · have hxc : x ≠ c := fun e => by rw [e, Gc] at hx; cases hx
    by_cases e : x = p
    · rw [e, Gp] at hx
      cases hx
      rcases h with rfl | h | rfl
      · exact .inr ⟨p, n, hp, .inl e⟩
      · exact .inr ⟨c, m, hc, .inr (.inl h)⟩
      · exact .inr ⟨c, m, hc, .inr (.inr rfl)⟩
    · rw [Go x hxc e] at hx
      exact .inr ⟨x, k, hx, h⟩
def JoiDone (T root : Nat) (a l : Int) (g : Gr) (p c : Nat) (n m : ND) (w w' : World) : Prop :=
  GMem w' (joiG g p c (joiN n m)) ∧ TStep T g (joiG g p c (joiN n m)) w w' ∧ TopAt w' T (nP root) (a - 1) l
set_option maxHeartbeats 8000000 in
theorem join_one (T root : Nat) (a l : Int) (g : Gr) (dom : List Nat) (p c : Nat) (n m : ND) (b : UInt8) (w : World) (hw : WF g root dom) (hg : GMem w g) (ht : TopAt w T (nP root) a l) (ha : 0 ≤ a ∧ a ≤ 1000000) (hp : g p = some n) (hpr : p ≠ root) (hi : n.ids = []) (hks : n.ks = [b]) (hk : n.kid b = some c) (hc : g c = some m) (hz : n.lab.size + m.lab.size ≤ 1000000) :
    Calls Try.prog 43 #[.pointer (some ⟨T, 0, none⟩), .pointer (some ⟨p, 0, none⟩)] w fun e w' => e = .returned (.tuple #[]) ∧ JoiDone T root a l g p c n m w w' := by
  obtain ⟨r, hr, _⟩ := hw.top
  have hpq := eql_nodes hg hp hr
  rw [decide_eq_false hpr] at hpq
  have N := hg.node p n hp
  have c0 := ht.c0
  unfold nP at c0
  have c1 := N.c1
  have c2 := N.c2
  obtain ⟨va, vc, hv, _⟩ := N.ids.rd
  rw [hv, hi] at c1
  replace c1 : w.cell? ⟨p, 1, none⟩ = some (.slice va 0 vc) := c1
  have hlen := fun ty => (N.map).len ty
  rw [hks] at hlen
  replace hlen : ∀ ty, (Builtin.len_ #[60] ty #[.map (some n.mp)]).run Try.prog w = .ok (.int .i64 1) w := hlen
  have hcp := (hw.kid_ne hp hk).2
  have HK3 := hide N.kd3
  have HMAP := hide N.map
  obtain ⟨D, hown, hsz, hat⟩ := N.map
  rw [hks] at hsz hown
  replace hsz : Maps.size D = 1 := hsz
  have HAT := hide hat
  have HSZ := hide hsz
  have H := hide (⟨hw, hg, ht, hp, hc, hk, hcp, hks, (hw.ks p n hp).2⟩ : _ ∧ _ ∧ _ ∧ _ ∧ _ ∧ _ ∧ _ ∧ _ ∧ _)
  have hw1 : wrap64 (a - 1) = a - 1 := by rw [wrap64]; omega
  have HMP := hide (hg.node p n hp).map.lt
  clear N hg ht hv hr hw hi hks hk hc hp hpr hat hsz hcp
  go_enter Try.func43, Try.ntmps43
  go_wp2_with (first
    | (at_range; refine wpList_range_own _ rfl _ 60 rfl 5 54 lawB Try.underlying60 heldN n.mp 1 D rfl hown ?_; intro w0 hrg0 hg0 hs0)
    | go_in)
  go_frame
  have HU0 := hide (up_grT0 hg0)
  rw [HSZ.out] at hrg0
  have HRG := hide hrg0
  clear hg0 hs0 hrg0
  go_loopw [5] (fun u wr => (wr.ranges Try.prog 5 heldN n.mp w.heap.size 1 D (Maps.has D) 1 ∧ Hid (Up w wr)) ∨ (∃ left, wr.ranges Try.prog 5 heldN n.mp w.heap.size 1 D left 0 ∧ Hid (JoiDone T root a l g p c n m w wr)))
    (fun _ wr => wr.rangeLeft n.mp w.heap.size)
  case atStart => exact .inl ⟨HRG.out, HU0⟩
  case round =>
    clear HRG HU0
    rcases hrel with ⟨hrg, hu⟩ | ⟨left, hrg, hdone⟩
    · go_wp2_with (first
        | (at_next; refine wpList_next_ranges _ rfl _ rfl 5 lawB heldN (Value.int .u8) oP (fun key kl hk => by obtain ⟨x, hx, _⟩ := Maps.keyOf_int_inv Try.underlying5 hk; exact ⟨x, hx⟩) (fun v y hv => ⟨npOf v, (heldN_inv hv).2⟩) n.mp w.heap.size 1 _ _ _ rfl hrg ?_ ?_)
        | go_in)
      · intro x o kl yd yp w1 cnt1 hkey hlk hv hax hrg1 hlt hg1 hs1 hen
        subst hlt
        obtain ⟨x', ex, rfl, hwf⟩ := Maps.keyOf_int_inv Try.underlying5 hkey
        cases ex
        obtain ⟨b', rfl⟩ := u8_of_wf hwf
        obtain ⟨hw, hg, ht, hp, hc, hk, hcp, hks, hki⟩ := H.out
        have hb : b' = b := by
          have h5 := (HAT.out b').1
          rw [has_true_of_atKey hax] at h5
          have h6 := (hki b').2 h5.symm
          rw [hks] at h6
          simpa using h6
        subst hb
        have ho : o = some c := by
          have h5 := (HAT.out b').2 c hk
          rw [hax] at h5
          have h7 := (heldN_inv hv).1
          simp only [Prod.mk.injEq] at h7
          rw [h7.1] at h5
          injection h5 with h5
          cases o with
          | none => cases h5
          | some z => cases h5; rfl
        subst ho
        have hu1 := up_grT hu.out hg1 (Nat.le_refl _)
        have hrL : w1.rangeLeft n.mp w.heap.size < wr.rangeLeft n.mp w.heap.size := by rw [hrg1.left_eq, hrg.left_eq]; decide
        have G1 := hg.up hu1
        have T1 := ht.up hu1
        have NP := G1.node p n hp
        have NC := G1.node c m hc
        have p0 := NP.c0
        have p1 := NP.c1
        have p2 := NP.c2
        have q0 := NC.c0
        have q1 := NC.c1
        have q2 := NC.c2
        obtain ⟨ma, mn, mc, hmv⟩ : ∃ ma mn mc, m.v = .slice ma mn mc := by obtain ⟨a, c, h, _⟩ := NC.ids.rd; exact ⟨a, _, c, h⟩
        obtain ⟨na, nn, nc, hnv⟩ : ∃ ma mn mc, n.v = .slice ma mn mc := by obtain ⟨a, c, h, _⟩ := NP.ids.rd; exact ⟨a, _, c, h⟩
        rw [hmv] at q1
        rw [hnv] at p1
        have fp0 := NP.fz 0
        have fp1 := NP.fz 1
        have fp2 := NP.fz 2
        have fT := T1.fz 1
        have hlT := T1.lt
        have hRG1 := hide hrg1
        have HU1 := hide hu1
        have HRL := hide hrL
        have HMV := hide hmv
        have t1 := T1.c1
        have HTP := hide (kd_ne T1.kd4 NP.kd1 (by decide))
        rw [oP_some] at hen
        clear hw hg ht hp hc hk hcp hks hki hax hv hlk hkey hwf hu hrg hrg1 hg1 hs1 hu1 hrL G1 T1 NP NC hmv hnv
        go_wp2_with fail
        go_region
        obtain ⟨W2, hW2⟩ : ∃ W2, W2 = (((w1.setCell ⟨p, 0, none⟩ (.string (n.lab ++ m.lab))).setCell ⟨p, 1, none⟩ (.slice ma mn mc)).setCell ⟨p, 2, none⟩ (.map (some m.mp))).drew := ⟨_, rfl⟩
        rw [← hW2]
        obtain ⟨hw, hg, ht, hp, hc, hk, hcp, hks, hki⟩ := H.out
        have G1 := hg.up HU1.out
        have T1 := ht.up HU1.out
        have hblk : W2.heap[p]? = some (.cells #[.string (n.lab ++ m.lab), m.v, .map (some m.mp)] tNode (0, 0)) := by
          rw [hW2, HMV.out]
          exact heap_setCell_same _ p 2 _ _ _ (heap_setCell_same _ p 1 _ _ _ (heap_setCell_same w1 p 0 _ _ _ (G1.node p n hp).blk))
        have hcg : Chg (fun y => y = p) w1 W2 := by
          rw [hW2]
          exact ((((Chg.refl (fun y => y = p) w1).set (p := ⟨p, 0, none⟩) (fun _ => rfl) _).set (p := ⟨p, 1, none⟩) (fun _ => rfl) _).set (p := ⟨p, 2, none⟩) (fun _ => rfl) _).drew
        obtain ⟨j1, j2, j3⟩ := join_mem G1 T1 hp hc hcp hblk hcg
        have s1 := j3.c1
        have fs1 := j3.fz 1
        have hlT2 := j3.lt
        have J1 := hide j1
        have J2 := hide ((TStep.up (T := T) (g := g) HU1.out).trans j2)
        have J3 := hide j3
        have hmp := (hg.node p n hp).map.lt
        have NP1 := G1.node p n hp
        have TP1 := T1
        have hrg2 := hide (ranges_same hRG1.out (hcg.2 n.mp (by have := HU1.out.size; omega) (kd_ne NP1.kd3 NP1.kd1 (by decide))) (hcg.2 w.heap.size (by
          obtain ⟨es, clock, since, seen, c0, h1, h2, h3, h4, h5, h6⟩ := hRG1.out
          exact lt_of_heap h5) (fun e => by have := (hg.node p n hp).lt; omega)))
        have hfin : (W2.setCell ⟨T, 1, none⟩ (.int .i64 (a - 1))).ranges Try.prog 5 heldN n.mp w.heap.size 1 D (fun z => Maps.has D z && !z.sameKey (Lit.int .u8 (b'.toNat : Int))) 0 := by
          refine ranges_same hrg2.out ((chg_set W2 ⟨T, 1, none⟩ _).2 n.mp ?_ ?_) ((chg_set W2 ⟨T, 1, none⟩ _).2 w.heap.size ?_ ?_)
          · obtain ⟨es, clock, since, seen, c0, h1, _⟩ := hrg2.out
            exact lt_of_heap h1
          · exact kd_ne HK3.out ht.kd4 (by decide)
          · obtain ⟨es, clock, since, seen, c0, h1, h2, h3, h4, h5, h6⟩ := hrg2.out
            exact lt_of_heap h5
          · have := ht.lt
            exact fun (e : w.heap.size = T) => by omega
        have HFIN := hide hfin
        clear hw hg ht hp hc hk hcp hks hki G1 T1 hblk hcg j1 j2 j3 p0 p1 p2 q0 q1 q2 fp0 fp1 fp2 fT t1 hen NP1 TP1 hlT hW2 hmp hfin
        go_wp2
        go_roundw
        case rel => exact .inr ⟨_, HFIN.out, hide ⟨J1.out.chg (chg_set _ _ _) (J1.out.top J3.out), J2.out.trans (TStep.top (chg_set _ _ _)), J3.out.set1 (a - 1)⟩⟩
        case measure =>
          have := HRL.out
          rw [HFIN.out.left_eq]
          omega
    · go_wp2_with (first
        | (at_next; refine wpList_next_ranges _ rfl _ rfl 5 lawB heldN (Value.int .u8) oP (fun key kl hk => by obtain ⟨x, hx, _⟩ := Maps.keyOf_int_inv Try.underlying5 hk; exact ⟨x, hx⟩) (fun v y hv => ⟨npOf v, (heldN_inv hv).2⟩) n.mp w.heap.size 1 _ _ _ rfl hrg ?_ ?_)
        | go_in)
      intro _
      go_wp2
      go_end0
      exact ⟨rfl, hdone.out⟩

end Go.Proofs.Ytmbniakobhaomaa
