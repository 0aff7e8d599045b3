/-
  The small functions of a counted tree of entries: isLeaf, size, find, write, joined, halves, nodes, as their text runs.
  write, nodes, joined, halves of a counted tree of entries, as their text runs.
  joined, halves, nodes of a counted tree of entries, as their text runs.
  halves and nodes of a counted tree of entries, as their text runs.
  nodes of a counted tree of entries, as its text runs; joined and halves, of what a node has.
-/
import Derived.Test.YtnokokhbcfkifaaGreatDoorTrRowG
import Derived.Test.YtnokokhbcfkifaaGreatDoorTrLibEG
namespace Go.Proofs.YtnokokhbcfkifaaGreatDoor
open Go.ChangeShapes Go.WideShapes Go.ChangeAt Go.RowKit
set_option linter.unusedVariables false
set_option maxRecDepth 100000
attribute [local go_sem ↓] Go.wp_at_zero Go.wp_at_succ

theorem leafE_calls (X : Nat → Prop) (h b : Nat) (xs : List ET) (s : Nat) (w : World) (hn : Nd eC X w h b xs s) (hs : h ≠ 0 → s ≠ 0) :
    Calls Tryz.prog 72 #[.pointer (some ⟨b, 0, none⟩)] w fun e w' => e = .returned (.bool (decide (h = 0))) ∧ w' = w := by
  obtain ⟨ve, vb, ⟨hX, c0, c1, c2⟩, hl⟩ := nd_iff.1 hn
  obtain ⟨ae, ne, ce, ab, nb, cb, rfl, rfl, _, _, _, h1, h2⟩ := hl.slices
  clear hn hl
  by_cases hh : h = 0
  · obtain ⟨rfl, rfl⟩ := h1 hh
    have hd : decide (h = 0) = true := decide_eq_true hh
    rw [hd]
    clear h1 h2 hs hh hd
    go_enter Tryz.func72, Tryz.ntmps72
    go_wp2
    go_ret
    exact ⟨rfl, rfl⟩
  · obtain ⟨rfl, rfl⟩ := h2 hh
    have hd : decide (h = 0) = false := decide_eq_false hh
    have hz : ((nb : Int) == 0) = false := by have := hs hh; simp; omega
    rw [hd]
    clear h1 h2 hs hh hd
    go_enter Tryz.func72, Tryz.ntmps72
    go_wp2
    go_ret
    exact ⟨rfl, rfl⟩

theorem sizeE_calls (X : Nat → Prop) (h : Nat) (ve vb : Value) (xs : List ET) (s : Nat) (w : World) (hl : Ld eC X w h ve vb xs s) (hs : s ≤ 1000000) :
    Calls Tryz.prog 95 #[.agg #[ve, vb]] w fun e w' => e = .returned (.int .i64 s) ∧ Up w w' := by
  obtain ⟨ae, ne, ce, ab, nb, cb, rfl, rfl, _, _, h0, _, _⟩ := hl.slices
  have e1 : IntKind.i64.wrap ((ne : Int) + (nb : Int)) = (s : Int) := by rw [IntKind.wrap_i64]; omega
  have hu : Hid (Up w (w.alloc (.cells #[.slice ae ne ce, .slice ab nb cb] 115))) := (Up.refl w).alloc _
  clear hl h0
  go_enter Tryz.func95, Tryz.ntmps95
  go_wp2
  go_ret
  exact ⟨rfl, hu.out⟩

set_option maxHeartbeats 2000000 in
/-- Below which node a place is, and which one of its it is. -/
theorem findE_calls (X : Nat → Prop) (h b i : Nat) (ve vb : Value) (L : List (Nat × List ET)) (n : Nat) (w : World) (hc : NodeC X w b ve vb n) (hr : Rd pE X w vb (L.map (·.1))) (hk : Kids eC X w h L) (hL : L ≠ []) (hi : i ≤ (L.flatMap (·.2)).length) (hbig : (L.flatMap (·.2)).length ≤ 1000000) :
    Calls Tryz.prog 73 #[.pointer (some ⟨b, 0, none⟩), .int .i64 i] w fun e w' => FindPost L i w e w' := by
  obtain ⟨hX, c0, c1, c2⟩ := hc
  obtain ⟨a, m, c, rfl, hm, hmc⟩ := hr.sliceN
  have hm1 : m = L.length := by rw [hm.out]; simp
  have hm0 : 0 < m := by rw [hm1]; exact List.length_pos_iff.2 hL
  have HR := hide hr
  have HK := hide hk
  have HI := hide hi
  have HB := hide hbig
  have HM := hide hm1
  have hi6 : i ≤ 1000000 := Nat.le_trans hi hbig
  have hm6 : m ≤ 1000000 := by
    have h1 := flat_ge (c := 1) (L := L) (fun q hq => Nat.le_trans (by decide) (hk.some q hq))
    rw [hm1]; omega
  clear hr hk hi hbig hm1 hL hm c0 c2
  have em : IntKind.i64.wrap ((m : Int) - 1) = (m : Int) - 1 := by rw [IntKind.wrap_i64]; omega
  go_enter Tryz.func73, Tryz.ntmps73
  go_wp2_with fail
  go_loopw [1, 6] (fun iv av wr => ∃ j at_ : Nat, at_ < m ∧ iv = .int .i64 j ∧ av = .int .i64 at_ ∧ Hid (i = ((L.take at_).flatMap (·.2)).length + j) ∧ Hid (Up w wr)) (fun _ av _ => m - (intOf av).toNat)
  case atStart => exact ⟨i, 0, hm0, rfl, rfl, by unfold Hid; simp, Up.refl _⟩
  case round =>
    obtain ⟨j, at_, hat, rfl, rfl, hj, hu⟩ := hrel
    have hatL : at_ < L.length := by rw [← HM.out]; exact hat
    have hj6 : j ≤ 1000000 := by have := hj.out; omega
    replace c1 := hu.out.cell c1
    obtain ⟨g, off, rfl, hg⟩ := HR.out.get (i := at_) (by rw [List.length_map]; exact hatL)
    replace hg := hu.out.cell hg
    rw [List.getElem_map] at hg
    have hmem : L[at_] ∈ L := List.getElem_mem hatL
    have hlen4 := HK.out.some _ hmem
    obtain ⟨t, t1, t2, t3⟩ := HK.out _ hmem
    obtain ⟨ve', vb', ⟨_, _, _, d2⟩, _⟩ := nd_iff.1 t3
    replace d2 := hu.out.cell d2
    have hcat := cat_le L at_ hatL
    have hcat2 := cat_le2 L (at_ + 1) HB.out
    obtain ⟨kb, hkb⟩ : ∃ kb, kb = L[at_].1 := ⟨_, rfl⟩
    obtain ⟨kn, hkn⟩ : ∃ kn, kn = L[at_].2.length := ⟨_, rfl⟩
    rw [← hkb] at hg d2
    rw [← hkn] at d2 hcat hlen4
    have hk6 : kn ≤ 1000000 := by omega
    have HKN := hide hkn
    have HCAT := hide hcat
    have i0 : (0 : Int) ≤ (at_ : Int) := by omega
    have i1 : (at_ : Int) < (m : Int) := by omega
    unfold pE at hg
    clear hkb hkn hcat hcat2 t3 t1 t2 hmem
    have e1 : IntKind.i64.wrap ((at_ : Int) + 1) = (at_ : Int) + 1 := by rw [IntKind.wrap_i64]; omega
    by_cases hlast : at_ + 1 < m
    · have h1 : decide ((at_ : Int) < (m : Int) - 1) = true := decide_eq_true (by omega)
      have h1' : (at_ : Int) < (m : Int) - 1 := by omega
      by_cases hge : kn ≤ j
      · have h2 : decide ((j : Int) ≥ (kn : Int)) = true := decide_eq_true (by omega)
        have h2' : (j : Int) ≥ (kn : Int) := by omega
        have e2 : IntKind.i64.wrap ((j : Int) - (kn : Int)) = ((j - kn : Nat) : Int) := by rw [IntKind.wrap_i64]; omega
        go_wp2
        go_roundw
        case rel => exact ⟨j - kn, at_ + 1, hlast, by first | rfl | congr 1, by first | rfl | congr 1, by unfold Hid; rw [← HCAT.out]; have := hj.out; omega, hu⟩
        case measure => simp [intOf]; omega
      · have h2 : decide ((j : Int) ≥ (kn : Int)) = false := decide_eq_false (by omega)
        have h2' : ¬ (j : Int) ≥ (kn : Int) := by omega
        go_wp2
        go_ret2
        refine ⟨at_, j, hatL, rfl, hj.out, by rw [← HKN.out]; omega, fun _ => by rw [← HKN.out]; omega, hu.out⟩
    · have h1 : decide ((at_ : Int) < (m : Int) - 1) = false := decide_eq_false (by omega)
      have h1' : ¬ (at_ : Int) < (m : Int) - 1 := by omega
      have hfin : ((L.take (at_ + 1)).flatMap (·.2)).length = (L.flatMap (·.2)).length := by rw [List.take_of_length_le (by rw [← HM.out]; omega)]
      have HF := hide hfin
      clear hfin
      go_wp2
      go_ret2
      have a1 := HF.out
      have a2 := HCAT.out
      have a3 := hj.out
      have a4 := HI.out
      refine ⟨at_, j, hatL, rfl, hj.out, by rw [← HKN.out]; omega, fun h => by rw [← HKN.out]; omega, hu.out⟩
end Go.Proofs.YtnokokhbcfkifaaGreatDoor

namespace Go.Proofs.YtnokokhbcfkifaaGreatDoor
open Go.ChangeShapes Go.WideShapes Go.ChangeAt Go.RowKit
set_option linter.unusedVariables false
set_option maxRecDepth 100000
attribute [local go_sem ↓] Go.wp_at_zero Go.wp_at_succ

set_option maxHeartbeats 2000000 in
theorem writeE_walk (T n : Nat) (tv : Value) (X : Nat → Prop) (ae ab : Option Addr) (ne ce nb cb : Nat) (L : List (Nat × List ET)) (w : World) (hT : TrC w T tv n) (hX : X T) (hr : Rd pE X w (.slice ab nb cb) (L.map (·.1))) (hk : ∀ q ∈ L, ¬ X q.1 ∧ w.cell? ⟨q.1, 2, none⟩ = some (.int .i64 q.2.length)) (hbig : ne + (L.flatMap (·.2)).length ≤ 1000000) (hL6 : L.length ≤ 1000) (hn : n ≤ 1000000000) :
    Calls Tryz.prog 98 #[.pointer (some ⟨T, 0, none⟩), .agg #[.slice ae ne ce, .slice ab nb cb]] w fun e w' => WritePost T tv n (.slice ae ne ce) (.slice ab nb cb) (ne + (L.flatMap (·.2)).length) w e w' := by
  have hTl : T < w.heap.size := World.block_lt_of_cell? w _ hT.c0
  obtain ⟨c0, c1, f0, f1⟩ := hT
  have HR := hide hr
  have HK := hide hk
  have HB := hide hbig
  clear hr hk hbig
  have e1 : IntKind.i64.wrap ((n : Int) + 1) = ((n + 1 : Nat) : Int) := by rw [IntKind.wrap_i64]; omega
  go_enter Tryz.func98, Tryz.ntmps98
  go_wp2_with fail
  generalize hW : ((w.setCell ⟨T, 1, none⟩ (.int .i64 ((n : Int) + 1))).alloc (.cells #[.slice ae ne ce, .slice ab nb cb] 115)).alloc (.cells #[.slice ae ne ce, .slice ab nb cb, .int .i64 ne] 117) = W
  obtain ⟨hT1, n0, n1, n2, nf, hch, hsz⟩ := write_world w T n tv _ _ ne _ _ ⟨c0, c1, f0, f1⟩ W (by rw [← hW]; rfl)
  have HT := hide hT1
  have HC := hide hch
  have HS := hide hsz
  clear c0 c1 f0 f1 hT1 hch hsz hW
  obtain ⟨nbk, hnb⟩ : ∃ nbk, nbk = w.heap.size + 1 := ⟨_, rfl⟩
  rw [← hnb] at n0 n1 n2 nf ⊢
  replace hnb := hide hnb
  have hLn : nb = L.length := by
    obtain ⟨_, _, _, h1, _⟩ := HR.out.sliceN
    obtain ⟨_, _, h2, _⟩ := HR.out
    cases h2; simp
  have hnm : nb ≤ 1000000000000 := by
    rw [hLn]; exact Nat.le_trans hL6 (by decide)
  replace hLn := hide hLn
  go_loopw [24] (fun iv wr => ∃ i c : Nat, i ≤ nb ∧ c ≤ 1000000 ∧ iv = .int .i64 i ∧ Hid (c = ne + ((L.take i).flatMap (·.2)).length) ∧ wr.cell? ⟨nbk, 0, none⟩ = some (.slice ae ne ce) ∧ wr.cell? ⟨nbk, 1, none⟩ = some (.slice ab nb cb) ∧ wr.cell? ⟨nbk, 2, none⟩ = some (.int .i64 c) ∧ wr.frozen? ⟨nbk, 2, none⟩ = false ∧ Hid (TrC wr T tv (n + 1)) ∧ Hid (Chg (fun y => y = T) w wr) ∧ Hid (nbk < wr.heap.size)) (fun iv _ => nb - (intOf iv).toNat)
  case atStart => exact ⟨0, ne, Nat.zero_le _, by have := HB.out; omega, rfl, by unfold Hid; simp, n0, n1, n2, nf, HT, HC, by unfold Hid; rw [hnb.out, HS.out]; omega⟩
  case round =>
    obtain ⟨i, c, hi, hc, rfl, hcc, n0, n1, n2, nf, hT, hch, hlt⟩ := hrel
    by_cases hin : i < nb
    · have hil : i < L.length := by rw [← hLn.out]; exact hin
      obtain ⟨g, off, rfl, hg⟩ := HR.out.get (i := i) (by rw [List.length_map]; exact hil)
      rw [List.getElem_map] at hg
      obtain ⟨hxq, hq⟩ := HK.out _ (List.getElem_mem hil)
      obtain ⟨_, _, hv, _, _, hv2⟩ := HR.out
      have hgX : ¬ X g := by
        cases hv
        rcases hv2 with hv2 | ⟨g', off', h1, h2, _⟩
        · have := congrArg List.length hv2; simp at this; rw [this] at hil; simp at hil
        · cases h1; exact h2
      clear hv hv2
      replace hg := hch.out.cell hg (fun e => hgX (by rw [show g = T from e]; exact hX))
      replace hq := hch.out.cell hq (fun e => hxq (by rw [show L[i].1 = T from e]; exact hX))
      have hcat := cat_le L i hil
      have hcat2 := cat_le2 L (i + 1) (n := (L.flatMap (·.2)).length) (Nat.le_refl _)
      obtain ⟨kb, hkb⟩ : ∃ kb, kb = L[i].1 := ⟨_, rfl⟩
      obtain ⟨kn, hkn⟩ : ∃ kn, kn = L[i].2.length := ⟨_, rfl⟩
      rw [← hkb] at hg hq
      rw [← hkn] at hq hcat
      have hck : c + kn ≤ 1000000 := by have := hcc.out; have := HB.out; omega
      have HCAT := hide hcat
      have i0 : (0 : Int) ≤ (i : Int) := by omega
      have i1 : (i : Int) < (nb : Int) := by omega
      have e3 : IntKind.i64.wrap ((c : Int) + (kn : Int)) = ((c + kn : Nat) : Int) := by rw [IntKind.wrap_i64]; omega
      have e2 : IntKind.i64.wrap ((i : Int) + 1) = (i : Int) + 1 := by rw [IntKind.wrap_i64]; omega
      unfold pE at hg
      clear hkb hkn hcat hcat2 hxq hgX hil
      go_wp2_with fail
      go_region
      all_goals
        go_wp2
        go_roundw
        case rel =>
          have hq := hnb.out
          obtain ⟨m0, m1, m2, m3, m4, m5, m6⟩ := set_count (v := .int .i64 ((c : Int) + (kn : Int))) n0 n1 n2 nf hT.out hch.out hlt.out (by omega) (by omega)
          exact ⟨i + 1, c + kn, by omega, hck, by first | rfl | congr 1, by unfold Hid; rw [← HCAT.out, hcc.out]; omega, m0, m1, m2, m3, m4, m5, m6⟩
        case measure => simp [intOf]; omega
    · obtain rfl : nb = i := by omega
      have hlt' : ¬ (nb : Int) < (nb : Int) := by omega
      go_wp2
      go_ret
      refine ⟨nbk, rfl, by rw [hnb.out]; omega, hlt.out, n0, n1, ?_, hT.out, hch.out⟩
      rw [n2, hcc.out, List.take_of_length_le (by rw [← hLn.out]; exact Nat.le_refl _)]
      simp [List.length_flatMap]

/-- A node is written. -/
def WrotePostE (X : Nat → Prop) (T : Nat) (tv : Value) (n h : Nat) (xs : List ET) (s : Nat) (w : World) (e : Ending) (w' : World) : Prop :=
  ∃ b, e = .returned (pE b) ∧ Nd eC X w' h b xs s ∧ TrC w' T tv (n + 1) ∧ Chg (fun y => y = T) w w'
theorem writeE_calls (X : Nat → Prop) (T n : Nat) (tv : Value) (h : Nat) (ve vb : Value) (xs : List ET) (s : Nat) (w : World) (hT : TrC w T tv n) (hX : X T) (hXo : ∀ y, X y → y < w.heap.size) (hl : Ld eC X w h ve vb xs s) (hs : s ≤ 1000) (hbig : xs.length ≤ 1000000) (hn : n ≤ 1000000000) :
    Calls Tryz.prog 98 #[.pointer (some ⟨T, 0, none⟩), .agg #[ve, vb]] w fun e w' => WrotePostE X T tv n h xs s w e w' := by
  have hl0 := hl
  cases h with
  | zero =>
    obtain ⟨⟨ae, ce, rfl, _⟩, ⟨ab, cb, rfl, hcb⟩, rfl⟩ := hl
    refine (writeE_walk T n tv X ae ab xs.length ce 0 cb [] w hT hX ⟨ab, cb, rfl, Nat.zero_le _, hcb, .inl rfl⟩ (fun q hq => absurd hq (by simp)) (by simpa using hbig) (by simp) hn).mono ?_
    rintro e w' ⟨b, rfl, h1, h2, h3, h4, h5, h6, h7⟩
    have hc : Chg X w w' := h7.mono (fun y _ e => by rw [show y = T from e]; exact hX)
    exact ⟨b, rfl, nd_iff.2 ⟨_, _, ⟨fun hx => by have := hXo b hx; omega, h3, h4, by simpa using h5⟩, hl0.chg hc⟩, h6, h7⟩
  | succ h =>
    obtain ⟨⟨ae, ce, rfl, _⟩, L, hr, hk, rfl, rfl⟩ := hl
    have hr0 := hr
    obtain ⟨ab, cb, rfl, _⟩ := hr
    refine (writeE_walk T n tv X ae ab 0 ce _ cb L w hT hX hr0 (fun q hq => by
      obtain ⟨t, _, _, t3⟩ := hk q hq
      obtain ⟨_, _, ⟨d0, _, _, d2⟩, _⟩ := nd_iff.1 t3
      exact ⟨d0, d2⟩) (by simpa using hbig) hs hn).mono ?_
    rintro e w' ⟨b, rfl, h1, h2, h3, h4, h5, h6, h7⟩
    have hc : Chg X w w' := h7.mono (fun y _ e => by rw [show y = T from e]; exact hX)
    exact ⟨b, rfl, nd_iff.2 ⟨_, _, ⟨fun hx => by have := hXo b hx; omega, h3, h4, by rw [h5, Nat.zero_add]⟩, hl0.chg hc⟩, h6, h7⟩
end Go.Proofs.YtnokokhbcfkifaaGreatDoor

namespace Go.Proofs.YtnokokhbcfkifaaGreatDoor
open Go.ChangeShapes Go.WideShapes Go.ChangeAt Go.RowKit
set_option linter.unusedVariables false
set_option maxRecDepth 100000
attribute [local go_sem ↓] Go.wp_at_zero Go.wp_at_succ

set_option maxHeartbeats 2000000 in
theorem joinedE_walk (X : Nat → Prop) (ve vb ue ub : Value) (xs ys : List ET) (ks js : List Nat) (w : World) (h1 : RdV eC X w ve xs) (h2 : RdV eC X w ue ys) (h3 : Rd pE X w vb ks) (h4 : Rd pE X w ub js) (hx : xs.length + ys.length ≤ 1000000) (hk : ks.length + js.length ≤ 1000000) :
    Calls Tryz.prog 96 #[.agg #[ve, vb], .agg #[ue, ub]] w fun e w' => ∃ v u, e = .returned (.agg #[v, u]) ∧ OwnV 51 eC w' w.heap.size v (xs ++ ys) ∧ Own 112 pE w' w.heap.size u (ks ++ js) ∧ Up w w' := by
  obtain ⟨a1, n1, c1, rfl, -, -⟩ := h1.sliceN
  obtain ⟨a2, n2, c2, rfl, -, -⟩ := h2.sliceN
  obtain ⟨a3, n3, c3, rfl, -, -⟩ := h3.sliceN
  obtain ⟨a4, n4, c4, rfl, -, -⟩ := h4.sliceN
  have H1 := hide h1
  have H2 := hide h2
  have H3 := hide h3
  have H4 := hide h4
  clear h1 h2 h3 h4
  obtain ⟨W, hW⟩ : ∃ W, W = ((w.alloc (.cells #[.slice a1 n1 c1, .slice a3 n3 c3] 115)).alloc (.cells #[.slice a2 n2 c2, .slice a4 n4 c4] 115)).alloc (.cells #[.slice none 0 0, .slice none 0 0] 115) := ⟨_, rfl⟩
  have uW : Hid (Up w W) := by rw [hW]; exact (((Up.refl _).alloc _).alloc _).alloc _
  have l0 : W.cell? ⟨w.heap.size, 0, none⟩ = some (.slice a1 n1 c1) := by rw [hW]; go_simp
  have l1 : W.cell? ⟨w.heap.size, 1, none⟩ = some (.slice a3 n3 c3) := by rw [hW]; go_simp
  have r0 : W.cell? ⟨w.heap.size + 1, 0, none⟩ = some (.slice a2 n2 c2) := by rw [hW]; go_simp
  have r1 : W.cell? ⟨w.heap.size + 1, 1, none⟩ = some (.slice a4 n4 c4) := by rw [hW]; go_simp
  have s0 : W.cell? ⟨w.heap.size + 1 + 1, 0, none⟩ = some (.slice none 0 0) := by rw [hW]; go_simp
  have s1 : W.cell? ⟨w.heap.size + 1 + 1, 1, none⟩ = some (.slice none 0 0) := by rw [hW]; go_simp
  have f0 : W.frozen? ⟨w.heap.size + 1 + 1, 0, none⟩ = false := by rw [hW]; go_simp
  have f1 : W.frozen? ⟨w.heap.size + 1 + 1, 1, none⟩ = false := by rw [hW]; go_simp
  have hWs : w.heap.size + 1 + 1 < W.heap.size := by rw [hW]; simp
  have hWs1 : w.heap.size < W.heap.size := by omega
  have hWs2 : w.heap.size + 1 < W.heap.size := by omega
  have hW' := hW.symm
  clear hW
  go_enter Tryz.func96, Tryz.ntmps96
  go_wp2_with fail
  clear hW'
  have HK : Hid (∀ w', RB [w.heap.size + 1 + 1] W w' → RB [w.heap.size + 1 + 1] W w' ∧ w'.cell? ⟨w.heap.size, 0, none⟩ = some (.slice a1 n1 c1) ∧ w'.cell? ⟨w.heap.size, 1, none⟩ = some (.slice a3 n3 c3) ∧ w'.cell? ⟨w.heap.size + 1, 0, none⟩ = some (.slice a2 n2 c2) ∧ w'.cell? ⟨w.heap.size + 1, 1, none⟩ = some (.slice a4 n4 c4)) :=
    fun w' h => ⟨h, h.cell l0 (by simp; omega), h.cell l1 (by simp; omega), h.cell r0 (by simp), h.cell r1 (by simp)⟩
  have hk0 : RB [w.heap.size + 1 + 1] W W := ⟨Chg.refl _ _, fun r hr => by obtain rfl := List.mem_singleton.1 hr; exact ⟨by rw [s0]; rfl, by rw [s1]; rfl, f0, f1⟩⟩
  have HB : Hid (∀ w', RB [w.heap.size + 1 + 1] W w' → Up w w') := fun w' h => h.below uW.out (fun r hr => by obtain rfl := List.mem_singleton.1 hr; omega)
  clear l0 l1 r0 r1 s0 s1 f0 f1
  go_region_held3 (fun w' => RB [w.heap.size + 1 + 1] W w' ∧ w'.cell? ⟨w.heap.size, 0, none⟩ = some (.slice a1 n1 c1) ∧ w'.cell? ⟨w.heap.size, 1, none⟩ = some (.slice a3 n3 c3) ∧ w'.cell? ⟨w.heap.size + 1, 0, none⟩ = some (.slice a2 n2 c2) ∧ w'.cell? ⟨w.heap.size + 1, 1, none⟩ = some (.slice a4 n4 c4)) (exact HK.out _ (by repeat' (with_reducible first | assumption | apply RB.alloc | apply RB.drew | exact RB.set (RB.set (by with_reducible assumption) (by simp) _) (by simp) _)))
    (first
      | (go_at_call 104; refine (concatE_two _ (.slice a1 n1 c1) (.slice a2 n2 c2) xs ys X _ (by go_simp) (by go_simp) (H1.out.up (HB.out _ (by repeat' (with_reducible first | assumption | apply RB.alloc | apply RB.drew | exact RB.set (RB.set (by with_reducible assumption) (by simp) _) (by simp) _)))) (H2.out.up (HB.out _ (by repeat' (with_reducible first | assumption | apply RB.alloc | apply RB.drew | exact RB.set (RB.set (by with_reducible assumption) (by simp) _) (by simp) _)))) hx).mono ?_; rintro _ w5 ⟨v5, rfl, ho5, hu5⟩; have hk5 : RB [w.heap.size + 1 + 1] W w5 := RB.up (by repeat' (with_reducible first | assumption | apply RB.alloc | apply RB.drew | exact RB.set (RB.set (by with_reducible assumption) (by simp) _) (by simp) _)) hu5; obtain ⟨a5, n5, c5, rfl, -, -⟩ := ho5.sliceN; replace ho5 := hide (ho5.base (RB.chg (by repeat' (with_reducible first | assumption | apply RB.alloc | apply RB.drew | exact RB.set (RB.set (by with_reducible assumption) (by simp) _) (by simp) _))).size))
      | (go_at_call 97; refine (concatPE_two _ (.slice a3 n3 c3) (.slice a4 n4 c4) ks js X _ (by first | (go_simp; done) | exact hu5.cell (by go_simp)) (by first | (go_simp; done) | exact hu5.cell (by go_simp)) (H3.out.up (HB.out _ (by repeat' (with_reducible first | assumption | apply RB.alloc | apply RB.drew | exact RB.set (RB.set (by with_reducible assumption) (by simp) _) (by simp) _)))) (H4.out.up (HB.out _ (by repeat' (with_reducible first | assumption | apply RB.alloc | apply RB.drew | exact RB.set (RB.set (by with_reducible assumption) (by simp) _) (by simp) _)))) hk).mono ?_; rintro _ w6 ⟨v6, rfl, ho6, hu6⟩; have hk6 : RB [w.heap.size + 1 + 1] W w6 := RB.up (by repeat' (with_reducible first | assumption | apply RB.alloc | apply RB.drew | exact RB.set (RB.set (by with_reducible assumption) (by simp) _) (by simp) _)) hu6; have hj6 : Up w5 w6 := Up.trans (by repeat' (with_reducible first | assumption | exact Up.refl _ | apply Up.alloc | apply Up.drew)) hu6; obtain ⟨a6, n6, c6, rfl, -, -⟩ := ho6.sliceN; replace ho6 := hide (ho6.base (RB.chg (by repeat' (with_reducible first | assumption | apply RB.alloc | apply RB.drew | exact RB.set (RB.set (by with_reducible assumption) (by simp) _) (by simp) _))).size); clear hu6; have hb6 := hk6.box (w.heap.size + 1 + 1) (by simp); obtain ⟨x0, g0⟩ := Option.isSome_iff_exists.1 hb6.1; obtain ⟨x1, g1⟩ := Option.isSome_iff_exists.1 hb6.2.1; have g2 := hb6.2.2.1; have g3 := hb6.2.2.2; clear hb6))
  all_goals
    have k0 : ((w6.setCell ⟨w.heap.size + 1 + 1, 0, none⟩ (.slice a5 n5 c5)).setCell ⟨w.heap.size + 1 + 1, 1, none⟩ (.slice a6 n6 c6)).cell? ⟨w.heap.size + 1 + 1, 0, none⟩ = some (.slice a5 n5 c5) := by
      rw [World.cell?_setCell_other _ _ _ _ (by intro e; cases e)]; exact World.cell?_setCell_same _ _ _ g0
    have k1 : ((w6.setCell ⟨w.heap.size + 1 + 1, 0, none⟩ (.slice a5 n5 c5)).setCell ⟨w.heap.size + 1 + 1, 1, none⟩ (.slice a6 n6 c6)).cell? ⟨w.heap.size + 1 + 1, 1, none⟩ = some (.slice a6 n6 c6) :=
      World.cell?_setCell_same _ _ _ (u := x1) (by rw [World.cell?_setCell_other _ _ _ _ (by intro e; cases e)]; exact g1)
    have hF := hide (RB.set (RB.set hk6 (p := ⟨w.heap.size + 1 + 1, 0, none⟩) (by simp) (.slice a5 n5 c5)) (p := ⟨w.heap.size + 1 + 1, 1, none⟩) (by simp) (.slice a6 n6 c6))
    have hY := hide (((Chg.refl (fun y => y = w.heap.size + 1 + 1) w6).set (C := fun y => y = w.heap.size + 1 + 1) (p := ⟨w.heap.size + 1 + 1, 0, none⟩) (fun _ => rfl) (.slice a5 n5 c5)).set (C := fun y => y = w.heap.size + 1 + 1) (p := ⟨w.heap.size + 1 + 1, 1, none⟩) (fun _ => rfl) (.slice a6 n6 c6))
    have hJ := hide hj6
    clear hk5 hk6 g0 g1 g2 g3 hk0 hj6
    generalize (w6.setCell ⟨w.heap.size + 1 + 1, 0, none⟩ (.slice a5 n5 c5)).setCell ⟨w.heap.size + 1 + 1, 1, none⟩ (.slice a6 n6 c6) = Y at *
    go_wp2
    refine bodyPost_ret (v := .agg #[.slice a5 n5 c5, .slice a6 n6 c6]) (by simp [results, Tryz.results96, go_sem, k0, k1]) rfl ⟨_, _, rfl, ?_, ?_, HB.out _ hF.out⟩
    · exact ((ho5.out.up hJ.out).chg hY.out (fun g hg e => by have := (ho5.out.lt g hg).1; omega)).base uW.out.size
    · exact (ho6.out.chg hY.out (fun g hg e => by have := (ho6.out.lt g hg).1; omega)).base uW.out.size
end Go.Proofs.YtnokokhbcfkifaaGreatDoor

namespace Go.Proofs.YtnokokhbcfkifaaGreatDoor
open Go.ChangeShapes Go.WideShapes Go.ChangeAt Go.RowKit
set_option linter.unusedVariables false
set_option maxRecDepth 100000
attribute [local go_sem ↓] Go.wp_at_zero Go.wp_at_succ

set_option maxHeartbeats 4000000 in
theorem halvesE_walk (X : Nat → Prop) (ve vb : Value) (xs : List ET) (ks : List Nat) (w : World) (h1 : RdV eC X w ve xs) (h3 : Rd pE X w vb ks) (hx : xs.length ≤ 1000000) (hk : ks.length ≤ 1000000) :
    Calls Tryz.prog 99 #[.agg #[ve, vb]] w fun e w' => ∃ v1 u1 v2 u2, e = .returned (.tuple #[.agg #[v1, u1], .agg #[v2, u2]]) ∧ OwnV 51 eC w' w.heap.size v1 (xs.take (xs.length / 2)) ∧ Own 112 pE w' w.heap.size u1 (ks.take (ks.length / 2)) ∧ OwnV 51 eC w' w.heap.size v2 (xs.drop (xs.length / 2)) ∧ Own 112 pE w' w.heap.size u2 (ks.drop (ks.length / 2)) ∧ Up w w' := by
  obtain ⟨a1, n1, c1, rfl, e1, e1c⟩ := h1.sliceN
  obtain ⟨a3, n3, c3, rfl, e3, e3c⟩ := h3.sliceN
  have H1 := hide h1
  have H3 := hide h3
  clear h1 h3
  obtain ⟨W, hW⟩ : ∃ W, W = ((w.alloc (.cells #[.slice a1 n1 c1, .slice a3 n3 c3] 115)).alloc (.cells #[.slice none 0 0, .slice none 0 0] 115)).alloc (.cells #[.slice none 0 0, .slice none 0 0] 115) := ⟨_, rfl⟩
  have uW : Hid (Up w W) := by rw [hW]; exact (((Up.refl _).alloc _).alloc _).alloc _
  have l0 : W.cell? ⟨w.heap.size, 0, none⟩ = some (.slice a1 n1 c1) := by rw [hW]; go_simp
  have l1 : W.cell? ⟨w.heap.size, 1, none⟩ = some (.slice a3 n3 c3) := by rw [hW]; go_simp
  have hk0 : RB [w.heap.size + 1, w.heap.size + 1 + 1] W W := ⟨Chg.refl _ _, fun r hr => by
    rw [hW]
    rcases List.mem_cons.1 hr with rfl | hr
    · exact ⟨by go_simp, by go_simp, by go_simp, by go_simp⟩
    · obtain rfl := List.mem_singleton.1 hr
      exact ⟨by go_simp, by go_simp, by go_simp, by go_simp⟩⟩
  have hWs : w.heap.size + 1 + 1 < W.heap.size := by rw [hW]; simp
  have hWs1 : w.heap.size < W.heap.size := by omega
  have hWs2 : w.heap.size + 1 < W.heap.size := by omega
  have hW' := hW.symm
  clear hW
  obtain ⟨m1, hm1⟩ : ∃ m, m = n1 / 2 := ⟨_, rfl⟩
  obtain ⟨m3, hm3⟩ : ∃ m, m = n3 / 2 := ⟨_, rfl⟩
  have hm1' : n1 / 2 = m1 := hm1.symm
  have hm3' : n3 / 2 = m3 := hm3.symm
  have q1 : (n1 : Int) / 2 = (m1 : Int) := by omega
  have q3 : (n3 : Int) / 2 = (m3 : Int) := by omega
  have q1' : (n1 : Int).tdiv 2 = (m1 : Int) := by rw [Int.tdiv_eq_ediv_of_nonneg (by omega)]; exact q1
  have q3' : (n3 : Int).tdiv 2 = (m3 : Int) := by rw [Int.tdiv_eq_ediv_of_nonneg (by omega)]; exact q3
  have b1 : (0 : Int) ≤ (m1 : Int) := by omega
  have b2 : (m1 : Int) ≤ (n1 : Int) := by omega
  have b3 : (m1 : Int) ≤ (c1 : Int) := by have := e1c.out; omega
  have b4 : (0 : Int) ≤ (m3 : Int) := by omega
  have b5 : (m3 : Int) ≤ (n3 : Int) := by omega
  have b6 : (m3 : Int) ≤ (c3 : Int) := by have := e3c.out; omega
  replace hm1 := hide hm1
  replace hm3 := hide hm3
  have HK : Hid (∀ w', RB [w.heap.size + 1, w.heap.size + 1 + 1] W w' → RB [w.heap.size + 1, w.heap.size + 1 + 1] W w' ∧ w'.cell? ⟨w.heap.size, 0, none⟩ = some (.slice a1 n1 c1) ∧ w'.cell? ⟨w.heap.size, 1, none⟩ = some (.slice a3 n3 c3)) :=
    fun w' h => ⟨h, h.cell l0 (by simp; omega), h.cell l1 (by simp; omega)⟩
  have HB : Hid (∀ w', RB [w.heap.size + 1, w.heap.size + 1 + 1] W w' → Up w w') := fun w' h => h.below uW.out (fun r hr => by
    rcases List.mem_cons.1 hr with rfl | hr
    · omega
    · obtain rfl := List.mem_singleton.1 hr; omega)
  go_enter Tryz.func99, Tryz.ntmps99
  go_wp2_with fail
  clear hW'
  go_quiet (fail)
  go_wp2_with fail
  have ew1 : wrap64 (m1 : Int) = (m1 : Int) := wrap64_id _ (by have := e1.out; omega)
  have ew3 : wrap64 (m3 : Int) = (m3 : Int) := wrap64_id _ (by have := e3.out; omega)
  rw [ew1, ew3]
  have hk1 : RB [w.heap.size + 1, w.heap.size + 1 + 1] W (W.drewN nq) := hk0.up ((Up.refl W).drewN nq)
  clear l0 l1 hk0 ew1 ew3 q1 q1' q3 q3' hm1' hm3'
  generalize W.drewN nq = W2 at *
  obtain ⟨A1, hA1⟩ : ∃ A, (if c1 = m1 then a1 else Option.map (fun x => x.add (m1 * 2)) a1) = A := ⟨_, rfl⟩
  obtain ⟨A3, hA3⟩ : ∃ A, (if c3 = m3 then a3 else Option.map (fun x => x.add m3) a3) = A := ⟨_, rfl⟩
  have HD1 : Hid (RdV eC X w (.slice A1 (n1 - m1) (c1 - m1)) (xs.drop m1)) := by
    have := H1.out.drop (m := m1) (by omega)
    rw [hA1] at this
    exact this
  have HD3 : Hid (Rd pE X w (.slice A3 (n3 - m3) (c3 - m3)) (ks.drop m3)) := by
    have := H3.out.drop (m := m3) (by omega)
    rw [Nat.mul_one, hA3] at this
    exact this
  have tok1 : True := trivial
  have tok2 : True := trivial
  have tok3 : True := trivial
  have tok4 : True := trivial
  go_region_held3 (fun w' => RB [w.heap.size + 1, w.heap.size + 1 + 1] W w' ∧ w'.cell? ⟨w.heap.size, 0, none⟩ = some (.slice a1 n1 c1) ∧ w'.cell? ⟨w.heap.size, 1, none⟩ = some (.slice a3 n3 c3)) (exact HK.out _ (by repeat' (with_reducible first | assumption | apply RB.alloc | apply RB.drew | exact RB.set (RB.set (by with_reducible assumption) (by simp) _) (by simp) _ | exact RB.set (RB.set (RB.set (RB.set (by with_reducible assumption) (by simp) _) (by simp) _) (by simp) _) (by simp) _)))
    (first
      | (clear tok1; go_at_call 94; refine (cloneE_calls _ (xs.take m1) X _ (RdV.take (H1.out.up (HB.out _ (by repeat' (with_reducible first | assumption | apply RB.alloc | apply RB.drew | exact RB.set (RB.set (by with_reducible assumption) (by simp) _) (by simp) _ | exact RB.set (RB.set (RB.set (RB.set (by with_reducible assumption) (by simp) _) (by simp) _) (by simp) _) (by simp) _)))) (by omega)) (by simp; omega)).mono ?_; rintro _ w5 ⟨v5, rfl, ho5, hu5⟩; have hk5 : RB [w.heap.size + 1, w.heap.size + 1 + 1] W w5 := RB.up (by repeat' (with_reducible first | assumption | apply RB.alloc | apply RB.drew | exact RB.set (RB.set (by with_reducible assumption) (by simp) _) (by simp) _ | exact RB.set (RB.set (RB.set (RB.set (by with_reducible assumption) (by simp) _) (by simp) _) (by simp) _) (by simp) _)) hu5; obtain ⟨a5, n5, d5, rfl, -, -⟩ := ho5.sliceN; replace ho5 := hide (ho5.base (RB.chg (by repeat' (with_reducible first | assumption | apply RB.alloc | apply RB.drew | exact RB.set (RB.set (by with_reducible assumption) (by simp) _) (by simp) _ | exact RB.set (RB.set (RB.set (RB.set (by with_reducible assumption) (by simp) _) (by simp) _) (by simp) _) (by simp) _))).size); clear hu5)
      | (clear tok2; go_at_call 106; refine (clonePE_calls _ (ks.take m3) X _ (Rd.take (H3.out.up (HB.out _ (by repeat' (with_reducible first | assumption | apply RB.alloc | apply RB.drew | exact RB.set (RB.set (by with_reducible assumption) (by simp) _) (by simp) _ | exact RB.set (RB.set (RB.set (RB.set (by with_reducible assumption) (by simp) _) (by simp) _) (by simp) _) (by simp) _)))) (by omega)) (by simp; omega)).mono ?_; rintro _ w6 ⟨v6, rfl, ho6, hu6⟩; have hk6 : RB [w.heap.size + 1, w.heap.size + 1 + 1] W w6 := RB.up (by repeat' (with_reducible first | assumption | apply RB.alloc | apply RB.drew | exact RB.set (RB.set (by with_reducible assumption) (by simp) _) (by simp) _ | exact RB.set (RB.set (RB.set (RB.set (by with_reducible assumption) (by simp) _) (by simp) _) (by simp) _) (by simp) _)) hu6; obtain ⟨a6, n6, d6, rfl, -, -⟩ := ho6.sliceN; replace ho6 := hide (ho6.base (RB.chg (by repeat' (with_reducible first | assumption | apply RB.alloc | apply RB.drew | exact RB.set (RB.set (by with_reducible assumption) (by simp) _) (by simp) _ | exact RB.set (RB.set (RB.set (RB.set (by with_reducible assumption) (by simp) _) (by simp) _) (by simp) _) (by simp) _))).size); have hj6 : Up w5 w6 := Up.trans (by repeat' (with_reducible first | assumption | exact Up.refl _ | apply Up.alloc | apply Up.drew)) hu6; clear hu6)
      | (clear tok3; go_at_call 94; refine (cloneE_calls _ (xs.drop m1) X _ (HD1.out.up (HB.out _ (by repeat' (with_reducible first | assumption | apply RB.alloc | apply RB.drew | exact RB.set (RB.set (by with_reducible assumption) (by simp) _) (by simp) _ | exact RB.set (RB.set (RB.set (RB.set (by with_reducible assumption) (by simp) _) (by simp) _) (by simp) _) (by simp) _)))) (by simp; omega)).mono ?_; rintro _ w7 ⟨v7, rfl, ho7, hu7⟩; have hk7 : RB [w.heap.size + 1, w.heap.size + 1 + 1] W w7 := RB.up (by repeat' (with_reducible first | assumption | apply RB.alloc | apply RB.drew | exact RB.set (RB.set (by with_reducible assumption) (by simp) _) (by simp) _ | exact RB.set (RB.set (RB.set (RB.set (by with_reducible assumption) (by simp) _) (by simp) _) (by simp) _) (by simp) _)) hu7; obtain ⟨a7, n7, d7, rfl, -, -⟩ := ho7.sliceN; replace ho7 := hide (ho7.base (RB.chg (by repeat' (with_reducible first | assumption | apply RB.alloc | apply RB.drew | exact RB.set (RB.set (by with_reducible assumption) (by simp) _) (by simp) _ | exact RB.set (RB.set (RB.set (RB.set (by with_reducible assumption) (by simp) _) (by simp) _) (by simp) _) (by simp) _))).size); have hj7 : Up w6 w7 := Up.trans (by repeat' (with_reducible first | assumption | exact Up.refl _ | apply Up.alloc | apply Up.drew)) hu7; clear hu7)
      | (clear tok4; go_at_call 106; refine (clonePE_calls _ (ks.drop m3) X _ (HD3.out.up (HB.out _ (by repeat' (with_reducible first | assumption | apply RB.alloc | apply RB.drew | exact RB.set (RB.set (by with_reducible assumption) (by simp) _) (by simp) _ | exact RB.set (RB.set (RB.set (RB.set (by with_reducible assumption) (by simp) _) (by simp) _) (by simp) _) (by simp) _)))) (by simp; omega)).mono ?_; rintro _ w8 ⟨v8, rfl, ho8, hu8⟩; have hk8 : RB [w.heap.size + 1, w.heap.size + 1 + 1] W w8 := RB.up (by repeat' (with_reducible first | assumption | apply RB.alloc | apply RB.drew | exact RB.set (RB.set (by with_reducible assumption) (by simp) _) (by simp) _ | exact RB.set (RB.set (RB.set (RB.set (by with_reducible assumption) (by simp) _) (by simp) _) (by simp) _) (by simp) _)) hu8; obtain ⟨a8, n8, d8, rfl, -, -⟩ := ho8.sliceN; replace ho8 := hide (ho8.base (RB.chg (by repeat' (with_reducible first | assumption | apply RB.alloc | apply RB.drew | exact RB.set (RB.set (by with_reducible assumption) (by simp) _) (by simp) _ | exact RB.set (RB.set (RB.set (RB.set (by with_reducible assumption) (by simp) _) (by simp) _) (by simp) _) (by simp) _))).size); have hj8 : Up w7 w8 := Up.trans (by repeat' (with_reducible first | assumption | exact Up.refl _ | apply Up.alloc | apply Up.drew)) hu8; clear hu8; have hb8 := hk8.box (w.heap.size + 1) (by simp); obtain ⟨x0, g0⟩ := Option.isSome_iff_exists.1 hb8.1; obtain ⟨x1, g1⟩ := Option.isSome_iff_exists.1 hb8.2.1; have g2 := hb8.2.2.1; have g3 := hb8.2.2.2; clear hb8; have hb9 := hk8.box (w.heap.size + 1 + 1) (by simp); obtain ⟨x2, g4⟩ := Option.isSome_iff_exists.1 hb9.1; obtain ⟨x3, g5⟩ := Option.isSome_iff_exists.1 hb9.2.1; have g6 := hb9.2.2.1; have g7 := hb9.2.2.2; clear hb9))
  all_goals
    change Exit.then _ _ _ _ (set2 (set2 w8 (w.heap.size + 1) (.slice a5 n5 d5) (.slice a6 n6 d6)) (w.heap.size + 1 + 1) (.slice a7 n7 d7) (.slice a8 n8 d8))
    have s1 := set2_chg w8 (w.heap.size + 1) (.slice a5 n5 d5) (.slice a6 n6 d6)
    have s2 := set2_chg (set2 w8 (w.heap.size + 1) (.slice a5 n5 d5) (.slice a6 n6 d6)) (w.heap.size + 1 + 1) (.slice a7 n7 d7) (.slice a8 n8 d8)
    have k0 := s2.cell (set2_c0 (x := .slice a5 n5 d5) (y := .slice a6 n6 d6) g0) (by simp)
    have k1 := s2.cell (set2_c1 (x := .slice a5 n5 d5) (y := .slice a6 n6 d6) g1) (by simp)
    have k2 := set2_c0 (x := .slice a7 n7 d7) (y := .slice a8 n8 d8) (s1.cell g4 (by simp))
    have k3 := set2_c1 (x := .slice a7 n7 d7) (y := .slice a8 n8 d8) (s1.cell g5 (by simp))
    have hF := hide ((hk8.set2 (R := w.heap.size + 1) (by simp) (.slice a5 n5 d5) (.slice a6 n6 d6)).set2 (R := w.heap.size + 1 + 1) (by simp) (.slice a7 n7 d7) (.slice a8 n8 d8))
    have hY := hide ((s1.mono (D := fun y => y = w.heap.size + 1 ∨ y = w.heap.size + 1 + 1) (fun _ _ h => .inl h)).trans s2 (fun _ _ h => .inr h))
    have hJ6 := hide hj6
    have hJ7 := hide hj7
    have hJ8 := hide hj8
    clear hk5 hk6 hk7 hk8 g0 g1 g2 g3 g4 g5 g6 g7 hj6 hj7 hj8 s1 s2
    generalize set2 (set2 w8 (w.heap.size + 1) (.slice a5 n5 d5) (.slice a6 n6 d6)) (w.heap.size + 1 + 1) (.slice a7 n7 d7) (.slice a8 n8 d8) = Y at *
    go_wp2
    refine bodyPost_ret (v := .tuple #[.agg #[.slice a5 n5 d5, .slice a6 n6 d6], .agg #[.slice a7 n7 d7, .slice a8 n8 d8]]) (by simp [results, Tryz.results99, go_sem, k0, k1, k2, k3]) rfl ⟨_, _, _, _, rfl, ?_, ?_, ?_, ?_, HB.out _ hF.out⟩
    · rw [← e1.out, ← hm1.out]
      exact ((ho5.out.up (hJ6.out.trans (hJ7.out.trans hJ8.out))).chg hY.out (fun g hg e => by have := (ho5.out.lt g hg).1; omega)).base uW.out.size
    · rw [← e3.out, ← hm3.out]
      exact ((ho6.out.up (hJ7.out.trans hJ8.out)).chg hY.out (fun g hg e => by have := (ho6.out.lt g hg).1; omega)).base uW.out.size
    · rw [← e1.out, ← hm1.out]
      exact ((ho7.out.up hJ8.out).chg hY.out (fun g hg e => by have := (ho7.out.lt g hg).1; omega)).base uW.out.size
    · rw [← e3.out, ← hm3.out]
      exact (ho8.out.chg hY.out (fun g hg e => by have := (ho8.out.lt g hg).1; omega)).base uW.out.size
end Go.Proofs.YtnokokhbcfkifaaGreatDoor

namespace Go.Proofs.YtnokokhbcfkifaaGreatDoor
open Go.ChangeShapes Go.WideShapes Go.ChangeAt Go.RowKit
set_option linter.unusedVariables false
set_option maxRecDepth 100000
attribute [local go_sem ↓] Go.wp_at_zero Go.wp_at_succ

theorem joinedE_calls (X : Nat → Prop) (h : Nat) (ve vb ue ub : Value) (xs ys : List ET) (s t : Nat) (w : World) (hXo : ∀ y, X y → y < w.heap.size) (h1 : Ld eC X w h ve vb xs s) (h2 : Ld eC X w h ue ub ys t) (hx : xs.length + ys.length ≤ 1000000) (hk : s + t ≤ 1000000) :
    Calls Tryz.prog 96 #[.agg #[ve, vb], .agg #[ue, ub]] w fun e w' => ∃ v u, e = .returned (.agg #[v, u]) ∧ Ld eC X w' h v u (xs ++ ys) (s + t) ∧ Up w w' := by
  have key : ∀ {w' : World} {v : Value} {g : Nat} {base : Nat} {e : TypeId} {β : Type} {enc : β → Value} {l : List β}, Own e enc w' w.heap.size v l → v.ownBlock = some g → ¬ X g := fun ho hg hx => by
    have := (ho.lt _ hg).1; have := hXo _ hx; omega
  cases h with
  | zero =>
    obtain ⟨r1, e1, rfl⟩ := h1
    obtain ⟨r2, e2, rfl⟩ := h2
    refine (joinedE_walk X ve vb ue ub xs ys [] [] w r1 r2 e1.rd e2.rd hx (by simp)).mono ?_
    rintro e w' ⟨v, u, rfl, ho, hp, hu⟩
    exact ⟨v, u, rfl, ⟨ho.rd (fun g hg hx => by have := (ho.lt _ hg).1; have := hXo _ hx; omega), (hp.rd (X := X) (fun g hg hx => by have := (hp.lt _ hg).1; have := hXo _ hx; omega)).emp, by simp⟩, hu⟩
  | succ h =>
    obtain ⟨e1, L1, r1, k1, rfl, rfl⟩ := h1
    obtain ⟨e2, L2, r2, k2, rfl, rfl⟩ := h2
    refine (joinedE_walk X ve vb ue ub [] [] (L1.map (·.1)) (L2.map (·.1)) w e1.rdV e2.rdV r1 r2 (by simp) (by simpa using hk)).mono ?_
    rintro e w' ⟨v, u, rfl, ho, hp, hu⟩
    refine ⟨v, u, rfl, ⟨(ho.rd (X := X) (fun g hg hx => by have := (ho.lt _ hg).1; have := hXo _ hx; omega)).emp, L1 ++ L2, ?_, fun q hq => ?_, by simp, by simp⟩, hu⟩
    · rw [List.map_append]
      exact hp.rd (fun g hg hx => by have := (hp.lt _ hg).1; have := hXo _ hx; omega)
    · rcases List.mem_append.1 hq with hq | hq
      · exact (k1.chg (Chg.of_up hu)) q hq
      · exact (k2.chg (Chg.of_up hu)) q hq

/-- What halves tells. -/
def HalvesPostE (X : Nat → Prop) (h : Nat) (xs : List ET) (s : Nat) (w : World) (e : Ending) (w' : World) : Prop :=
  ∃ v1 u1 v2 u2 ys zs, e = .returned (.tuple #[.agg #[v1, u1], .agg #[v2, u2]]) ∧ Ld eC X w' h v1 u1 ys (s / 2) ∧ Ld eC X w' h v2 u2 zs (s - s / 2) ∧ xs = ys ++ zs ∧ Up w w'
theorem halvesE_calls (X : Nat → Prop) (h : Nat) (ve vb : Value) (xs : List ET) (s : Nat) (w : World) (hXo : ∀ y, X y → y < w.heap.size) (h1 : Ld eC X w h ve vb xs s) (hx : xs.length ≤ 1000000) (hk : s ≤ 1000000) :
    Calls Tryz.prog 99 #[.agg #[ve, vb]] w fun e w' => HalvesPostE X h xs s w e w' := by
  cases h with
  | zero =>
    obtain ⟨r1, e1, rfl⟩ := h1
    refine (halvesE_walk X ve vb xs [] w r1 e1.rd hx (by simp)).mono ?_
    rintro e w' ⟨v1, u1, v2, u2, rfl, ho1, hp1, ho2, hp2, hu⟩
    refine ⟨v1, u1, v2, u2, _, _, rfl, ⟨ho1.rd (fun g hg hx => by have := (ho1.lt _ hg).1; have := hXo _ hx; omega), (hp1.rd (X := X) (fun g hg hx => by have := (hp1.lt _ hg).1; have := hXo _ hx; omega)).emp, ?_⟩, ⟨ho2.rd (fun g hg hx => by have := (ho2.lt _ hg).1; have := hXo _ hx; omega), (hp2.rd (X := X) (fun g hg hx => by have := (hp2.lt _ hg).1; have := hXo _ hx; omega)).emp, ?_⟩, (List.take_append_drop _ _).symm, hu⟩
    · rw [List.length_take]; omega
    · rw [List.length_drop]
  | succ h =>
    obtain ⟨e1, L, r1, k1, rfl, rfl⟩ := h1
    refine (halvesE_walk X ve vb [] (L.map (·.1)) w e1.rdV r1 (by simp) (by simpa using hk)).mono ?_
    rintro e w' ⟨v1, u1, v2, u2, rfl, ho1, hp1, ho2, hp2, hu⟩
    rw [List.length_map] at hp1 hp2
    refine ⟨v1, u1, v2, u2, (L.take (L.length / 2)).flatMap (·.2), (L.drop (L.length / 2)).flatMap (·.2), rfl, ⟨(ho1.rd (X := X) (fun g hg hx => by have := (ho1.lt _ hg).1; have := hXo _ hx; omega)).emp, L.take (L.length / 2), ?_, fun q hq => ?_, rfl, ?_⟩, ⟨(ho2.rd (X := X) (fun g hg hx => by have := (ho2.lt _ hg).1; have := hXo _ hx; omega)).emp, L.drop (L.length / 2), ?_, fun q hq => ?_, rfl, ?_⟩, ?_, hu⟩
    · rw [List.map_take]
      exact hp1.rd (fun g hg hx => by have := (hp1.lt _ hg).1; have := hXo _ hx; omega)
    · exact (k1.chg (Chg.of_up hu)) q (List.mem_of_mem_take hq)
    · rw [List.length_take]; omega
    · rw [List.map_drop]
      exact hp2.rd (fun g hg hx => by have := (hp2.lt _ hg).1; have := hXo _ hx; omega)
    · exact (k1.chg (Chg.of_up hu)) q (List.mem_of_mem_drop hq)
    · rw [List.length_drop]
    · rw [← List.flatMap_append, List.take_append_drop]

/-- What nodes tells: one node, or two. -/
def NodesPostE (X : Nat → Prop) (T : Nat) (tv : Value) (n h : Nat) (xs : List ET) (s : Nat) (w : World) (e : Ending) (w' : World) : Prop :=
  ∃ (v : Value) (L : List (Nat × List ET)), e = .returned v ∧ Own 112 pE w' w.heap.size v (L.map (·.1)) ∧ (∀ q ∈ L, ∃ t, Nd eC X w' h q.1 q.2 t ∧ t ≤ 8 ∧ (4 ≤ s → 4 ≤ t) ∧ (s ≤ 8 → t = s)) ∧ L.flatMap (·.2) = xs ∧ (s ≤ 8 → L.length = 1) ∧ (8 < s → L.length = 2) ∧ TrC w' T tv (n + L.length) ∧ Chg (fun y => y = T) w w'
set_option maxHeartbeats 2000000 in
theorem nodesE_one (X : Nat → Prop) (T n : Nat) (tv : Value) (h : Nat) (ve vb : Value) (xs : List ET) (s : Nat) (w : World) (hT : TrC w T tv n) (hX : X T) (hXo : ∀ y, X y → y < w.heap.size) (hl : Ld eC X w h ve vb xs s) (hs : s ≤ 8) (hbig : xs.length ≤ 1000000) (hn : n ≤ 100000000) :
    Calls Tryz.prog 81 #[.pointer (some ⟨T, 0, none⟩), .agg #[ve, vb]] w fun e w' => NodesPostE X T tv n h xs s w e w' := by
  have hX1 := hX
  have HT := hide hT
  have HO := hide hXo
  have HL := hide hl
  have hTl : T < w.heap.size := World.block_lt_of_cell? w _ hT.c0
  clear hT hXo hl
  obtain ⟨ae, ne, ce, ab, nb, cb, rfl, rfl, -, -, -, -, -⟩ := HL.out.slices
  have hd : decide ((s : Int) ≤ 8) = true := decide_eq_true (by omega)
  have hd' : (s : Int) ≤ 8 := by omega
  obtain ⟨W, hW⟩ : ∃ W, W = w.alloc (.cells #[.slice ae ne ce, .slice ab nb cb] 115) := ⟨_, rfl⟩
  have uW : Hid (Up w W) := by rw [hW]; exact (Up.refl _).alloc _
  have l0 : W.cell? ⟨w.heap.size, 0, none⟩ = some (.slice ae ne ce) := by rw [hW]; go_simp
  have l1 : W.cell? ⟨w.heap.size, 1, none⟩ = some (.slice ab nb cb) := by rw [hW]; go_simp
  have hW' := hW.symm
  clear hW
  go_enter Tryz.func81, Tryz.ntmps81
  go_wp2_with (go_at_call 95; refine (sizeE_calls X h _ _ xs s _ (HL.out.chg (Chg.of_up uW.out)) (by omega)).mono ?_; rintro _ w1 ⟨rfl, hu1⟩; replace l0 := hu1.cell l0; replace l1 := hu1.cell l1; have u1 := hide (uW.out.trans hu1); clear hu1)
  refine (writeE_calls X T n tv h _ _ xs s _ (HT.out.up u1.out) hX (fun y hy => Nat.lt_of_lt_of_le (HO.out y hy) u1.out.size) (HL.out.chg (Chg.of_up u1.out)) (by omega) hbig (by omega)).mono ?_
  rintro _ w2 ⟨b, rfl, hnd, htc, hch⟩
  have HN := hide hnd
  have HC := hide htc
  have HG := hide hch
  clear hnd htc hch l0 l1
  have HR := hide (Own.new1 (e := 112) (enc := pE) w2 b)
  unfold pE
  go_wp2
  go_ret
  have hu2 : Up w2 (w2.alloc (.cells #[pE b] 112)) := (Up.refl _).alloc _
  have hcw : Chg (fun y => y = T) w w2 := (Chg.of_up u1.out).trans HG.out (fun _ _ h => h)
  refine ⟨_, [(b, xs)], rfl, HR.out.base hcw.size, fun q hq => ?_, by simp, fun _ => rfl, fun h => absurd h (by omega), HC.out.up hu2, hcw.andUp hu2⟩
  obtain rfl := List.mem_singleton.1 hq
  exact ⟨s, HN.out.chg (Chg.of_up hu2), hs, fun h => h, fun _ => rfl⟩
set_option maxHeartbeats 2000000 in
theorem nodesE_two (X : Nat → Prop) (T n : Nat) (tv : Value) (h : Nat) (ve vb : Value) (xs : List ET) (s : Nat) (w : World) (hT : TrC w T tv n) (hX : X T) (hXo : ∀ y, X y → y < w.heap.size) (hl : Ld eC X w h ve vb xs s) (hs : 8 < s) (hs2 : s ≤ 16) (hbig : xs.length ≤ 1000000) (hn : n ≤ 100000000) :
    Calls Tryz.prog 81 #[.pointer (some ⟨T, 0, none⟩), .agg #[ve, vb]] w fun e w' => NodesPostE X T tv n h xs s w e w' := by
  have HT := hide hT
  have HO := hide hXo
  have HL := hide hl
  have hTl : T < w.heap.size := World.block_lt_of_cell? w _ hT.c0
  clear hT hXo hl
  obtain ⟨ae, ne, ce, ab, nb, cb, rfl, rfl, -, -, -, -, -⟩ := HL.out.slices
  have hd : decide ((s : Int) ≤ 8) = false := decide_eq_false (by omega)
  have hd' : ¬ (s : Int) ≤ 8 := by omega
  obtain ⟨W, hW⟩ : ∃ W, W = w.alloc (.cells #[.slice ae ne ce, .slice ab nb cb] 115) := ⟨_, rfl⟩
  have uW : Hid (Up w W) := by rw [hW]; exact (Up.refl _).alloc _
  have l0 : W.cell? ⟨w.heap.size, 0, none⟩ = some (.slice ae ne ce) := by rw [hW]; go_simp
  have l1 : W.cell? ⟨w.heap.size, 1, none⟩ = some (.slice ab nb cb) := by rw [hW]; go_simp
  have hW' := hW.symm
  clear hW
  go_enter Tryz.func81, Tryz.ntmps81
  go_wp2_with (go_at_call 95; refine (sizeE_calls X h _ _ xs s _ (HL.out.chg (Chg.of_up uW.out)) (by omega)).mono ?_; rintro _ w1 ⟨rfl, hu1⟩; replace l0 := hu1.cell l0; replace l1 := hu1.cell l1; have u1 := hide (uW.out.trans hu1); clear hu1)
  refine (halvesE_calls X h _ _ xs s _ (fun y hy => Nat.lt_of_lt_of_le (HO.out y hy) u1.out.size) (HL.out.chg (Chg.of_up u1.out)) hbig (by omega)).mono ?_
  rintro _ w2 ⟨v1, q1, v2, q2, ys, zs, rfl, hl1, hl2, hxs, hu2⟩
  have u2 := hide (u1.out.trans hu2)
  obtain ⟨b1, m1, d1, b2, m2, d2, rfl, rfl, -, -, -, -, -⟩ := hl1.slices
  obtain ⟨b3, m3, d3, b4, m4, d4, rfl, rfl, -, -, -, -, -⟩ := hl2.slices
  have HL1 := hide hl1
  have HL2 := hide hl2
  have HX := hide hxs
  clear hl1 hl2 hxs hu2 l0 l1
  have hyl : ys.length ≤ 1000000 := by have := congrArg List.length HX.out; rw [List.length_append] at this; omega
  have hzl : zs.length ≤ 1000000 := by have := congrArg List.length HX.out; rw [List.length_append] at this; omega
  obtain ⟨W2, hW2⟩ : ∃ W2, W2 = (w2.alloc (.cells #[.slice b1 m1 d1, .slice b2 m2 d2] 115)).alloc (.cells #[.slice b3 m3 d3, .slice b4 m4 d4] 115) := ⟨_, rfl⟩
  have uA : Hid (Up w2 W2) := by rw [hW2]; exact ((Up.refl _).alloc _).alloc _
  have r0 : W2.cell? ⟨w2.heap.size, 0, none⟩ = some (.slice b1 m1 d1) := by rw [hW2]; go_simp
  have r1 : W2.cell? ⟨w2.heap.size, 1, none⟩ = some (.slice b2 m2 d2) := by rw [hW2]; go_simp
  have r2 : W2.cell? ⟨w2.heap.size + 1, 0, none⟩ = some (.slice b3 m3 d3) := by rw [hW2]; go_simp
  have r3 : W2.cell? ⟨w2.heap.size + 1, 1, none⟩ = some (.slice b4 m4 d4) := by rw [hW2]; go_simp
  have hW2' := hW2.symm
  clear hW2
  go_wp2_with fail
  clear hW2'
  have hT2 : T < w2.heap.size := Nat.lt_of_lt_of_le hTl u2.out.size
  have HK : Hid (∀ w', Chg (fun y => y = T) W2 w' → Chg (fun y => y = T) W2 w' ∧ w'.cell? ⟨w2.heap.size, 0, none⟩ = some (.slice b1 m1 d1) ∧ w'.cell? ⟨w2.heap.size, 1, none⟩ = some (.slice b2 m2 d2) ∧ w'.cell? ⟨w2.heap.size + 1, 0, none⟩ = some (.slice b3 m3 d3) ∧ w'.cell? ⟨w2.heap.size + 1, 1, none⟩ = some (.slice b4 m4 d4)) :=
    fun w' h => ⟨h, h.cell r0 (by simp; omega), h.cell r1 (by simp; omega), h.cell r2 (by simp; omega), h.cell r3 (by simp; omega)⟩
  have hc0 : Chg (fun y => y = T) W2 W2 := Chg.refl _ _
  have hT0 : Hid (TrC W2 T tv n) := HT.out.up (u2.out.trans uA.out)
  have HO2 : Hid (∀ w', Chg (fun y => y = T) W2 w' → ∀ y, X y → y < w'.heap.size) := fun w' h y hy => Nat.lt_of_lt_of_le (HO.out y hy) (Nat.le_trans (u2.out.trans uA.out).size h.size)
  have HX2 : Hid (∀ w', Chg (fun y => y = T) W2 w' → Chg X w2 w') := fun w' h => (Chg.of_up uA.out).trans h (fun y _ e => by rw [show y = T from e]; exact hX)
  clear r0 r1 r2 r3
  have tok1 : True := trivial
  have tok2 : True := trivial
  go_region_held3 (fun w' => Chg (fun y => y = T) W2 w' ∧ w'.cell? ⟨w2.heap.size, 0, none⟩ = some (.slice b1 m1 d1) ∧ w'.cell? ⟨w2.heap.size, 1, none⟩ = some (.slice b2 m2 d2) ∧ w'.cell? ⟨w2.heap.size + 1, 0, none⟩ = some (.slice b3 m3 d3) ∧ w'.cell? ⟨w2.heap.size + 1, 1, none⟩ = some (.slice b4 m4 d4)) (exact HK.out _ (by repeat' (with_reducible first | assumption | apply Chg.alloc | apply Chg.drew)))
    (first
      | (clear tok1; go_at_call 98; refine (writeE_calls X T n tv h _ _ ys (s / 2) _ (hT0.out.up (by repeat' (with_reducible first | assumption | exact Up.refl _ | apply Up.alloc | apply Up.drew))) hX (HO2.out _ (by repeat' (with_reducible first | assumption | apply Chg.alloc | apply Chg.drew))) (HL1.out.chg (HX2.out _ (by repeat' (with_reducible first | assumption | apply Chg.alloc | apply Chg.drew)))) (by omega) hyl (by omega)).mono ?_; rintro _ w5 ⟨k5, rfl, hn5, ht5, hc5⟩; have hk5 : Chg (fun y => y = T) W2 w5 := Chg.trans (by repeat' (with_reducible first | assumption | apply Chg.alloc | apply Chg.drew)) hc5 (fun _ _ h => h); replace hn5 := hide hn5; replace ht5 := hide ht5; clear hc5; unfold pE)
      | (clear tok2; go_at_call 98; refine (writeE_calls X T (n + 1) tv h _ _ zs (s - s / 2) _ (ht5.out.up (by repeat' (with_reducible first | assumption | exact Up.refl _ | apply Up.alloc | apply Up.drew))) hX (HO2.out _ (by repeat' (with_reducible first | assumption | apply Chg.alloc | apply Chg.drew))) (HL2.out.chg (HX2.out _ (by repeat' (with_reducible first | assumption | apply Chg.alloc | apply Chg.drew)))) (by omega) hzl (by omega)).mono ?_; rintro _ w6 ⟨k6, rfl, hn6, ht6, hc6⟩; have hk6 : Chg (fun y => y = T) W2 w6 := Chg.trans (by repeat' (with_reducible first | assumption | apply Chg.alloc | apply Chg.drew)) hc6 (fun _ _ h => h); have hj6 : Chg (fun y => y = T) w5 w6 := Chg.trans (Chg.of_up (C := fun y => y = T) (by repeat' (with_reducible first | assumption | exact Up.refl _ | apply Up.alloc | apply Up.drew))) hc6 (fun _ _ h => h); replace hn6 := hide hn6; replace ht6 := hide ht6; clear hc6; unfold pE))
  have HR := hide (Own.new2 (e := 112) (enc := pE) w6 k5 k6)
  have HK6 := hide hk6
  have HJ6 := hide hj6
  have HU := hide ((Up.refl w6).alloc (.cells #[pE k5, pE k6] 112))
  clear hk5 hk6 hj6 hc0
  go_wp2
  go_ret
  have hcw : Chg (fun y => y = T) w w6 := (Chg.of_up (u2.out.trans uA.out)).trans HK6.out (fun _ _ h => h)
  have hXT : ∀ y, y = T → X y := fun y e => by rw [e]; exact hX
  refine ⟨_, [(k5, ys), (k6, zs)], rfl, HR.out.base hcw.size, fun q hq => ?_, by simp [HX.out], fun h => absurd h (by omega), fun _ => rfl, ht6.out.up HU.out, hcw.andUp HU.out⟩
  rcases List.mem_cons.1 hq with rfl | hq
  · exact ⟨s / 2, (hn5.out.chg (HJ6.out.mono (fun y _ e => hXT y e))).chg (Chg.of_up HU.out), by omega, fun _ => by omega, fun h => absurd h (by omega)⟩
  · obtain rfl := List.mem_singleton.1 hq
    exact ⟨s - s / 2, hn6.out.chg (Chg.of_up HU.out), by omega, fun _ => by omega, fun h => absurd h (by omega)⟩
theorem nodesE_calls (X : Nat → Prop) (T n : Nat) (tv : Value) (h : Nat) (ve vb : Value) (xs : List ET) (s : Nat) (w : World) (hT : TrC w T tv n) (hX : X T) (hXo : ∀ y, X y → y < w.heap.size) (hl : Ld eC X w h ve vb xs s) (hs : s ≤ 16) (hbig : xs.length ≤ 1000000) (hn : n ≤ 100000000) :
    Calls Tryz.prog 81 #[.pointer (some ⟨T, 0, none⟩), .agg #[ve, vb]] w fun e w' => NodesPostE X T tv n h xs s w e w' := by
  by_cases h8 : s ≤ 8
  · exact nodesE_one X T n tv h ve vb xs s w hT hX hXo hl h8 hbig hn
  · exact nodesE_two X T n tv h ve vb xs s w hT hX hXo hl (by omega) hs hbig hn
end Go.Proofs.YtnokokhbcfkifaaGreatDoor
