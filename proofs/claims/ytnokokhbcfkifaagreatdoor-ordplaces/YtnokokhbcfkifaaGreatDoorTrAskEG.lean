/-
  New, Writes, Height and At of a counted tree of entries, as their text runs.
  InsertAt and EraseAt of a counted tree of entries none of whose nodes lies in blocks that others write into (Y), as their text runs.
  sort.Search and Search of a counted tree of entries, as their text runs, for whatever question.
-/
import Derived.Test.YtnokokhbcfkifaaGreatDoorTrInsEG
import Derived.Deep.LoopGhost
namespace Go.Proofs.YtnokokhbcfkifaaGreatDoor
open Go.ChangeShapes Go.WideShapes Go.ChangeAt Go.RowKit
set_option linter.unusedVariables false
set_option maxRecDepth 100000
attribute [local go_sem ↓] Go.wp_at_zero Go.wp_at_succ

theorem tnewE_calls (w : World) : Calls Tryz.prog 31 #[] w fun e w' => ∃ T, e = .returned (.pointer (some ⟨T, 0, none⟩)) ∧ TrE w' T [] 0 0 ∧ w.heap.size ≤ T ∧ Up w w' := by
  go_enter Tryz.func31, Tryz.ntmps31
  go_wp2
  go_ret
  refine ⟨w.heap.size + 1, rfl, ⟨w.heap.size, ⟨by go_simp; rfl, by go_simp, by go_simp, by go_simp⟩, 0, ⟨.slice none 0 0, .slice none 0 0, ⟨by simp, by go_simp, by go_simp, by go_simp⟩, RdV.nil _ _ _, Emp.nil, rfl⟩, by omega, fun h => absurd rfl h⟩, by omega, ((Up.refl w).alloc _).alloc _⟩
theorem twritesE_calls (T h n : Nat) (xs : List ET) (w : World) (t : TrE w T xs h n) :
    Calls Tryz.prog 36 #[.pointer (some ⟨T, 0, none⟩)] w fun e w' => e = .returned (.int .i64 n) ∧ w' = w := by
  obtain ⟨b, ⟨c0, c1, _, _⟩, _⟩ := t.top
  clear t
  go_enter Tryz.func36, Tryz.ntmps36
  go_wp2
  go_ret
  exact ⟨rfl, rfl⟩
theorem tatE_not (T h n : Nat) (i : Int) (xs : List ET) (w : World) (t : TrE w T xs h n) (hi : i < 0 ∨ (xs.length : Int) ≤ i) :
    Calls Tryz.prog 47 #[.pointer (some ⟨T, 0, none⟩), .int .i64 i] w fun e w' => e = .returned (.tuple #[encE zeroET, .bool false]) ∧ Up w w' := by
  have HT := hide t
  obtain ⟨W, hW⟩ : ∃ W, W = w.alloc (.cells #[.slice none 0 0, .int .i64 0] 51) := ⟨_, rfl⟩
  have HU : Hid (Up w W) := by rw [hW]; exact (Up.refl _).alloc _
  obtain ⟨Y, hY⟩ : ∃ Y, Y = W.alloc (.cells #[.slice none 0 0, .int .i64 0] 51) := ⟨_, rfl⟩
  have HV : Hid (Up w Y) := by rw [hY]; exact HU.out.alloc _
  have c0 : Y.cell? ⟨w.heap.size, 0, none⟩ = some (.slice none 0 0) := by rw [hY, hW]; go_simp
  have c1 : Y.cell? ⟨w.heap.size, 1, none⟩ = some (.int .i64 0) := by rw [hY, hW]; go_simp
  have f0 : Y.frozen? ⟨w.heap.size, 0, none⟩ = false := by rw [hY, hW]; go_simp
  have f1 : Y.frozen? ⟨w.heap.size, 1, none⟩ = false := by rw [hY, hW]; go_simp
  have d0 : Y.cell? ⟨W.heap.size, 0, none⟩ = some (.slice none 0 0) := by rw [hY]; go_simp
  have d1 : Y.cell? ⟨W.heap.size, 1, none⟩ = some (.int .i64 0) := by rw [hY]; go_simp
  have hW' := hW.symm
  have hY' := hY.symm
  have k0 : ((Y.setCell ⟨w.heap.size, 0, none⟩ (.slice none 0 0)).setCell ⟨w.heap.size, 1, none⟩ (.int .i64 0)).cell? ⟨w.heap.size, 0, none⟩ = some (.slice none 0 0) := set2_c0 c0
  have k1 : ((Y.setCell ⟨w.heap.size, 0, none⟩ (.slice none 0 0)).setCell ⟨w.heap.size, 1, none⟩ (.int .i64 0)).cell? ⟨w.heap.size, 1, none⟩ = some (.int .i64 0) := set2_c1 c1
  have HK : Hid (Up w ((Y.setCell ⟨w.heap.size, 0, none⟩ (.slice none 0 0)).setCell ⟨w.heap.size, 1, none⟩ (.int .i64 0))) := up_of_chg_new HV.out (set2_chg _ _ _ _) (Nat.le_refl _)
  unfold encE zeroET
  clear t hW hY
  by_cases h0 : i < 0
  · have hd : decide (i < 0) = true := decide_eq_true h0
    go_enter Tryz.func47, Tryz.ntmps47
    go_wp2
    exact bodyPost_ret (v := .tuple #[.agg #[.slice none 0 0, .int .i64 0], .bool false]) (by simp [results, Tryz.results47, go_sem, k0, k1]) rfl ⟨rfl, HK.out⟩
  · have hd : decide (i < 0) = false := decide_eq_false h0
    have h1 : (xs.length : Int) ≤ i := by omega
    have hd2 : decide (i ≥ (xs.length : Int)) = true := decide_eq_true (by omega)
    go_enter Tryz.func47, Tryz.ntmps47
    go_wp2_with (go_at_call 44; refine (tlenE_calls T h n xs _ (HT.out.up HU.out)).mono ?_; rintro _ w1 ⟨rfl, hw1⟩; obtain rfl : W = w1 := hw1.symm; clear hW')
    exact bodyPost_ret (v := .tuple #[.agg #[.slice none 0 0, .int .i64 0], .bool false]) (by simp [results, Tryz.results47, go_sem, k0, k1]) rfl ⟨rfl, HK.out⟩
set_option maxHeartbeats 4000000 in
theorem tatE_ok (T h n i : Nat) (z : ET) (xs : List ET) (w : World) (t : TrE w T xs h n) (hi : i < xs.length) (hx : xs.length ≤ 100000) :
    Calls Tryz.prog 47 #[.pointer (some ⟨T, 0, none⟩), .int .i64 i] w fun e w' => e = .returned (.tuple #[encE (xs.getD i z), .bool true]) ∧ Up w w' := by
  have HT := hide t
  obtain ⟨b, ⟨c0, _, _, _⟩, s, hnd, hs8, hs2⟩ := t.top
  have HND := hide hnd
  have HX := hide hx
  have HI := hide hi
  unfold pE at c0
  have hd : decide ((i : Int) < 0) = false := decide_eq_false (by omega)
  have hd0 : ¬ ((i : Int) < 0) := by omega
  have hd2 : decide ((i : Int) ≥ (xs.length : Int)) = false := decide_eq_false (by omega)
  have hd3 : ¬ ((xs.length : Int) ≤ (i : Int)) := by omega
  have hd4 : decide (xs.length ≤ i) = false := decide_eq_false (by omega)
  obtain ⟨val, hval⟩ : ∃ v, v = xs.getD i z := ⟨_, rfl⟩
  rw [← hval]
  replace hval := hide hval
  obtain ⟨W, hW⟩ : ∃ W, W = w.alloc (.cells #[.slice none 0 0, .int .i64 0] 51) := ⟨_, rfl⟩
  have HU : Hid (Up w W) := by rw [hW]; exact (Up.refl _).alloc _
  have hB : Box2 w.heap.size W := by rw [hW]; exact ⟨by go_simp, by go_simp, by go_simp, by go_simp⟩
  have HB := hide hB
  have hW' := hW.symm
  replace c0 := HU.out.cell c0
  replace HT := hide (HT.out.up HU.out)
  replace HND := hide (HND.out.chg (Chg.of_up (C := fun y => y = T) HU.out))
  unfold encE
  clear t hnd hx hi hW hB
  go_enter Tryz.func47, Tryz.ntmps47
  go_wp2_with (go_at_call 44; refine (tlenE_calls T h n xs _ HT.out).mono ?_; rintro _ w1 ⟨rfl, hw1⟩; obtain rfl : W = w1 := hw1.symm; clear hW')
  go_loopg [1, 7] h (fun k iv nv wr => ∃ (j b : Nat) (ys : List ET) (s : Nat), iv = .int .i64 j ∧ nv = .pointer (some ⟨b, 0, none⟩) ∧ Hid (Nd eC (fun y => y = T) wr k b ys s ∧ s ≤ 8 ∧ (k ≠ 0 → 2 ≤ s) ∧ j < ys.length ∧ ys.length ≤ 100000 ∧ ys.getD j z = val) ∧ Hid (Up W wr))
  case atStart => exact ⟨i, b, xs, s, rfl, rfl, ⟨HND.out, hs8, hs2, HI.out, HX.out, hval.out.symm⟩, Up.refl _⟩
  case round =>
    obtain ⟨j, b, ys, s, rfl, rfl, hN, hu⟩ := hrel
    obtain ⟨hnd, hs8, hs2, hj, hyl, hv⟩ := hN.out
    have hnd0 := hide hnd
    cases gk with
    | zero =>
      obtain ⟨ve, vb, ⟨hX, d0, d1, d2⟩, hr, _, _⟩ := hnd
      obtain ⟨ae, ne, ce, rfl, hne, -⟩ := hr.sliceN
      obtain ⟨g, o, rfl, hg, hg'⟩ := hr.ent (i := j) hj
      obtain ⟨x, hxx, hg1, hg2⟩ : ∃ x, x = ys[j] ∧ wr.cell? ⟨g, o + j * 2, none⟩ = some (.slice x.a x.n x.c) ∧ wr.cell? ⟨g, o + j * 2 + 1, none⟩ = some (.int .i64 x.id) := ⟨ys[j], rfl, hg, hg'⟩
      have HXX : Hid (x = val) := by
        unfold Hid; rw [hxx, ← hv, List.getD_eq_getElem?_getD, List.getElem?_eq_getElem hj]; rfl
      have j0 : (0 : Int) ≤ (j : Int) := by omega
      have j1 : (j : Int) < (ne : Int) := by rw [hne.out]; omega
      have hdz : decide ((0 : Nat) = 0) = true := by decide
      obtain ⟨b0, b1, f0, f1⟩ := box_chg HB.out (Chg.of_up (C := fun _ => False) hu.out) (fun h => h)
      obtain ⟨v0, g0⟩ := Option.isSome_iff_exists.1 b0
      obtain ⟨v1, g1⟩ := Option.isSome_iff_exists.1 b1
      clear hN hr hg hg' hxx b0 b1 hj hyl hv hs8 hs2 hne
      go_wp2_with (go_at_call 72; refine (leafE_calls (fun y => y = T) 0 b ys _ _ hnd0.out (fun h => absurd rfl h)).mono ?_; rintro _ w1 ⟨rfl, hw1⟩; obtain rfl : wr = w1 := hw1.symm; rw [hdz])
      have k0 : ((wr.setCell ⟨w.heap.size, 0, none⟩ (.slice x.a x.n x.c)).setCell ⟨w.heap.size, 1, none⟩ (.int .i64 x.id)).cell? ⟨w.heap.size, 0, none⟩ = some (.slice x.a x.n x.c) := set2_c0 g0
      have k1 : ((wr.setCell ⟨w.heap.size, 0, none⟩ (.slice x.a x.n x.c)).setCell ⟨w.heap.size, 1, none⟩ (.int .i64 x.id)).cell? ⟨w.heap.size, 1, none⟩ = some (.int .i64 x.id) := set2_c1 g1
      refine bodyPost_ret (v := .tuple #[.agg #[.slice x.a x.n x.c, .int .i64 x.id], .bool true]) (by simp [results, Tryz.results47, go_sem, k0, k1]) rfl ⟨by rw [← HXX.out], up_of_chg_new (HU.out.trans hu.out) (set2_chg _ _ _ _) (Nat.le_refl _)⟩
    | succ gk =>
      obtain ⟨ve, vb, L, hcn, he, hr, hk, hys, hsL⟩ := hnd
      have HCN := hide hcn
      obtain ⟨hX, d0, d1, d2⟩ := hcn
      have hL0 : L ≠ [] := fun e => by rw [e] at hsL; have := hs2 (Nat.succ_ne_zero _); simp at hsL; omega
      obtain ⟨ab, nb, cb, rfl, hnb, -⟩ := hr.sliceN
      have hnbL : nb = L.length := by rw [hnb.out]; simp
      have HNB := hide hnbL
      have HR := hide hr
      have HK : Hid (Kids eC (fun y => y = T) wr gk L) := hk
      have HY := hide hys
      have HV := hide hv
      have HJ := hide hj
      have HYL := hide hyl
      have hdz : decide (gk + 1 = 0) = false := decide_eq_false (Nat.succ_ne_zero _)
      have hs0 : s ≠ 0 := by have := hs2 (Nat.succ_ne_zero _); omega
      have hfind := findE_calls (fun y => y = T) gk b j _ _ L _ wr HCN.out hr hk hL0 (by rw [← hys]; omega) (by rw [← hys]; omega)
      have HF := hide hfind
      clear hfind hN hr hk hys hv hj hyl hsL hs8 hs2 hnb hnbL d0 d2 he
      go_wp2_with (go_at_call 72; refine (leafE_calls (fun y => y = T) (gk + 1) b ys _ _ hnd0.out (fun _ => hs0)).mono ?_; rintro _ w1 ⟨rfl, hw1⟩; obtain rfl : wr = w1 := hw1.symm; rw [hdz])
      refine HF.out.mono ?_
      rintro _ w2 ⟨at_, j', hat, rfl, hj2, hj3, hj4, hu2⟩
      obtain ⟨gk', o, rfl, hg⟩ := HR.out.get (i := at_) (by rw [List.length_map]; exact hat)
      rw [List.getElem_map] at hg
      replace hg := hu2.cell hg
      replace d1 := hu2.cell d1
      obtain ⟨sq, sq4, sq8, hnq⟩ := HK.out _ (List.getElem_mem hat)
      have HNQ := hide (hnq.chg (Chg.of_up (C := fun y => y = T) hu2))
      have hsp := flat_split L at_ hat
      have HV2 : Hid (L[at_].2.getD j' z = val) := by
        unfold Hid
        have hjl : j' < L[at_].2.length := hj4 (by rw [← HY.out]; exact HJ.out)
        rw [← HV.out, HY.out, hsp, hj2]
        exact (get_mid z _ _ _ j' hjl).symm
      have HJ2 : Hid (j' < L[at_].2.length) := hj4 (by rw [← HY.out]; exact HJ.out)
      have HYL2 : Hid (L[at_].2.length ≤ 100000) := by
        unfold Hid
        have h1 := congrArg List.length hsp
        have h2 := HYL.out
        have h3 := congrArg List.length HY.out
        rw [List.length_append, List.length_append] at h1
        omega
      have HU := hide (hu.out.trans hu2)
      have a0 : (0 : Int) ≤ (at_ : Int) := by omega
      have a1 : (at_ : Int) < (nb : Int) := by rw [HNB.out]; omega
      obtain ⟨kb, hkb⟩ : ∃ kb, kb = L[at_].1 := ⟨_, rfl⟩
      rw [← hkb] at hg HNQ
      unfold pE at hg
      clear hj2 hj3 hj4 hu2 hnq hsp hkb
      dsimp only
      go_wp2
      go_roundg gk
      case measure => omega
      case rel => exact ⟨j', kb, L[at_].2, sq, rfl, rfl, ⟨HNQ.out, sq8, fun _ => by omega, HJ2.out, HYL2.out, HV2.out⟩, HU⟩
end Go.Proofs.YtnokokhbcfkifaaGreatDoor

namespace Go.Proofs.YtnokokhbcfkifaaGreatDoor
open Go.ChangeShapes Go.WideShapes Go.ChangeAt Go.RowKit
set_option linter.unusedVariables false
set_option maxRecDepth 100000
attribute [local go_sem ↓] Go.wp_at_zero Go.wp_at_succ

/-- A tree none of whose nodes lies in a block of Y. -/
def TrM (Y : Nat → Prop) (w : World) (T : Nat) (xs : List ET) (h n : Nat) : Prop := ∃ b, TrC w T (pE b) n ∧ Top eC (XT T Y) w b xs h
theorem TrM.tr {Y : Nat → Prop} {w : World} {T : Nat} {xs : List ET} {h n : Nat} (t : TrM Y w T xs h n) : TrE w T xs h n := by
  obtain ⟨b, h1, s, h2, h3⟩ := t
  exact ⟨b, h1, s, h2.mono (fun y _ e => .inl e), h3⟩
theorem TrM.up {Y : Nat → Prop} {w w' : World} {T : Nat} {xs : List ET} {h n : Nat} (t : TrM Y w T xs h n) (hu : Up w w') : TrM Y w' T xs h n := by
  obtain ⟨b, h1, s, h2, h3⟩ := t
  exact ⟨b, h1.up hu, s, h2.chg (Chg.of_up hu), h3⟩
theorem TrM.chg {Y : Nat → Prop} {w w' : World} {T : Nat} {xs : List ET} {h n : Nat} (t : TrM Y w T xs h n) (hc : Chg Y w w') (hT : ¬ Y T) : TrM Y w' T xs h n := by
  obtain ⟨b, h1, s, h2, h3⟩ := t
  exact ⟨b, h1.chg hc hT, s, h2.chg (hc.mono (fun y _ h => .inr h)), h3⟩
theorem TrM.of {Y : Nat → Prop} {w0 w : World} {T : Nat} {h n : Nat} (t : TrE w T [] h n) (hY : ∀ y, Y y → y < w0.heap.size) (hb : ∀ b, TrC w T (pE b) n → ¬ Y b) : TrM Y w T [] h n := by
  obtain ⟨b, h1, s, h2, h3⟩ := t
  have h0 : h = 0 := Tr.low ⟨b, h1, s, h2, h3⟩ (by simp)
  subst h0
  obtain ⟨ve, vb, hc, hr, he, hs⟩ := h2
  exact ⟨b, h1, s, ⟨ve, vb, ⟨fun hx => hx.elim (fun e => hc.1 e) (fun e => hb b h1 e), hc.2⟩, hr.emp.rdV, he, hs⟩, h3⟩
/-- The blocks of Y are as they were. -/
def Same (Y : Nat → Prop) (w0 w : World) : Prop := ∀ g, Y g → g < w0.heap.size → w.heap[g]? = w0.heap[g]?
theorem Same.chg {Y C : Nat → Prop} {w0 w w' : World} (h : Same Y w0 w) (hw : w0.heap.size ≤ w.heap.size) (hc : Chg C w w') (hn : ∀ y, Y y → y < w0.heap.size → ¬ C y) : Same Y w0 w' := fun g hg hl => (hc.2 g (by omega) (hn g hg hl)).trans (h g hg hl)
theorem Same.up {Y : Nat → Prop} {w w' : World} (hu : Up w w') : Same Y w w' := fun g _ hl => by
  obtain ⟨o, ho⟩ : ∃ o, w.heap[g]? = some o := ⟨_, Array.getElem?_eq_getElem hl⟩
  rw [hu.heap ho, ho]
theorem chg_same {Y C : Nat → Prop} {w0 w : World} (hc : Chg (fun y => C y ∨ Y y) w0 w) (hs : Same Y w0 w) : Chg C w0 w := by
  refine ⟨hc.1, fun b hb hn => ?_⟩
  by_cases hy : Y b
  · exact hs b hy hb
  · exact hc.2 b hb (fun h => h.elim hn hy)
/-- What a change that is done leaves. -/
def TrDoneM (Y : Nat → Prop) (T n h : Nat) (zs : List ET) (w : World) (w' : World) : Prop := ∃ h' k, TrM Y w' T zs h' (n + k) ∧ 1 ≤ k ∧ k ≤ 2 * h + 3 ∧ Chg (fun y => y = T) w w'
set_option maxHeartbeats 2000000 in
/-- The function that InsertAt hands over. -/
theorem doInsM (Y : Nat → Prop) (T vb : Nat) (v : ET) (w0 : World) (xs : List ET) (i : Nat) (hv : w0.cell? ⟨vb, 0, none⟩ = some (.slice v.a v.n v.c)) (hw : w0.cell? ⟨vb, 1, none⟩ = some (.int .i64 v.id)) (hvT : vb ≠ T) :
    DoIsE T Y 59 #[.pointer (some ⟨vb, 0, none⟩)] false (insL v) (fun W => Same Y w0 W ∧ w0.heap.size ≤ W.heap.size) w0 xs i := by
  intro W es a b j ve hc _ _ hok h8 hown
  have hv' := hc.cell hv
  have hw' := hc.cell hw
  have hins : ∀ x, x = W.heap.size → Calls Tryz.prog 60 #[ve, .int .i64 j, .slice (some ⟨x, 0, none⟩) 1 1] (W.alloc (.cells #[.slice v.a v.n v.c, .int .i64 v.id] 51)) fun e w' => InsPostE (W.alloc (.cells #[.slice v.a v.n v.c, .int .i64 v.id] 51)) ve (es.take j ++ v :: es.drop j) e w' := fun x hx => by
    subst hx
    exact insE_calls ve es v j W.heap.size _ ((hown.base (Nat.zero_le _)).up ((Up.refl _).alloc _)) (by omega) hok.1 (heap_alloc_new _ _) (fun e => by have := (hown.lt _ e).2; omega)
  have HI := hide hins
  have HCC := hide hc
  have HO := hide hown
  obtain ⟨a1, n1, d1, rfl, -, -⟩ := hown.sliceN
  clear hins hown hv hw hc hok h8
  go_enter Tryz.func59, Tryz.ntmps59
  go_wp2_with fail
  refine (HI.out _ rfl).mono ?_
  rintro _ w2 ⟨v2, rfl, ho2, hc2, hb2⟩
  have HO2 := hide ho2
  have HC2 := hide hc2
  have HB2 := hide hb2
  obtain ⟨a2, n2, d2, rfl, -, -⟩ := ho2.sliceN
  clear ho2 hc2 hb2
  dsimp only
  go_wp2
  go_ret
  refine ⟨.slice a2 n2 d2, rfl, HO2.out, fun g hg => ?_, (Chg.of_up (C := fun y => Y y ∨ (Value.slice a1 n1 d1).ownBlock = some y) ((Up.refl W).alloc _)).trans HC2.out (fun y _ h => .inr h), ?_⟩
  rotate_left
  · exact ⟨Same.chg (Same.up HCC.out) HCC.out.size ((Chg.of_up (C := fun y => (Value.slice a1 n1 d1).ownBlock = some y) ((Up.refl W).alloc _)).trans HC2.out (fun y _ h => h)) (fun y _ hl h => by have := (HO.out.lt y h).1; omega), Nat.le_trans HCC.out.size (Nat.le_trans (Nat.le_of_lt (by simp)) HC2.out.size)⟩
  rcases HB2.out with h | ⟨g', h, h1, h2⟩
  · exact .inl (h ▸ hg)
  · rw [h] at hg
    cases hg
    exact .inr (Nat.le_trans (Nat.le_of_lt (by simp)) h1)

set_option maxHeartbeats 2000000 in
theorem insertAtM_ok (Y : Nat → Prop) (T h n i : Nat) (v : ET) (xs : List ET) (w : World) (hYT : ¬ Y T) (hYl : ∀ y, Y y → y < w.heap.size) (tm : TrM Y w T xs h n) (hi : i ≤ xs.length) (hx : xs.length ≤ 100000) (hn : n ≤ 10000000) :
    Calls Tryz.prog 39 #[.pointer (some ⟨T, 0, none⟩), .int .i64 i, .agg #[.slice v.a v.n v.c, .int .i64 v.id]] w fun e w' => e = .returned (.int .i64 0) ∧ TrDoneM Y T n h (insL v xs i) w w' := by
  have t := tm.tr
  have HT := hide t
  have hTl := t.lt
  have e1 : IntKind.i64.wrap ((xs.length : Int) + 1) = (xs.length : Int) + 1 := by rw [IntKind.wrap_i64]; omega
  have HU : Hid (Up w (w.alloc (.cells #[.slice v.a v.n v.c, .int .i64 v.id] 51))) := (Up.refl _).alloc _
  obtain ⟨b, hb, s, hnd, hs8, hs2⟩ := tm
  have HYL := hide hYl
  have HC : Hid (Calls Tryz.prog 58 #[.pointer (some ⟨T, 0, none⟩), .int .i64 i, .int .i64 ((xs.length : Int) + 1), .func (.func 59) #[] #[.pointer (some ⟨w.heap.size, 0, none⟩)]] (w.alloc (.cells #[.slice v.a v.n v.c, .int .i64 v.id] 51)) fun e w' => ChangeDoneE T Y n h (insL v xs i) (fun W => Same Y (w.alloc (.cells #[.slice v.a v.n v.c, .int .i64 v.id] 51)) W ∧ (w.alloc (.cells #[.slice v.a v.n v.c, .int .i64 v.id] 51)).heap.size ≤ W.heap.size) (w.alloc (.cells #[.slice v.a v.n v.c, .int .i64 v.id] 51)) e w') := by
    refine changeE_calls T n h Y _ _ false (insL v) _ _ xs i _ b (local_ins v) (enters_of Tryz.func59 (by kernel_rfl) rfl) (doInsM Y T w.heap.size v _ xs i (by rw [cell_of (heap_alloc_new _ _)]; rfl) (by rw [cell_of (heap_alloc_new _ _)]; rfl) (by omega)) (fun W W' hd hc => ⟨hd.1.chg hd.2 hc (fun y hy _ h => h hy), Nat.le_trans hd.2 hc.size⟩) hYT (fun y hy => ?_) hx (hb.up HU.out) hn ⟨s, ?_, hs8, hs2⟩ ⟨hi, fun h => by cases h⟩ (by omega)
    · rcases hy with rfl | hy
      · simp; omega
      · have := hYl y hy; simp; omega
    · exact hnd.chg (Chg.of_up HU.out)
  clear t hb hnd hYl hYT
  go_enter Tryz.func39, Tryz.ntmps39
  go_wp2_with (first
    | (go_at_call 44; refine (tlenE_calls T h n xs _ (HT.out.up HU.out)).mono ?_; rintro _ w1 ⟨rfl, hw1⟩; subst hw1)
    | (go_at_call 58; refine HC.out.mono ?_; rintro _ w2 ⟨b2, k2, h2, rfl, ht2, htop2, hk1, hk2, ⟨hd2, -⟩, hc2⟩; replace hd2 := hide hd2; replace ht2 := hide ht2; replace htop2 := hide htop2; replace hc2 := hide hc2))
  go_ret
  obtain ⟨s2, hn2, hs⟩ := htop2.out
  exact ⟨rfl, h2, k2, ⟨b2, ht2.out, s2, hn2, hs⟩, hk1, hk2, (Chg.of_up HU.out).trans (chg_same (C := fun y => y = T) hc2.out hd2.out) (fun y _ h => h)⟩

set_option maxHeartbeats 2000000 in
/-- The function that EraseAt hands over. -/
theorem doDelM (Z : Nat → Prop) (T ob R : Nat) (Y : Nat → Prop) (hZo : ∀ y, Z y → y ≠ ob) (hYo : Y ob) (hRo : R ≠ ob) (z : ET) (u u' : Value) (w0 : World) (xs : List ET) (i : Nat) (hv : w0.cell? ⟨ob, 0, none⟩ = some u) (hw : w0.cell? ⟨ob, 1, none⟩ = some u') (hvf : w0.frozen? ⟨ob, 0, none⟩ = false) (hwf : w0.frozen? ⟨ob, 1, none⟩ = false) (hB : Box2 R w0) :
    DoIsE T Y 62 #[.pointer (some ⟨ob, 0, none⟩)] true delL (fun W => (EntAt W ob (xs.getD i z) ∧ Box2 R W) ∧ Same Z w0 W ∧ w0.heap.size ≤ W.heap.size) w0 xs i := by
  intro W es a b j ve hc hxs hi hok h8 hown
  have hob : ob < w0.heap.size := World.block_lt_of_cell? _ _ hv
  have hR : R < w0.heap.size := by
    obtain ⟨v0, e0⟩ := Option.isSome_iff_exists.1 hB.1
    exact World.block_lt_of_cell? _ _ e0
  have HB : Hid (Box2 R W) := box_chg hB (Chg.of_up (C := fun _ => False) hc) (fun h => h)
  have hv' := hc.cell hv
  have hw' := hc.cell hw
  have hf' := (hc.frozen (p := ⟨ob, 0, none⟩) hob).trans hvf
  have hg' := (hc.frozen (p := ⟨ob, 1, none⟩) hob).trans hwf
  have hj : j < es.length := hok.2 rfl
  have hx : xs.getD i z = es.getD j z := by rw [hxs, hi]; exact get_mid z a es b j hj
  have hobn : ∀ g, ve.ownBlock = some g → g ≠ ob ∧ g ≠ R := fun g hg => by
    have := (hown.lt g hg).1
    exact ⟨by omega, by omega⟩
  have hr := hown.rd (X := fun _ => False) (fun _ _ h => h)
  have HO := hide hown
  have HOB := hide hobn
  have hl6 : es.length ≤ 8 := h8
  have HJ := hide hj
  obtain ⟨a1, n1, d1, rfl, hn1, -⟩ := hown.sliceN
  obtain ⟨g1, o1, rfl, hg0, hg00⟩ := hr.ent (i := j) hj
  obtain ⟨x, hxx, hg1, hg2⟩ : ∃ x, x = es[j] ∧ W.cell? ⟨g1, o1 + j * 2, none⟩ = some (.slice x.a x.n x.c) ∧ W.cell? ⟨g1, o1 + j * 2 + 1, none⟩ = some (.int .i64 x.id) := ⟨es[j], rfl, hg0, hg00⟩
  have hx2 : xs.getD i z = x := by
    rw [hx, hxx, List.getD_eq_getElem?_getD, List.getElem?_eq_getElem hj]; rfl
  rw [hx2]
  clear hg0 hg00 hx hx2 hxx hB
  have j0 : (0 : Int) ≤ (j : Int) := by omega
  have j1 : (j : Int) < (n1 : Int) := by rw [hn1.out]; omega
  have e1 : IntKind.i64.wrap ((j : Int) + 1) = (j : Int) + 1 := by rw [IntKind.wrap_i64]; omega
  have s1 : Hid (Chg (fun y => y = ob) W ((W.setCell ⟨ob, 0, none⟩ (.slice x.a x.n x.c)).setCell ⟨ob, 1, none⟩ (.int .i64 x.id))) := set2_chg W ob _ _
  have k1 : ((W.setCell ⟨ob, 0, none⟩ (.slice x.a x.n x.c)).setCell ⟨ob, 1, none⟩ (.int .i64 x.id)).cell? ⟨ob, 0, none⟩ = some (.slice x.a x.n x.c) := set2_c0 hv'
  have k2 : ((W.setCell ⟨ob, 0, none⟩ (.slice x.a x.n x.c)).setCell ⟨ob, 1, none⟩ (.int .i64 x.id)).cell? ⟨ob, 1, none⟩ = some (.int .i64 x.id) := set2_c1 hw'
  have HK1 := hide k1
  have HK2 := hide k2
  have HL := hide hl6
  have HRO := hide hRo
  have HYO := hide hYo
  have HZO := hide hZo
  have HCC := hide hc
  clear hxs hi hok hr hown hobn hj h8 k1 k2 hl6 hv hw hc hRo hYo hR hZo
  go_enter Tryz.func62, Tryz.ntmps62
  go_wp2_with fail
  refine (delE_calls _ es j _ ((HO.out.base (Nat.zero_le _)).chg s1.out (fun g hg => (HOB.out g hg).1)) (Nat.le_trans HL.out (by decide)) HJ.out).mono ?_
  rintro _ w2 ⟨v2, rfl, ho2, hc2, hb2⟩
  have HO2 := hide ho2
  have HC2 := hide hc2
  have HB2 := hide hb2
  obtain ⟨a2, n2, d2, rfl, -, -⟩ := ho2.sliceN
  clear ho2 hc2 hb2
  dsimp only
  go_wp2
  go_ret
  refine ⟨.slice a2 n2 d2, rfl, HO2.out, fun g hg => .inl (HB2.out ▸ hg), (s1.out.mono (D := fun y => Y y ∨ (Value.slice (some ⟨g1, o1, none⟩) n1 d1).ownBlock = some y) (fun y _ e => .inl (by rw [show y = ob from e]; exact HYO.out))).trans HC2.out (fun y _ h => .inr h), ⟨⟨?_, ?_⟩, ?_⟩, ?_, ?_⟩
  · exact HC2.out.cell HK1.out (fun h => (HOB.out _ h).1 rfl)
  · exact HC2.out.cell HK2.out (fun h => (HOB.out _ h).1 rfl)
  · exact box_chg (box_chg HB.out s1.out (fun e => HRO.out e)) HC2.out (fun h => (HOB.out _ h).2 rfl)
  · exact ((Same.up HCC.out).chg HCC.out.size s1.out (fun y hy _ e => HZO.out y hy e)).chg (Nat.le_trans HCC.out.size s1.out.size) HC2.out (fun y hy hl h => by have := (HO.out.lt y h).1; omega)
  · exact Nat.le_trans HCC.out.size (Nat.le_trans s1.out.size HC2.out.size)
set_option maxHeartbeats 2000000 in
theorem eraseAtM_ok (Y : Nat → Prop) (T h n i : Nat) (z : ET) (xs : List ET) (w : World) (hYT : ¬ Y T) (hYl : ∀ y, Y y → y < w.heap.size) (tm : TrM Y w T xs h n) (hi : i < xs.length) (hx : xs.length ≤ 100000) (hn : n ≤ 10000000) :
    Calls Tryz.prog 41 #[.pointer (some ⟨T, 0, none⟩), .int .i64 i] w fun e w' => e = .returned (.tuple #[encE (xs.getD i z), .int .i64 0]) ∧ TrDoneM Y T n h (delL xs i) w w' := by
  have t := tm.tr
  have HT := hide t
  have hTl := t.lt
  obtain ⟨W, hW⟩ : ∃ W, W = (w.alloc (.cells #[.slice none 0 0, .int .i64 0] 51)).alloc (.cells #[.slice none 0 0, .int .i64 0] 51) := ⟨_, rfl⟩
  have HU : Hid (Up w W) := by rw [hW]; exact ((Up.refl _).alloc _).alloc _
  have c0 : W.cell? ⟨w.heap.size + 1, 0, none⟩ = some (.slice none 0 0) := by rw [hW]; go_simp
  have c1 : W.cell? ⟨w.heap.size + 1, 1, none⟩ = some (.int .i64 0) := by rw [hW]; go_simp
  have f0 : W.frozen? ⟨w.heap.size + 1, 0, none⟩ = false := by rw [hW]; go_simp
  have f1 : W.frozen? ⟨w.heap.size + 1, 1, none⟩ = false := by rw [hW]; go_simp
  have hB : Box2 w.heap.size W := by rw [hW]; exact ⟨by go_simp, by go_simp, by go_simp, by go_simp⟩
  have hWs : w.heap.size + 1 < W.heap.size := by rw [hW]; simp
  have hW' := hW.symm
  obtain ⟨b, hb, s, hnd, hs8, hs2⟩ := tm
  have HC : Hid (Calls Tryz.prog 58 #[.pointer (some ⟨T, 0, none⟩), .int .i64 i, .int .i64 (xs.length : Int), .func (.func 62) #[] #[.pointer (some ⟨w.heap.size + 1, 0, none⟩)]] W fun e w' => ChangeDoneE T (fun y => (y = w.heap.size + 1 ∨ y = w.heap.size) ∨ Y y) n h (delL xs i) (fun V => (EntAt V (w.heap.size + 1) (xs.getD i z) ∧ Box2 w.heap.size V) ∧ Same Y W V ∧ W.heap.size ≤ V.heap.size) W e w') := by
    refine changeE_calls T n h (fun y => (y = w.heap.size + 1 ∨ y = w.heap.size) ∨ Y y) _ _ true delL _ _ xs i _ b local_del (enters_of Tryz.func62 (by kernel_rfl) rfl) (doDelM Y T (w.heap.size + 1) w.heap.size _ (fun y hy => by have := hYl y hy; omega) (.inl (.inl rfl)) (by omega) z _ _ _ xs i c0 c1 f0 f1 hB) (fun W W' hd hc => ⟨⟨⟨hc.cell hd.1.1.1 (fun h => h (.inl (.inl rfl))), hc.cell hd.1.1.2 (fun h => h (.inl (.inl rfl)))⟩, box_chg hd.1.2 hc (fun h => h (.inl (.inr rfl)))⟩, hd.2.1.chg hd.2.2 hc (fun y hy _ h => h (.inr hy)), Nat.le_trans hd.2.2 hc.size⟩) (fun h => by rcases h with (h | h) | h <;> first | omega | exact hYT h) (fun y hy => ?_) hx (hb.up HU.out) hn ⟨s, ?_, hs8, hs2⟩ ⟨by omega, fun _ => hi⟩ (by omega)
    · rcases hy with rfl | (rfl | rfl) | hy
      · omega
      · omega
      · omega
      · have := hYl y hy; omega
    · exact (hnd.mono (fun y hy h => by
        rcases h with h | (h | h) | h
        · exact .inl h
        · omega
        · omega
        · exact .inr h)).chg (Chg.of_up HU.out)
  have HYL := hide hYl
  have HYT := hide hYT
  clear t hb hnd hW c0 f0 c1 f1 hB hYl hYT
  obtain ⟨x, hxx⟩ : ∃ x, x = xs.getD i z := ⟨_, rfl⟩
  rw [← hxx] at HC ⊢
  unfold encE
  clear hxx
  go_enter Tryz.func41, Tryz.ntmps41
  go_wp2_with (first
    | (go_at_call 44; refine (tlenE_calls T h n xs _ (HT.out.up HU.out)).mono ?_; rintro _ w1 ⟨rfl, hw1⟩; obtain rfl : W = w1 := hw1.symm; clear hW')
    | (go_at_call 58; refine HC.out.mono ?_; rintro _ w2 ⟨b2, k2, h2, rfl, ht2, htop2, hk1, hk2, ⟨⟨⟨hd2, hd3⟩, b0, b1, f0, f1⟩, hsm, -⟩, hc2⟩; replace hsm := hide hsm; obtain ⟨v0, g0⟩ := Option.isSome_iff_exists.1 b0; obtain ⟨v1, g1⟩ := Option.isSome_iff_exists.1 b1; clear b0 b1; replace ht2 := hide ht2; replace htop2 := hide htop2; replace hc2 := hide hc2))
  have k0 : ((w2.setCell ⟨w.heap.size, 0, none⟩ (.slice x.a x.n x.c)).setCell ⟨w.heap.size, 1, none⟩ (.int .i64 x.id)).cell? ⟨w.heap.size, 0, none⟩ = some (.slice x.a x.n x.c) := set2_c0 g0
  have k1 : ((w2.setCell ⟨w.heap.size, 0, none⟩ (.slice x.a x.n x.c)).setCell ⟨w.heap.size, 1, none⟩ (.int .i64 x.id)).cell? ⟨w.heap.size, 1, none⟩ = some (.int .i64 x.id) := set2_c1 g1
  have s1 := set2_chg w2 w.heap.size (.slice x.a x.n x.c) (.int .i64 x.id)
  obtain ⟨s2, hn2, hs⟩ := htop2.out
  have hTR : T ≠ w.heap.size := by omega
  refine bodyPost_ret (v := .tuple #[.agg #[.slice x.a x.n x.c, .int .i64 x.id], .int .i64 0]) (by simp [results, Tryz.results41, go_sem, k0, k1]) rfl ⟨rfl, h2, k2, ⟨b2, ht2.out.chg s1 hTR, s2, (hn2.chg (s1.mono (fun y _ e => .inr (.inl (.inr e))))).mono (fun y _ e => e.imp id (fun e => .inr e)), hs⟩, hk1, hk2, ((Chg.of_up HU.out).trans (chg_same (C := fun y => y = T ∨ (y = w.heap.size + 1 ∨ y = w.heap.size)) (hc2.out.mono (fun y _ h => or_assoc.2 h)) hsm.out) (fun y hy h => ?_)).trans s1 (fun y hy h => ?_)⟩
  · rcases h with h | h | h
    · exact h
    · omega
    · omega
  · have h' : y = w.heap.size := h
    omega
end Go.Proofs.YtnokokhbcfkifaaGreatDoor

namespace Go.Proofs.YtnokokhbcfkifaaGreatDoor
open Go.ChangeShapes Go.WideShapes Go.ChangeAt Go.RowKit
set_option linter.unusedVariables false
set_option maxRecDepth 100000
attribute [local go_sem ↓] Go.wp_at_zero Go.wp_at_succ

/-- How many binary digits. -/
def bitsN (m : Nat) : Nat := if m = 0 then 0 else Nat.log2 m + 1
theorem bitsN_pos {m : Nat} (h : m ≠ 0) : bitsN m = bitsN (m / 2) + 1 := by
  unfold bitsN
  rw [if_neg h]
  by_cases h2 : 2 ≤ m
  · rw [Nat.log2_def, if_pos h2, if_neg (by omega)]
  · rw [Nat.log2_def, if_neg h2, if_pos (by omega)]
theorem bitsN_ge {m k : Nat} (h : 2 ^ k ≤ m) : k + 1 ≤ bitsN m := by
  have h0 : m ≠ 0 := by have := Nat.pow_pos (n := k) (show 0 < 2 by decide); omega
  unfold bitsN
  rw [if_neg h0]
  have := (Nat.le_log2 h0).2 h
  omega
theorem bitsN_le {m : Nat} (h : m ≤ 1000001) : bitsN m ≤ 100 := by
  unfold bitsN
  split
  · omega
  · rename_i h0
    have h1 : 2 ^ m.log2 ≤ m := Nat.log2_self_le h0
    rcases Nat.lt_or_ge m.log2 20 with h2 | h2
    · omega
    · have h3 : 2 ^ 20 ≤ 2 ^ m.log2 := Nat.pow_le_pow_right (by decide) h2
      have h4 : (2 : Nat) ^ 20 = 1048576 := by decide
      omega
theorem bitsN_mono {a b : Nat} (h : a ≤ b) : bitsN a ≤ bitsN b := by
  by_cases ha : a = 0
  · subst ha; exact Nat.zero_le _
  · have h1 : 2 ^ a.log2 ≤ a := Nat.log2_self_le ha
    have := bitsN_ge (Nat.le_trans h1 h)
    have e : bitsN a = a.log2 + 1 := by unfold bitsN; rw [if_neg ha]
    omega
/-- A question of places: what it answers, what holds behind so many askings. -/
def AskAt (g : FuncId) (cb : Array Value) (n : Nat) (q : Nat → Bool) (I : Nat → World → Prop) : Prop :=
  ∀ (k i : Nat) (w : World), k < 100 → i < n → I k w → Calls Tryz.prog g (#[.int .i64 i] ++ cb) w fun e w' => e = .returned (.bool (q i)) ∧ I (k + 1) w'
/-- What Search tells. -/
def SeaPost (p n : Nat) (I : Nat → World → Prop) (e : Ending) (w' : World) : Prop := ∃ k, e = .returned (.int .i64 p) ∧ I k w' ∧ k ≤ bitsN n
set_option maxHeartbeats 4000000 in
theorem sortSearch_calls (g : FuncId) (cb : Array Value) (n p : Nat) (q : Nat → Bool) (I : Nat → World → Prop) (w : World) (hn : n ≤ 1000000) (hg : ∀ args w, (callFunc g args).run Tryz.prog w = .ok (.enter g args) w) (hA : AskAt g cb n q I) (hp : p ≤ n) (hlo : ∀ i, i < p → q i = false) (hhi : ∀ i, p ≤ i → i < n → q i = true) (h0 : I 0 w) :
    Calls Tryz.prog 56 #[.int .i64 n, .func (.func g) #[] cb] w fun e w' => SeaPost p n I e w' := by
  have HLO := hide hlo
  have HHI := hide hhi
  have H0 := hide h0
  clear hlo hhi h0
  go_enter Tryz.func56, Tryz.ntmps56
  go_wp2_with fail
  go_loopw [5, 6] (fun iv jv wr => ∃ i j k : Nat, i ≤ p ∧ p ≤ j ∧ j ≤ n ∧ iv = .int .i64 i ∧ jv = .int .i64 j ∧ Hid (I k wr) ∧ Hid (k + bitsN (j - i) ≤ bitsN n)) (fun iv jv _ => (intOf jv).toNat - (intOf iv).toNat)
  case atStart => exact ⟨0, n, 0, Nat.zero_le _, hp, Nat.le_refl _, rfl, rfl, H0, by unfold Hid; simp⟩
  case round =>
    obtain ⟨i, j, k, hip, hpj, hjn, rfl, rfl, hI, hk⟩ := hrel
    by_cases hlt : i < j
    · have hlt' : (i : Int) < (j : Int) := by omega
      obtain ⟨m, hm⟩ : ∃ m : Nat, m = (i + j) / 2 := ⟨_, rfl⟩
      have hm1 : i ≤ m ∧ m < j := by omega
      have em : ((i : Int) + (j : Int)) / 2 = (m : Int) := by omega
      have e1 : IntKind.i64.wrap ((i : Int) + (j : Int)) = (i : Int) + (j : Int) := by rw [IntKind.wrap_i64]; omega
      have e3 : IntKind.i64.wrap ((m : Int) + 1) = (m : Int) + 1 := by rw [IntKind.wrap_i64]; omega
      have e4 : IntKind.i64.wrap (m : Int) = (m : Int) := by rw [IntKind.wrap_i64]; omega
      have hbits := bitsN_pos (m := j - i) (by omega)
      have hbn := bitsN_le (m := n) (by omega)
      have hA' := hide (hA k m wr (by have := hk.out; omega) (by omega) hI.out)
      clear hbn
      have HB := hide hbits
      have HM := hide hm
      clear hbits hm
      cases hq : q m with
      | false =>
        rw [hq] at hA'
        have hmp : m < p := by
          rcases Nat.lt_or_ge m p with h | h
          · exact h
          · have := HHI.out m h (by omega)
            rw [hq] at this
            cases this
        go_wp2_with fail
        refine hA'.out.mono ?_
        rintro _ w2 ⟨rfl, hI2⟩
        have HI2 := hide hI2
        clear hI2 hA'
        dsimp only
        go_wp2
        go_roundw
        case rel =>
          refine ⟨m + 1, j, k + 1, hmp, hpj, hjn, by first | rfl | congr 1, rfl, HI2, ?_⟩
          unfold Hid
          have h1 := hk.out
          have h2 := HB.out
          have h3 := HM.out
          have h4 : bitsN (j - (m + 1)) ≤ bitsN ((j - i) / 2) := bitsN_mono (by omega)
          omega
        case measure => simp [intOf]; omega
      | true =>
        rw [hq] at hA'
        have hmp : p ≤ m := by
          rcases Nat.lt_or_ge m p with h | h
          · have := HLO.out m h
            rw [hq] at this
            cases this
          · exact h
        go_wp2_with fail
        refine hA'.out.mono ?_
        rintro _ w2 ⟨rfl, hI2⟩
        have HI2 := hide hI2
        clear hI2 hA'
        dsimp only
        go_wp2
        go_roundw
        case rel =>
          refine ⟨i, m, k + 1, hip, hmp, by omega, rfl, by first | rfl | congr 1, HI2, ?_⟩
          unfold Hid
          have h1 := hk.out
          have h2 := HB.out
          have h3 := HM.out
          have h4 : bitsN (m - i) ≤ bitsN ((j - i) / 2) := bitsN_mono (by omega)
          omega
        case measure => simp [intOf]; omega
    · obtain rfl : p = i := by omega
      obtain rfl : p = j := by omega
      have hlt' : ¬ (p : Int) < (p : Int) := by omega
      go_wp2
      go_ret
      exact ⟨k, rfl, hI.out, by have := hk.out; omega⟩
/-- A question of elements. -/
def AskV (g : FuncId) (cb : Array Value) (xs : List ET) (q : Nat → Bool) (I : Nat → World → Prop) : Prop :=
  ∀ (k i : Nat) (w : World), k < 100 → i < xs.length → I k w → Calls Tryz.prog g (#[encE (xs.getD i zeroET)] ++ cb) w fun e w' => e = .returned (.bool (q i)) ∧ I (k + 1) w'
set_option maxHeartbeats 4000000 in
theorem ask1_calls (T h n tb fb : Nat) (g : FuncId) (cb : Array Value) (xs : List ET) (q : Nat → Bool) (I : Nat → World → Prop) (hx : xs.length ≤ 100000) (hg : ∀ args w, (callFunc g args).run Tryz.prog w = .ok (.enter g args) w) (hA : AskV g cb xs q I) (hIu : ∀ k w w', I k w → Up w w' → I k w')
    (hI : ∀ k w, I k w → TrE w T xs h n ∧ w.cell? ⟨tb, 0, none⟩ = some (.pointer (some ⟨T, 0, none⟩)) ∧ w.cell? ⟨fb, 0, none⟩ = some (.func (.func g) #[] cb)) :
    AskAt 85 #[.pointer (some ⟨tb, 0, none⟩), .pointer (some ⟨fb, 0, none⟩)] xs.length q I := by
  intro k i w hk100 hi hIk
  obtain ⟨t, c0, c1⟩ := hI k w hIk
  have HAT := hide (tatE_ok T h n i zeroET xs w t hi hx)
  have HI := hide hIk
  clear t hIk
  go_enter Tryz.func85, Tryz.ntmps85
  go_wp2_with fail
  refine HAT.out.mono ?_
  rintro _ w1 ⟨rfl, hu1⟩
  obtain ⟨x, hxx⟩ : ∃ x, x = xs.getD i zeroET := ⟨_, rfl⟩
  rw [← hxx]
  unfold encE
  replace hxx := hide hxx
  obtain ⟨W2, hW2⟩ : ∃ W2, W2 = w1.alloc (.cells #[.slice x.a x.n x.c, .int .i64 x.id] 51) := ⟨_, rfl⟩
  have hu2 : Up w1 W2 := by rw [hW2]; exact (Up.refl w1).alloc _
  have HI1 := hide (hIu k w _ HI.out (hu1.trans hu2))
  replace c1 := (hu1.trans hu2).cell c1
  have k0 : W2.cell? ⟨w1.heap.size, 0, none⟩ = some (.slice x.a x.n x.c) := by rw [hW2]; go_simp
  have k1 : W2.cell? ⟨w1.heap.size, 1, none⟩ = some (.int .i64 x.id) := by rw [hW2]; go_simp
  replace hW2 := hW2.symm
  clear hu1 hu2 c0 HAT
  dsimp only
  go_wp2_with fail
  clear hW2
  have hA1 := hA k i _ hk100 hi HI1.out
  rw [← hxx.out] at hA1
  unfold encE at hA1
  refine hA1.mono ?_
  rintro _ w2 ⟨rfl, hI2⟩
  have HI2 := hide hI2
  clear hI2
  dsimp only
  go_wp2
  go_ret
  exact ⟨rfl, HI2.out⟩
set_option maxHeartbeats 4000000 in
/-- Search by whatever question: I says what holds behind so many askings. -/
theorem tsearch_calls (T h n p : Nat) (g : FuncId) (cb : Array Value) (xs : List ET) (q : Nat → Bool) (I : Nat → World → Prop) (w W : World) (hW : W = (w.alloc (.cells #[.pointer (some ⟨T, 0, none⟩)] 84)).alloc (.cells #[.func (.func g) #[] cb] 111)) (hx : xs.length ≤ 100000) (hg : ∀ args w, (callFunc g args).run Tryz.prog w = .ok (.enter g args) w) (hA : AskV g cb xs q I) (hIu : ∀ k w w', I k w → Up w w' → I k w')
    (hI : ∀ k w', I k w' → TrE w' T xs h n ∧ w'.cell? ⟨w.heap.size, 0, none⟩ = some (.pointer (some ⟨T, 0, none⟩)) ∧ w'.cell? ⟨w.heap.size + 1, 0, none⟩ = some (.func (.func g) #[] cb))
    (hI0 : I 0 W) (hp : p ≤ xs.length) (hlo : ∀ i, i < p → q i = false) (hhi : ∀ i, p ≤ i → i < xs.length → q i = true) :
    Calls Tryz.prog 64 #[.pointer (some ⟨T, 0, none⟩), .func (.func g) #[] cb] w fun e w' => SeaPost p xs.length I e w' := by
  obtain ⟨t, c0, c1⟩ := hI 0 W hI0
  have HL := hide (tlenE_calls T h n xs W t)
  have HS := hide (sortSearch_calls 85 #[.pointer (some ⟨w.heap.size, 0, none⟩), .pointer (some ⟨w.heap.size + 1, 0, none⟩)] xs.length p _ I W (by omega) (enters_of Tryz.func85 (by kernel_rfl) rfl) (ask1_calls T h n w.heap.size (w.heap.size + 1) g cb xs q I hx hg hA hIu hI) hp hlo hhi hI0)
  have hW' := hW.symm
  clear t hA hI hIu hI0 hW hlo hhi
  go_enter Tryz.func64, Tryz.ntmps64
  go_wp2_with fail
  clear hW'
  refine HL.out.mono ?_
  rintro _ w1 ⟨rfl, hw1⟩
  obtain rfl : W = w1 := hw1.symm
  dsimp only
  go_wp2_with fail
  refine HS.out.mono ?_
  rintro _ w2 ⟨k2, rfl, hI2, hk2⟩
  replace hI2 := hide hI2
  dsimp only
  go_wp2
  go_ret
  exact ⟨k2, rfl, hI2.out, hk2⟩
end Go.Proofs.YtnokokhbcfkifaaGreatDoor
