/-
  SeqSplices of rialtolaw13, as its text runs: it tells true.
-/
import Derived.Test.YtbnkddnjfkagkaaSqRow
import Derived.WalkSpells
namespace Go.Proofs.Ytbnkddnjfkagkaa
open Go.ChangeShapes Go.WideShapes Go.ChangeAt Go.RowKit
set_option linter.unusedVariables false
set_option maxRecDepth 100000
attribute [local go_sem ↓] Go.wp_at_zero Go.wp_at_succ

/-- The choice: bit v of the word, but not b. -/
def bitC (W : Nat) (b : Int) : Int → Bool := fun v => decide ((W / 2 ^ v.toNat) % 2 = 1) && decide (v ≠ b)
/-- What holds while the reader makes its row. -/
def SwIn (w : World) (q T M : Nat) (zs ids L : List Int) (b : Int) (iv lv : Value) (i : Nat) (wv : Value) (wr : World) : Prop :=
  ∃ (h n : Nat) (f : Int → Option Nat), SqIx (fun y => wv.ownBlock = some y) q T M zs h n f wr ∧ Up w wr ∧ Own 2 (Value.int .i64) wr w.heap.size wv (wantL ids b (L.take i)) ∧ Rd (Value.int .i64) (fun y => TM T M y ∨ wv.ownBlock = some y) wr iv ids ∧ Rd (Value.int .i64) (fun y => TM T M y ∨ wv.ownBlock = some y) wr lv L
/-- What holds while rows are put in. -/
def SsIn (w : World) (q T M i : Nat) (c : Int → Bool) (iv lv : Value) (wr : World) : Prop :=
  ∃ (h n : Nat) (f : Int → Option Nat), SqIx (fun y => lv.ownBlock = some y) q T M (ups i) h n f wr ∧ n ≤ 800 * i ∧ Up w wr ∧ Own 2 (Value.int .i64) wr w.heap.size lv (leL c i) ∧ Rd (Value.int .i64) (fun y => TM T M y ∨ lv.ownBlock = some y) wr iv (chL c i)
theorem up_new {w wr w' : World} (hu : Up w wr) {C : Nat → Prop} (hc : Chg C wr w') (hC : ∀ y, C y → w.heap.size ≤ y) : Up w w' :=
  ((Chg.of_up (C := C) hu).trans hc (fun _ _ h => h)).up (fun x hx e => by have := hC x e; omega)
set_option maxHeartbeats 8000000 in
theorem seqSplices_walked (a0 a1 a2 : Int) (w : World) (h0 : 0 ≤ a0 ∧ a0 ≤ 255) (h1 : 0 ≤ a1 ∧ a1 ≤ 65535) (h2 : 0 ≤ a2 ∧ a2 ≤ 255) :
    Calls Try.prog 5 #[.int .u8 a0, .int .u16 a1, .int .u8 a2] w fun e w' => e = .returned (.bool true) ∧ Up w w' := by
  obtain ⟨N, rfl⟩ : ∃ k : Nat, a0 = (k : Int) := ⟨a0.toNat, by omega⟩
  obtain ⟨WH, rfl⟩ : ∃ k : Nat, a1 = (k : Int) := ⟨a1.toNat, by omega⟩
  obtain ⟨BF, rfl⟩ : ∃ k : Nat, a2 = (k : Int) := ⟨a2.toNat, by omega⟩
  obtain ⟨k, hk⟩ : ∃ k : Nat, k = N % 14 + 1 := ⟨_, rfl⟩
  have ek0 : (N : Int).tmod 14 = ((N % 14 : Nat) : Int) := rfl
  have ek1 : (N : Int) % 14 = (k : Int) - 1 := by omega
  have ek2 : IntKind.i64.wrap ((k : Int) - 1) = (k : Int) - 1 := by rw [IntKind.wrap_i64]; omega
  have ek3 : IntKind.i64.wrap ((k : Int) - 1 + 1) = (k : Int) := by rw [IntKind.wrap_i64]; omega
  have ek4 : (k : Int) - 1 + 1 = (k : Int) := by omega
  have hk1 : 1 ≤ k := by omega
  have hk2 : k ≤ 14 := by omega
  obtain ⟨B, hB⟩ : ∃ B : Nat, B = BF % (k + 1) := ⟨_, rfl⟩
  have hBk : B ≤ k := by have := Nat.mod_lt BF (show k + 1 > 0 by omega); omega
  have eb0 : IntKind.i64.wrap (BF : Int) = (BF : Int) := by rw [IntKind.wrap_i64]; omega
  have eb1 : IntKind.i64.wrap ((k : Int) + 1) = (k : Int) + 1 := by rw [IntKind.wrap_i64]; omega
  have eb2 : (BF : Int) % ((k : Int) + 1) = (B : Int) := by rw [hB]; simp
  have eb2t : (BF : Int).tmod ((k : Int) + 1) = (B : Int) := by rw [hB]; rfl
  have zk : ¬ ((k : Int) + 1 = 0) := by omega
  clear h0 h2 ek0 hk hB
  go_enter Try.func5, Try.ntmps5
  go_wp2_with fail
  refine (known13_calls w).mono ?_
  rintro _ wk ⟨rfl, huk⟩
  replace huk := hide huk
  dsimp only
  go_wp2_with fail
  refine (sqnew_calls wk).mono ?_
  rintro _ w0 ⟨q, T, M, rfl, ix0, hqw, hTw, hMw, hu0⟩
  have hT : w.heap.size ≤ T := Nat.le_trans huk.out.size hTw
  have hM : w.heap.size ≤ M := Nat.le_trans huk.out.size hMw
  have HA0 : Hid (SsIn w q T M 0 (bitC WH B) (.slice none 0 0) (.slice none 0 0) w0) := ⟨0, 0, _, ix0.narrow (fun y e => by cases e), Nat.le_refl _, huk.out.trans hu0, Own.nil _ _ _ _, Rd.nil _ _ _⟩
  clear ix0 hu0 hqw hTw hMw ek1 ek2 ek3 ek4
  dsimp only
  --S1
  go_wp2_with fail
  clear eb0 eb1 eb2 eb2t
  --S2
  go_loopw [9, 10, 12] (fun av lv iv wr => ∃ i : Nat, i ≤ k ∧ iv = .int .i64 ((i + 1 : Nat) : Int) ∧ Hid (SsIn w q T M i (bitC WH B) av lv wr)) (fun _ _ iv _ => k + 1 - (intOf iv).toNat)
  case atStart => exact ⟨0, Nat.zero_le _, rfl, HA0⟩
  case round =>
    obtain ⟨i, hik, rfl, hin⟩ := hrel
    clear HA0
    obtain ⟨j, hj⟩ : ∃ j : Nat, j = i + 1 := ⟨_, rfl⟩
    rw [← hj]
    by_cases hlt : i < k
    · have hjk : j ≤ k := by omega
      have hjk' : (j : Int) ≤ (k : Int) := by omega
      obtain ⟨h, n, f, ix, hn, hu, hol, hri⟩ := hin.out
      have HAD := hide (sqadd_ok (j : Int) ix (wf64_small (by omega)) (by rw [ups_mem]; omega) (by rw [ups_len]; omega) (by omega))
      have hji : (i : Int) + 1 = (j : Int) := by omega
      have hins : ups i ++ [(j : Int)] = ups (i + 1) := by rw [← hji]; exact ups_succ i
      rw [hins] at HAD
      have HOL := hide hol
      have HRI := hide hri
      have HU := hide hu
      have HIX := hide ix
      have hbb : Hid (8 * bitsN ((ups i).length + 1) ≤ 800) := by have := bitsN_le (m := (ups i).length + 1) (by rw [ups_len]; omega); show _ ≤ _; omega
      obtain ⟨ai, ni, ci, rfl, hni, -⟩ := hri.sliceN
      obtain ⟨al, nl, cl, rfl, hnl, -⟩ := hol.sliceN
      have HNN : Hid ((chL (bitC WH B) i).length ≤ 14 ∧ (leL (bitC WH B) i).length ≤ 14) := ⟨Nat.le_trans (chL_len _ _) (by omega), Nat.le_trans (leL_len _ _) (by omega)⟩
      have HJ := hide hj
      have HJI := hide hji
      clear hin ix hu hol hri hni hnl hins hj hji
      go_wp2_with fail
      refine HAD.out.mono ?_
      rintro _ w1 ⟨rfl, hd1⟩
      obtain ⟨h1', k1, f1, ix1, hk1', hc1⟩ := hd1
      have HIX1 := hide ix1
      have HC1 := hide hc1
      have hnn : n + k1 ≤ 800 * (i + 1) := by have := hbb.out; omega
      have hlT : T < w1.heap.size ∧ M < w1.heap.size := ⟨ix1.ltT, ix1.ltM⟩
      have hyT : ∀ g, (Value.slice al nl cl).ownBlock = some g → g ≠ T ∧ g ≠ M ∧ g < w1.heap.size := fun g hg => ⟨fun e => HIX.out.yT' (by rw [← e]; exact hg), fun e => HIX.out.yM' (by rw [← e]; exact hg), Nat.lt_of_lt_of_le (HOL.out.lt g hg).2 hc1.size⟩
      have HOL1 : Hid (Own 2 (Value.int .i64) w1 w.heap.size (.slice al nl cl) (leL (bitC WH B) i)) := HOL.out.chg hc1 (fun g hg e => by
        have := hyT g hg
        rcases e with e | e
        · exact this.1 e
        · exact this.2.1 e)
      have HRI1 : Hid (Rd (Value.int .i64) (fun y => TM T M y ∨ (Value.slice al nl cl).ownBlock = some y) w1 (.slice ai ni ci) (chL (bitC WH B) i)) := HRI.out.chg (hc1.mono (fun y _ e => .inl e))
      have HU1 : Hid (Up w w1) := up_new HU.out hc1 (fun y e => by rcases e with e | e <;> omega)
      have HYT := hide hyT
      obtain ⟨D, hD⟩ : ∃ D : Nat, D = WH / 2 ^ j := ⟨_, rfl⟩
      have hDc : (WH : Int) / 2 ^ j = (D : Int) := by rw [hD]; simp
      have hcj : bitC WH B ((i : Int) + 1) = (decide (D % 2 = 1) && decide ((j : Int) ≠ (B : Int))) := by
        unfold bitC
        rw [HJI.out, Int.toNat_natCast, hD]
      have HCJ := hide hcj
      have ew : IntKind.i64.wrap ((j : Int) + 1) = (j : Int) + 1 := by rw [IntKind.wrap_i64]; omega
      clear ix1 hc1 hyT hcj hD HAD
      dsimp only
      --S3
      by_cases hd : D % 2 = 1
      · have e1 : (D : Int) % 2 = 1 := by omega
        have e1t : (D : Int).tmod 2 = 1 := by
          have : (D : Int).tmod 2 = ((D % 2 : Nat) : Int) := rfl
          rw [this, hd]; rfl
        rw [← hDc] at e1 e1t
        by_cases hjb : j = B
        · have n1 : ((j : Int) != (B : Int)) = false := by simp [hjb]
          have hcf : bitC WH B ((i : Int) + 1) = false := by rw [HCJ.out]; simp [hjb]
          have HCH := hide (chL_no (c := bitC WH B) hcf)
          have HLE := hide (leL_no (c := bitC WH B) hcf)
          rw [HJI.out] at HLE
          clear hcf hjb hd hDc
          have hu2 : Up w1 (w1.alloc (.cells #[.int .i64 j] 2)) := (Up.refl _).alloc _
          have HO2 := hide (HOL1.out.up hu2)
          have HIX2 := hide (HIX1.out.up hu2)
          have HRI2 := hide (HRI1.out.up hu2)
          have HU2 := hide (HU1.out.trans hu2)
          have HR2 : Hid (Rd (Value.int .i64) (fun _ => False) (w1.alloc (.cells #[.int .i64 j] 2)) (.slice (some ⟨w1.heap.size, 0, none⟩) 1 1) [(j : Int)]) := rd_one (fun h => h) (by go_simp)
          clear hu2
          go_wp2_with (at_builtin; refine append_rd elemL rfl _ _ rfl w.heap.size _ _ (leL (bitC WH B) i) [(j : Int)] rfl rfl HO2.out HR2.out (by have := HNN.out; simp; omega) HU2.out.size ?_)
          intro v' w' ho' hg' hb'
          have hu' := hide (own_below HU2.out HO2.out hg')
          have hix' := hide (HIX2.out.app hg' (by rw [World.size_alloc]; exact hb') (fun g hg => (ho'.lt g hg).2))
          have hri' := hide (rd_app HRI2.out hg' (by rw [World.size_alloc]; exact hb'))
          have HF : Hid (SsIn w q T M (i + 1) (bitC WH B) (.slice ai ni ci) v' w') := ⟨h1', n + k1, f1, hix'.out, hnn, hu'.out, by rw [HLE.out]; exact ho', by rw [HCH.out]; exact hri'.out⟩
          obtain ⟨a9, n9, c9, rfl, -, -⟩ := ho'.sliceN
          clear ho' hg' hb' hix' hri'
          go_wp2
          go_roundw
          case rel => exact ⟨i + 1, by omega, by have := HJ.out; simp <;> omega, HF⟩
          case measure => have := HJ.out; simp [intOf] <;> omega
        · have n1 : ((j : Int) != (B : Int)) = true := by simp; omega
          have hcf : bitC WH B ((i : Int) + 1) = true := by rw [HCJ.out]; simp [hd]; omega
          have HCH := hide (chL_yes (c := bitC WH B) hcf)
          have HLE := hide (leL_yes (c := bitC WH B) hcf)
          rw [HJI.out] at HCH
          clear hcf hd hjb hDc
          have hu2 : Up w1 (w1.alloc (.cells #[.int .i64 j] 2)) := (Up.refl _).alloc _
          have HO2 : Hid (Own 2 (Value.int .i64) (w1.alloc (.cells #[.int .i64 j] 2)) w1.heap.size (.slice (some ⟨w1.heap.size, 0, none⟩) 1 1) [(j : Int)]) := Own.new1 w1 (j : Int)
          have HR2 := hide (HRI1.out.up hu2)
          have HU2 := hide hu2
          clear hu2
          go_wp2_with (at_builtin; refine append_rd elemL rfl _ _ rfl w1.heap.size _ _ [(j : Int)] (chL (bitC WH B) i) rfl rfl HO2.out HR2.out (by have := HNN.out; simp; omega) HU2.out.size ?_)
          intro v' w' ho' hg' _
          have hu' := hide (own_below HU2.out HO2.out hg')
          have hri' : Hid (Rd (Value.int .i64) (fun y => TM T M y ∨ (Value.slice al nl cl).ownBlock = some y) w' v' ([(j : Int)] ++ chL (bitC WH B) i)) := Own.rd ho' (fun g hg e => by
            have hgl := (ho'.lt g hg).1
            rcases e with (e | e) | e
            · omega
            · omega
            · have := (HYT.out g e).2.2; omega)
          have HF : Hid (SsIn w q T M (i + 1) (bitC WH B) v' (.slice al nl cl) w') := ⟨h1', n + k1, f1, HIX1.out.up hu'.out, hnn, HU1.out.trans hu'.out, by rw [HLE.out]; exact HOL1.out.up hu'.out, by rw [HCH.out]; exact hri'.out⟩
          obtain ⟨a9, n9, c9, rfl, -, -⟩ := ho'.sliceN
          clear ho' hg' hri'
          go_wp2
          go_roundw
          case rel => exact ⟨i + 1, by omega, by have := HJ.out; simp <;> omega, HF⟩
          case measure => have := HJ.out; simp [intOf] <;> omega
      · have e1 : (D : Int) % 2 = 0 := by omega
        have e1t : (D : Int).tmod 2 = 0 := by
          have : (D : Int).tmod 2 = ((D % 2 : Nat) : Int) := rfl
          rw [this, show D % 2 = 0 by omega]; rfl
        rw [← hDc] at e1 e1t
        have hcf : bitC WH B ((i : Int) + 1) = false := by rw [HCJ.out]; simp [hd]
        have HCH := hide (chL_no (c := bitC WH B) hcf)
        have HLE := hide (leL_no (c := bitC WH B) hcf)
        rw [HJI.out] at HLE
        clear hcf hd hDc
        have hu2 : Up w1 (w1.alloc (.cells #[.int .i64 j] 2)) := (Up.refl _).alloc _
        have HO2 := hide (HOL1.out.up hu2)
        have HIX2 := hide (HIX1.out.up hu2)
        have HRI2 := hide (HRI1.out.up hu2)
        have HU2 := hide (HU1.out.trans hu2)
        have HR2 : Hid (Rd (Value.int .i64) (fun _ => False) (w1.alloc (.cells #[.int .i64 j] 2)) (.slice (some ⟨w1.heap.size, 0, none⟩) 1 1) [(j : Int)]) := rd_one (fun h => h) (by go_simp)
        clear hu2
        go_wp2_with (at_builtin; refine append_rd elemL rfl _ _ rfl w.heap.size _ _ (leL (bitC WH B) i) [(j : Int)] rfl rfl HO2.out HR2.out (by have := HNN.out; simp; omega) HU2.out.size ?_)
        intro v' w' ho' hg' hb'
        have hu' := hide (own_below HU2.out HO2.out hg')
        have hix' := hide (HIX2.out.app hg' (by rw [World.size_alloc]; exact hb') (fun g hg => (ho'.lt g hg).2))
        have hri' := hide (rd_app HRI2.out hg' (by rw [World.size_alloc]; exact hb'))
        have HF : Hid (SsIn w q T M (i + 1) (bitC WH B) (.slice ai ni ci) v' w') := ⟨h1', n + k1, f1, hix'.out, hnn, hu'.out, by rw [HLE.out]; exact ho', by rw [HCH.out]; exact hri'.out⟩
        obtain ⟨a9, n9, c9, rfl, -, -⟩ := ho'.sliceN
        clear ho' hg' hb' hix' hri'
        go_wp2
        go_roundw
        case rel => exact ⟨i + 1, by omega, by have := HJ.out; simp <;> omega, HF⟩
        case measure => have := HJ.out; simp [intOf] <;> omega
    · obtain rfl : i = k := by omega
      have hjk' : ¬ (j : Int) ≤ (i : Int) := by omega
      have hjk : ¬ j ≤ i := by omega
      have HJ := hide hj
      clear hj
      obtain ⟨h, n, f, ix, hn, hu, hol, hri⟩ := hin.out
      obtain ⟨ids, hids⟩ : ∃ ids, ids = chL (bitC WH B) i := ⟨_, rfl⟩
      obtain ⟨L, hL⟩ : ∃ L, L = leL (bitC WH B) i := ⟨_, rfl⟩
      have hcb : bitC WH B (B : Int) = false := by unfold bitC; simp
      obtain ⟨t, ht⟩ : ∃ t : Nat, ((B : Int) = 0 ∧ t = i) ∨ ((B : Int) = (t : Int) + 1 ∧ t < i) := by
        by_cases hB0 : B = 0
        · exact ⟨i, .inl ⟨by omega, rfl⟩⟩
        · exact ⟨B - 1, .inr ⟨by omega, by omega⟩⟩
      have htg : TgtAt (ups i) (B : Int) t := by
        rcases ht with ⟨h1, h2⟩ | ⟨h1, h2⟩
        · exact .inl ⟨h1, by rw [h2, ups_len]⟩
        · exact .inr ⟨by omega, by rw [h1]; exact ups_at h2⟩
      have hwant := splice_want (bitC WH B) i (B : Int) t ht hcb
      have HSP := hide (splice_ok u9 (chL (bitC WH B) i) (B : Int) t (fun y hy => ix.yl' y hy) ix (hri.mono (fun y _ e => .inl e)) (fun z hz => wf64_small (by have := (ups_mem i z).1 (chL_mem.1 hz).1; omega)) htg (wf64_small (by omega)) (fun z hz => (chL_mem.1 hz).1) (fun e => by have := (chL_mem.1 e).2; rw [hcb] at this; cases this) (chL_nodup _ _) (by rw [ups_len]; omega) (by have := chL_len (bitC WH B) i; omega) (by omega))
      rw [hwant, ← hids, ← hL] at HSP
      rw [← hids] at hri
      rw [← hL] at hol
      have hnl : ids.length ≤ 14 ∧ L.length ≤ 14 := by
        rw [hids, hL]
        exact ⟨Nat.le_trans (chL_len _ _) (by omega), Nat.le_trans (leL_len _ _) (by omega)⟩
      have HNL := hide hnl
      have HOL := hide hol
      have HRI := hide hri
      have HU := hide hu
      have HIX := hide ix
      obtain ⟨ai, ni, ci, rfl, hni, -⟩ := hri.sliceN
      obtain ⟨al, nl, cl, rfl, hnl2, -⟩ := hol.sliceN
      have HN2 : Hid (nl = L.length) := hnl2
      obtain ⟨Z, hZ⟩ : ∃ Z, Z = wantL ids (B : Int) L ++ (if (B : Int) = 0 then ids else []) := ⟨_, rfl⟩
      rw [← hZ] at HSP
      have HZ := hide hZ
      clear hin ix hu hol hri hids hL hcb ht htg hwant hnl hni hnl2 hZ
      --S5x
      go_wp2_with fail
      refine HSP.out.mono ?_
      rintro _ w1 ⟨rfl, hd1⟩
      obtain ⟨h1', k1, f1, ix1, hk1', hc1⟩ := hd1
      have hyT : ∀ g, (Value.slice al nl cl).ownBlock = some g → ¬ TM T M g := fun g hg e => by
        rcases e with e | e
        · exact HIX.out.yT' (by rw [← e]; exact hg)
        · exact HIX.out.yM' (by rw [← e]; exact hg)
      have hlT : T < w1.heap.size ∧ M < w1.heap.size := ⟨ix1.ltT, ix1.ltM⟩
      have HB0 : Hid (SwIn w q T M Z ids L (B : Int) (.slice ai ni ci) (.slice al nl cl) 0 (.slice none 0 0) w1) :=
        ⟨h1', n + k1, f1, ix1.narrow (fun y e => by cases e), up_new HU.out hc1 (fun y e => by rcases e with e | e <;> omega), Own.nil _ _ _ _,
          (HRI.out.chg (hc1.mono (fun y _ e => .inl e))).mono (fun y _ e => by
            rcases e with e | e
            · exact .inl e
            · cases e),
          (Own.rd (HOL.out.chg hc1 hyT) (fun g hg e => by
            rcases e with e | e
            · exact hyT g hg e
            · cases e))⟩
      clear ix1 hk1' hc1 hyT HSP
      dsimp only
      go_wp2_with fail
      --S6
      go_loopw [13, 14] (fun wv jv wr => ∃ j : Nat, j ≤ nl ∧ jv = .int .i64 j ∧ Hid (SwIn w q T M Z ids L (B : Int) (.slice ai ni ci) (.slice al nl cl) j wv wr)) (fun _ jv _ => nl - (intOf jv).toNat)
      case atStart => exact ⟨0, Nat.zero_le _, rfl, HB0⟩
      case round =>
        obtain ⟨m, hm, rfl, hs⟩ := hrel
        clear HB0
        obtain ⟨h, n, f, ix, hu, how, hri, hrl⟩ := hs.out
        obtain ⟨aw, nw, cw, rfl, hnw, -⟩ := how.sliceN
        have hwl : Hid ((wantL ids (B : Int) (L.take m)).length ≤ 1000) := by
          have hlen : ∀ P : List Int, (wantL ids (B : Int) P).length ≤ 15 * P.length := fun P => by
            induction P with
            | nil => exact Nat.le_refl _
            | cons v P ih =>
              show ((if v = (B : Int) then ids ++ [v] else [v]) ++ wantL ids (B : Int) P).length ≤ _
              rw [List.length_append, List.length_cons]
              have : (if v = (B : Int) then ids ++ [v] else [v]).length ≤ 15 := by
                have := HNL.out.1
                split
                · rw [List.length_append]; simp; omega
                · simp
              omega
          have h1 := hlen (L.take m)
          have h2 : (L.take m).length ≤ 14 := by rw [List.length_take]; have := HNL.out.2; omega
          show _ ≤ _
          omega
        have JIX := hide ix
        have JU := hide hu
        have JOW := hide how
        have JRI := hide hri
        have JRL := hide hrl
        clear ix hu how hri hrl hs hnw
        by_cases hlt : m < nl
        · have hlt' : (m : Int) < (nl : Int) := by omega
          have m0 : (0 : Int) ≤ (m : Int) := by omega
          have hml : m < L.length := by rw [← HN2.out]; exact hlt
          obtain ⟨x, hx⟩ : ∃ x, L[m]? = some x := ⟨_, List.getElem?_eq_getElem hml⟩
          have hxe := (List.getElem?_eq_some_iff.1 hx).2
          have htk : L.take (m + 1) = L.take m ++ [x] := by rw [List.take_add_one, hx]; rfl
          obtain ⟨gl, ol, rfl, hcl⟩ := JRL.out.get (i := m) hml
          rw [hxe] at hcl
          have hnl14 : nl ≤ 14 := by rw [HN2.out]; exact HNL.out.2
          have em : IntKind.i64.wrap ((m : Int) + 1) = (m : Int) + 1 := by rw [IntKind.wrap_i64]; omega
          have hLB0 : L[m]'hml = x := hxe
          clear hx hxe
          by_cases hxb : x = (B : Int)
          · have hLB : L[m]'hml = (B : Int) := by rw [hLB0, hxb]
            subst hxb
            clear hLB0
            have HTK : Hid (wantL ids (B : Int) (L.take (m + 1)) = wantL ids (B : Int) (L.take m) ++ (ids ++ [(B : Int)])) := by
              unfold Hid
              rw [htk, wantL_snoc, if_pos rfl]
            clear htk
            go_wp2_with (at_builtin; refine append_rd elemL rfl _ _ rfl w.heap.size _ _ (wantL ids (B : Int) (L.take m)) ids rfl rfl JOW.out JRI.out (by have := hwl.out; have := HNL.out; omega) JU.out.size ?_)
            intro v' w' ho' hg' hb'
            have hu' := hide (own_below JU.out JOW.out hg')
            have hix' := hide (JIX.out.app hg' hb' (fun g hg => (ho'.lt g hg).2))
            have hri' := hide (rd_app JRI.out hg' hb')
            have hrl' := hide (rd_app JRL.out hg' hb')
            obtain ⟨g2, o2, he2, hcl2⟩ := hrl'.out.get (i := m) hml
            cases he2
            have hLm : L[m] = (B : Int) := hLB
            rw [hLm] at hcl2
            obtain ⟨a8, n8, c8, rfl, -, -⟩ := ho'.sliceN
            have HO' := hide ho'
            clear ho' hg' hb' hcl hLm hLB
            have hu2 : Up w' (w'.alloc (.cells #[.int .i64 B] 2)) := (Up.refl _).alloc _
            have HO3 := hide (HO'.out.up hu2)
            have HIX3 := hide (hix'.out.up hu2)
            have HRI3 := hide (hri'.out.up hu2)
            have HRL3 := hide (hrl'.out.up hu2)
            have HU3 := hide (hu'.out.trans hu2)
            have HR3 : Hid (Rd (Value.int .i64) (fun _ => False) (w'.alloc (.cells #[.int .i64 B] 2)) (.slice (some ⟨w'.heap.size, 0, none⟩) 1 1) [(B : Int)]) := rd_one (fun h => h) (by go_simp)
            clear hu2
            go_wp2_with (at_builtin; refine append_rd elemL rfl _ _ rfl w.heap.size _ _ (wantL ids (B : Int) (L.take m) ++ ids) [(B : Int)] rfl rfl HO3.out HR3.out (by have := And.intro hwl.out HNL.out; simp <;> omega) HU3.out.size ?_)
            intro v5 w5 ho5 hg5 hb5
            have hu5 := hide (own_below HU3.out HO3.out hg5)
            have hix5 := hide (HIX3.out.app hg5 (by rw [World.size_alloc]; exact hb5) (fun g hg => (ho5.lt g hg).2))
            have hri5 := hide (rd_app HRI3.out hg5 (by rw [World.size_alloc]; exact hb5))
            have hrl5 := hide (rd_app HRL3.out hg5 (by rw [World.size_alloc]; exact hb5))
            have HF : Hid (SwIn w q T M Z ids L (B : Int) (.slice ai ni ci) (.slice (some ⟨gl, ol, none⟩) nl cl) (m + 1) v5 w5) := ⟨h, n, f, hix5.out, hu5.out, by rw [HTK.out]; exact ho5, hri5.out, hrl5.out⟩
            obtain ⟨a9, n9, c9, rfl, -, -⟩ := ho5.sliceN
            clear ho5 hg5 hb5 hix5 hri5 hrl5
            go_wp2
            go_roundw
            case rel => exact ⟨m + 1, by omega, by simp, HF⟩
            case measure => simp [intOf]; omega
          · have e0 : ¬ x = (B : Int) := hxb
            clear hLB0
            have HTK : Hid (wantL ids (B : Int) (L.take (m + 1)) = wantL ids (B : Int) (L.take m) ++ [x]) := by
              unfold Hid
              rw [htk, wantL_snoc, if_neg hxb]
            clear htk hxb
            have hu2 : Up wr (wr.alloc (.cells #[.int .i64 x] 2)) := (Up.refl _).alloc _
            have HO3 := hide (JOW.out.up hu2)
            have HIX3 := hide (JIX.out.up hu2)
            have HRI3 := hide (JRI.out.up hu2)
            have HRL3 := hide (JRL.out.up hu2)
            have HU3 := hide (JU.out.trans hu2)
            have HR3 : Hid (Rd (Value.int .i64) (fun _ => False) (wr.alloc (.cells #[.int .i64 x] 2)) (.slice (some ⟨wr.heap.size, 0, none⟩) 1 1) [(x : Int)]) := rd_one (fun h => h) (by go_simp)
            clear hu2
            go_wp2_with (at_builtin; refine append_rd elemL rfl _ _ rfl w.heap.size _ _ (wantL ids (B : Int) (L.take m)) [(x : Int)] rfl rfl HO3.out HR3.out (by have := hwl.out; simp <;> omega) HU3.out.size ?_)
            intro v5 w5 ho5 hg5 hb5
            have hu5 := hide (own_below HU3.out HO3.out hg5)
            have hix5 := hide (HIX3.out.app hg5 (by rw [World.size_alloc]; exact hb5) (fun g hg => (ho5.lt g hg).2))
            have hri5 := hide (rd_app HRI3.out hg5 (by rw [World.size_alloc]; exact hb5))
            have hrl5 := hide (rd_app HRL3.out hg5 (by rw [World.size_alloc]; exact hb5))
            have HF : Hid (SwIn w q T M Z ids L (B : Int) (.slice ai ni ci) (.slice (some ⟨gl, ol, none⟩) nl cl) (m + 1) v5 w5) := ⟨h, n, f, hix5.out, hu5.out, by rw [HTK.out]; exact ho5, hri5.out, hrl5.out⟩
            obtain ⟨a9, n9, c9, rfl, -, -⟩ := ho5.sliceN
            clear ho5 hg5 hb5 hix5 hri5 hrl5
            go_wp2
            go_roundw
            case rel => exact ⟨m + 1, by omega, by simp, HF⟩
            case measure => simp [intOf]; omega
        · obtain rfl : m = nl := by omega
          have hlt' : ¬ (m : Int) < (m : Int) := by omega
          have hfull : L.take m = L := by rw [HN2.out, List.take_length]
          rw [hfull] at JOW hwl
          clear hfull
          by_cases hB0 : (B : Int) = 0
          · have d0 : ((B : Int) == 0) = true := by simp [hB0]
            have HZ2 : Hid (Z = wantL ids (B : Int) L ++ ids) := by unfold Hid; rw [HZ.out, if_pos hB0]
            clear hB0
            go_wp2_with (at_builtin; (refine append_rd elemL rfl _ _ rfl w.heap.size _ _ (wantL ids (B : Int) L) ids rfl rfl JOW.out JRI.out (by have := hwl.out; have := HNL.out; omega) JU.out.size ?_))
            intro v' w' ho' hg' hb'
            have hu' := hide (own_below JU.out JOW.out hg')
            have hix' := hide (JIX.out.app hg' hb' (fun g hg => (ho'.lt g hg).2))
            rw [← HZ2.out] at ho'
            obtain ⟨a8, n8, c8, rfl, -, -⟩ := ho'.sliceN
            have HO' := hide ho'
            have HZL : Hid (Z.length ≤ 2000) := by unfold Hid; rw [HZ2.out, List.length_append]; have := hwl.out; have := HNL.out; omega
            have HAL := hide (sqall_calls hix'.out (by have := HZL.out; omega))
            clear ho' hg' hb'
            go_wp2_with fail
            refine HAL.out.mono ?_
            rintro _ w6 ⟨v6, rfl, ho6, hu6⟩
            have HO6 := hide ho6
            have HU6 := hide hu6
            obtain ⟨a7, n7, c7, rfl, -, -⟩ := ho6.sliceN
            clear ho6 hu6
            dsimp only
            go_wp2_with fail
            refine (ids_same (fun _ => False) (fun _ => False) _ _ Z w6 (Own.rd HO6.out (fun _ _ h => h)) (Own.rd (HO'.out.up HU6.out) (fun _ _ h => h)) (by have := HZL.out; omega)).mono ?_
            rintro _ w7 ⟨rfl, hu7⟩
            have HU7 := hide (hu'.out.trans (HU6.out.trans hu7))
            clear hu7
            dsimp only
            go_wp2
            go_ret
            exact ⟨rfl, HU7.out⟩
          · have d0 : ((B : Int) == 0) = false := by simpa using hB0
            have HZ2 : Hid (Z = wantL ids (B : Int) L) := by unfold Hid; rw [HZ.out, if_neg hB0, List.append_nil]
            clear hB0
            have HO' := JOW
            rw [← HZ2.out] at HO'
            have HZL : Hid (Z.length ≤ 2000) := by unfold Hid; rw [HZ2.out]; have := hwl.out; omega
            have HAL := hide (sqall_calls JIX.out (by have := HZL.out; omega))
            go_wp2_with fail
            refine HAL.out.mono ?_
            rintro _ w6 ⟨v6, rfl, ho6, hu6⟩
            have HO6 := hide ho6
            have HU6 := hide hu6
            obtain ⟨a7, n7, c7, rfl, -, -⟩ := ho6.sliceN
            clear ho6 hu6
            dsimp only
            go_wp2_with fail
            refine (ids_same (fun _ => False) (fun _ => False) _ _ Z w6 (Own.rd HO6.out (fun _ _ h => h)) (Own.rd (HO'.out.up HU6.out) (fun _ _ h => h)) (by have := HZL.out; omega)).mono ?_
            rintro _ w7 ⟨rfl, hu7⟩
            have HU7 := hide (JU.out.trans (HU6.out.trans hu7))
            clear hu7
            dsimp only
            go_wp2
            go_ret
            exact ⟨rfl, HU7.out⟩
end Go.Proofs.Ytbnkddnjfkagkaa
