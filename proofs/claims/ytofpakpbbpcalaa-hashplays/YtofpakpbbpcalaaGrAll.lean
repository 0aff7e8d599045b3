/-
  All of an index that has entries.
-/
import Derived.Test.YtofpakpbbpcalaaGrG
import Derived.Test.YtofpakpbbpcalaaGrEnt
namespace Go.Proofs.Ytofpakpbbpcalaa
open Go.ChangeShapes Go.WideShapes Go.ChangeAt Go.RowKit
set_option linter.unusedVariables false

/-- What stands with each of these keys. -/
def entsOf (T : Tab) (ms : List (List VT)) : List EN := ms.flatMap (fun m => (T m).map (fun i => (m, i)))

theorem idx_grps {p M : Nat} {O K : Nat → Prop} {bl : List VT → Nat} {w : World} {T : Tab} {f : List UInt8 → Option Value} (hG : IdxG K bl p M w T f) (hO : ∀ x, iblk K bl p M T x → O x) (hw : ∀ x, O x → x < w.heap.size) :
    (∀ k1 k2 v, f k1 = some v → f k2 = some v → k1 = k2) ∧ (∀ key v, f key = some v → ∃ m, key = kb m ∧ v = gVal (gOf v) ∧ GrpR w.heap.size T w (gOf v) m) ∧ ∀ m, T m ≠ [] → GoodK m ∧ ∃ v, f (kb m) = some v := by
  have hone : ∀ key v, f key = some v → ∃ m, T m ≠ [] ∧ key = kb m ∧ GoodK m ∧ GrpIn K (bl m) w v m (T m) := fun key v h => by
    obtain ⟨m, hm, rfl⟩ := hG.all key v h
    obtain ⟨hg, val, h1, h2⟩ := hG.here m hm
    rw [h] at h1
    cases h1
    exact ⟨m, hm, rfl, hg, h2⟩
  refine ⟨fun k1 k2 v h1 h2 => ?_, fun key v h => ?_, fun m hm => ?_⟩
  · obtain ⟨m1, a1, rfl, _, ⟨_, _, _, u1, e1, _, _, b1⟩⟩ := hone k1 v h1
    obtain ⟨m2, a2, rfl, _, ⟨_, _, _, u2, e2, _, _, b2⟩⟩ := hone k2 v h2
    rw [e1] at e2
    cases e2
    rw [b1] at b2
    rw [hG.inj m1 m2 a1 a2 (Option.some.inj b2)]
  · obtain ⟨m, a, rfl, hg, ⟨ka, kn, kc, u, e, hv, ho, hb⟩⟩ := hone key v h
    obtain ⟨ua, un, uc, rfl⟩ : ∃ ua un uc, u = .slice ua un uc := by
      rcases ho.2 with ⟨rfl, _⟩ | ⟨g, cap, cur, rfl, _⟩
      · exact ⟨_, _, _, rfl⟩
      · exact ⟨_, _, _, rfl⟩
    subst e
    refine ⟨m, rfl, rfl, a, hg, hv.mono (fun x hx => hw x (hO x (.inl hx))), ho, fun g hg' => ?_, (hG.rise m).1, (hG.rise m).2⟩
    have : bl m = g := Option.some.inj (hb.symm.trans hg')
    rw [← this]
    exact hw _ (hO _ (.inr (.inr (.inr ⟨m, a, rfl⟩))))
  · obtain ⟨hg, val, h1, _⟩ := hG.here m hm
    exact ⟨hg, val, h1⟩

theorem GrpR.up {B : Nat} {T : Tab} {w w' : World} {x : GT} {m : List VT} (h : GrpR B T w x m) (hu : Up w w') : GrpR B T w' x m := h.chg (Chg.of_up (C := fun _ => False) hu) (fun _ _ h => h)

/-- The row that All fills. -/
structure AInv (B : Nat) (w3 : World) (es : List EN) (v : Value) (l : List ET) (wr : World) : Prop where
  own : OwnE wr B v l
  chg : Chg (fun x => x = B) w3 wr
  blk : v.ownBlock = some B ∨ ∃ b, v.ownBlock = some b ∧ w3.heap.size ≤ b
  ent : EntR (fun b => w3.heap.size ≤ b ∧ b < wr.heap.size ∧ ¬ v.ownBlock = some b) wr l es
theorem AInv.up {B : Nat} {w3 wr w' : World} {es : List EN} {v : Value} {l : List ET} (h : AInv B w3 es v l wr) (hu : Up wr w') : AInv B w3 es v l w' :=
  ⟨h.own.up hu, h.chg.andUp hu, h.blk, (h.ent.chg (Chg.of_up (C := fun _ => False) hu) (fun _ _ h => h)).mono (fun b hb => ⟨hb.1, Nat.lt_of_lt_of_le hb.2.1 hu.size, hb.2.2⟩)⟩
theorem AInv.step {B : Nat} {w3 wr wa X w' : World} {es : List EN} {v v' : Value} {l : List ET} {a : Option Addr} {m : List VT} {id : Int} {n : Nat} (h : AInv B w3 es v l wr) (hu : Up wr wa) (hX : Up wa X) (hr : NewRow wr.heap.size wa a n m) (hn : n ≤ 1000)
    (ho : OwnE w' B v' (l ++ [⟨a, n, n, id⟩])) (hg : X.grownBy w' v.ownBlock) (hb : v'.ownBlock = v.ownBlock ∨ v'.ownBlock = some X.heap.size) : AInv B w3 (es ++ [(m, id)]) v' (l ++ [⟨a, n, n, id⟩]) w' := by
  have c1 := chg_grown hg
  have s3 := h.chg.size
  have s1 := (hu.trans hX).size
  have s2 := hg.size
  have sx := hX.size
  have hlt : ∀ b, v.ownBlock = some b → b < wr.heap.size := fun b hb => (h.own.lt b hb).2
  refine ⟨ho, (h.chg.andUp (hu.trans hX)).trans c1 (fun x hx e => ?_), ?_, EntR.snoc ?_ ⟨rfl, Nat.le_refl _, by unfold maxLen; show n ≤ _; omega, ?_⟩⟩
  · rcases h.blk with k | ⟨b, k, k2⟩
    · rw [k] at e; cases e; rfl
    · rw [k] at e; cases e; omega
  · rcases hb with e | e
    · rw [e]; exact h.blk
    · exact .inr ⟨_, e, by omega⟩
  · refine ((h.up (hu.trans hX)).ent.chg c1 (fun x hx e => hx.2.2 e)).mono (fun b hb' => ?_)
    have h1 : b < wr.heap.size ∨ wr.heap.size ≤ b := Nat.lt_or_ge _ _
    refine ⟨hb'.1, by omega, fun e => ?_⟩
    rcases hb with k | k
    · rw [k] at e; exact hb'.2.2 e
    · rw [k] at e; cases e; have := hb'.2.1; omega
  · have hv : ValsO (fun b => wr.heap.size ≤ b ∧ b < wa.heap.size) wa a n m := ⟨hr.1, hr.2.imp (fun h => h) (fun ⟨G, e, k1, k2, _⟩ => ⟨G, 0, e, k1, k2⟩)⟩
    have hv2 := (hv.chg (Chg.of_up (C := fun _ => False) hX) (fun _ _ h => h)).chg c1 (fun x hx e => by have := hlt x e; omega)
    refine hv2.mono (fun b hb' => ⟨by omega, by omega, fun e => ?_⟩)
    rcases hb with k | k
    · rw [k] at e; have := hlt b e; omega
    · rw [k] at e; cases e; omega

theorem entsOf_len (T : Tab) : ∀ (ms : List (List VT)), (∀ m ∈ ms, (T m).length ≤ 1000) → (entsOf T ms).length ≤ ms.length * 1000
  | [], _ => by simp [entsOf]
  | m :: ms, h => by
    have h1 := entsOf_len T ms (fun x hx => h x (by simp [hx]))
    have h2 := h m (by simp)
    simp only [entsOf, List.flatMap_cons, List.length_append, List.length_map, List.length_cons] at h1 ⊢
    omega
theorem entsOf_take (T : Tab) (ms : List (List VT)) (i : Nat) (m : List VT) (h : ms[i]? = some m) : entsOf T (ms.take (i + 1)) = entsOf T (ms.take i) ++ (T m).map (fun j => (m, j)) := by
  rw [List.take_add_one, h]
  simp [entsOf, List.flatMap_append]
theorem take_ids (m : List VT) (L : List Int) (j : Nat) (hj : j < L.length) : (L.take (j + 1)).map (fun i => ((m, i) : EN)) = (L.take j).map (fun i => (m, i)) ++ [(m, L.getD j 0)] := by
  rw [List.take_add_one, List.getElem?_eq_getElem hj, List.getD_eq_getElem?_getD, List.getElem?_eq_getElem hj]
  simp only [List.map_append, Option.toList_some, List.map_cons, List.map_nil, Option.getD_some]

set_option maxHeartbeats 4000000 in
theorem all_calls (p : Nat) (O : Nat → Prop) (u : Bool) (T : Tab) (len c : Nat) (w : World) (hi : Idx p O w u T (len : Int) c) (hl : len ≤ 100000) (hc : c ≤ 1000) :
    Calls Try.prog 20 #[.pointer (some ⟨p, 0, none⟩)] w fun e w' => ∃ v l ms, e = .returned v ∧ OwnE w' w.heap.size v l ∧ EntR (fun b => w.heap.size ≤ b) w' l (entsOf T ms) ∧ ms.Pairwise (fun a b => rowsV a b < 0) ∧ (∀ m, m ∈ ms ↔ T m ≠ []) ∧ Up w w' := by
  obtain ⟨h0, K, bl, M, f, hC, hG, hO⟩ := hi
  obtain ⟨q1, q2, q3⟩ := idx_grps hG hO h0
  have k2 := hC.c2
  have k1 := hC.c1
  have HM := hide hC.map
  have Q1 := hide q1
  have Q2 := hide q2
  have Q3 := hide q3
  obtain ⟨Z, hZ, hmk⟩ := make_ents len hl
  clear hC hG hO h0 q1 q2 q3
  go_enter Try.func20, Try.ntmps20
  have k1' : (w.alloc (.cells Z 39)).cell? ⟨p, 1, none⟩ = some (.map (some M)) := ((Up.refl w).alloc _).cell k1
  go_wp2_with fail
  go_at_call 33
  refine (values_calls M _).mono ?_
  rintro _ w2 ⟨rfl, hw2⟩
  have hu2 : Up w w2 := by rw [hw2]; exact ((Up.refl w).alloc _).alloc _
  have hB : w.heap.size + 1 < w2.heap.size := by rw [hw2]; simp
  have hbm : w2.cell? ⟨w.heap.size + 1, 0, none⟩ = some (.map (some M)) := by rw [hw2]; go_simp
  have hsz : (w.alloc (.cells Z 39)).heap.size = w.heap.size + 1 := by simp
  have hown : OwnE w2 w.heap.size (.slice (some ⟨w.heap.size, 0, none⟩) 0 len) [] := by
    rw [hw2]
    refine OwnG.alloc ⟨by simp, .inr ⟨w.heap.size, len, Z, rfl, Nat.le_refl _, heap_alloc_new _ _, Nat.zero_le _, by unfold maxLen; omega, hZ, by simp⟩⟩ _
  have HU2 := hide hu2
  have HB := hide hB
  have HBM := hide hbm
  have HOW := hide hown
  rw [hsz]
  clear hw2 hu2 hB hbm hsz k1' hmk hown
  go_wp2_with fail
  go_at_call 32
  refine (sortedG_calls w.heap.size (w.heap.size + 1) M c f T w2 (by have := HB.out; omega) HB.out HBM.out (HM.out.up HU2.out) hc Q1.out (fun key v h => by obtain ⟨m, h1, h2, h3⟩ := Q2.out key v h; exact ⟨m, h1, h2, h3.up HU2.out⟩) Q3.out).mono ?_
  rintro _ w3 ⟨a3, c3, gs, ms, rfl, hg3, ht3, hu3⟩
  have HU3 := hide (HU2.out.trans hu3)
  have HG3 := hide hg3
  have HT3 := hide ht3
  have HOW3 := hide (HOW.out.up hu3)
  have HB3 : Hid (w.heap.size < w3.heap.size) := by have := HB.out; have := hu3.size; show _ < _; omega
  have HG4 : Hid (gs = [] ∨ ∃ g, a3 = some ⟨g, 0, none⟩ ∧ w.heap.size < g ∧ ∀ (i : Nat) (x : GT), gs[i]? = some x → GAt w3 g (i * 2) x) := HG3.out.imp id (fun ⟨g, h1, h2, h3⟩ => ⟨g, h1, by have := HB.out; omega, h3⟩)
  clear hg3 ht3 hu3 HOW HBM HB HU2 Q1 Q2 Q3 HM HG3
  go_wp2_with fail
  go_loopw [3, 20] (fun v iu wr => ∃ (i : Nat) (l : List ET), iu = .int .i64 i ∧ i ≤ gs.length ∧ AInv w.heap.size w3 (entsOf T (ms.take i)) v l wr) (fun _ iu _ => gs.length - (intOf iu).toNat)
  case atStart => exact ⟨0, [], rfl, Nat.zero_le _, HOW3.out, Chg.refl _ _, .inl rfl, rfl, fun i x e h => by simp at h⟩
  case round =>
    obtain ⟨i, l, rfl, hi, hinv⟩ := hrel
    have HIV := hide hinv
    clear hinv
    by_cases hlt : i < gs.length
    · obtain ⟨g, rfl, hgB, hcells⟩ : ∃ g, a3 = some ⟨g, 0, none⟩ ∧ w.heap.size < g ∧ ∀ (i : Nat) (x : GT), gs[i]? = some x → GAt w3 g (i * 2) x := by
        rcases HG4.out with h | h
        · rw [h] at hlt; exact absurd hlt (Nat.not_lt_zero i)
        · exact h
      have hx := List.getElem?_eq_getElem hlt
      have hmi : i < ms.length := by rw [HT3.out.len]; exact hlt
      have hm := List.getElem?_eq_getElem hmi
      generalize gs[i] = x at hx
      generalize ms[i] = m at hm
      have hgr := HT3.out.grp i x m hx hm
      obtain ⟨y0, y1⟩ := hcells i x hx
      replace y0 := HIV.out.chg.cell y0 (show ¬ g = w.heap.size by omega)
      replace y1 := HIV.out.chg.cell y1 (show ¬ g = w.heap.size by omega)
      have HET := hide (entsOf_take T ms i m hm)
      have HEL : Hid ((entsOf T (ms.take i)).length ≤ 1000000) := by
        have h1 := entsOf_len T (ms.take i) (fun m' hm' => by
          have hm2 : m' ∈ ms := List.mem_of_mem_take hm'
          obtain ⟨k, hk, rfl⟩ := List.getElem_of_mem hm2
          have hk2 : k < gs.length := by rw [← HT3.out.len]; exact hk
          exact (HT3.out.grp k _ _ (List.getElem?_eq_getElem hk2) (List.getElem?_eq_getElem hk)).few)
        have h2 := HT3.out.few
        have h3 : (ms.take i).length ≤ i := by simp; omega
        show _ ≤ _
        omega
      obtain ⟨xa, xn, xc, xb, xm, xd⟩ := x
      have HGR := hide hgr
      have HXL : Hid (xn = m.length ∧ m.length ≤ 12) := ⟨hgr.key.1.1.symm, hgr.good.1⟩
      have hfew := hgr.few
      have hrd := hgr.own.rd
      obtain ⟨ja, jcap, je, jc1, jc2, jc⟩ := hrd
      cases je
      have HJC : Hid (T m = [] ∨ ∃ g off, xb = some ⟨g, off, none⟩ ∧ g < w.heap.size ∧ ∀ i, i < (T m).length → w3.cell? ⟨g, off + i, none⟩ = some (.int .i64 ((T m).getD i 0))) := jc.imp id (fun ⟨g, off, h1, h2⟩ => ⟨g, off, h1, hgr.blk g (by rw [h1]; rfl), h2⟩)
      have HM2 := hide hm
      have HX2 := hide hx
      clear hgr hcells hx hm jc hmi
      simp only at y0 y1
      have t1 : decide ((i : Int) < gs.length) = true := decide_eq_true (by omega)
      have z1 : (i : Int) < gs.length := by omega
      have z0 : (0 : Int) ≤ (i : Int) := by omega
      have lt7 : gs.length ≤ 1000 := HT3.out.few
      go_wp2_with fail
      obtain ⟨W0, hW0⟩ : ∃ W0, W0 = wr := ⟨_, rfl⟩
      have hbx : (wr.alloc (.cells #[.slice xa xn xc, .slice xb (T m).length xd] 64)).cell? ⟨wr.heap.size, 0, none⟩ = some (.slice xa xn xc) := by go_simp
      rw [← hW0] at hbx HIV ⊢
      clear y0 y1 hW0
      go_loopw [3, 27] (fun v ju wq => ∃ (j : Nat) (k : List ET), ju = .int .i64 j ∧ j ≤ (T m).length ∧ AInv w.heap.size w3 (entsOf T (ms.take i) ++ ((T m).take j).map (fun q => (m, q))) v k wq ∧ wq.cell? ⟨W0.heap.size, 0, none⟩ = some (.slice xa xn xc) ∧ Hid (∀ b, v.ownBlock = some b → ¬ b = W0.heap.size)) (fun _ ju _ => (T m).length - (intOf ju).toNat)
      case atStart =>
        refine ⟨0, l, rfl, Nat.zero_le _, ?_, hbx, fun b hb e => by have := (HIV.out.own.lt b hb).2; omega⟩
        simpa using HIV.out.up ((Up.refl _).alloc _)
      case round =>
        obtain ⟨j, k, rfl, hj, hinv, hbx1, HNB⟩ := hrel
        have HIJ := hide hinv
        clear hinv
        by_cases hjl : j < (T m).length
        · obtain ⟨gj, oj, rfl, hgj, hjc⟩ : ∃ g off, xb = some ⟨g, off, none⟩ ∧ g < w.heap.size ∧ ∀ i, i < (T m).length → w3.cell? ⟨g, off + i, none⟩ = some (.int .i64 ((T m).getD i 0)) := by
            rcases HJC.out with h | h
            · rw [h] at hjl; exact absurd hjl (Nat.not_lt_zero j)
            · exact h
          have y3 := HIJ.out.chg.cell (hjc j hjl) (show ¬ gj = w.heap.size by omega)
          have HTI := hide (take_ids m (T m) j hjl)
          have HKL : Hid (k.length ≤ 2000000) := by
            have h1 := HIJ.out.ent.1
            rw [List.length_append, List.length_map, List.length_take] at h1
            have := HEL.out
            show _ ≤ _
            omega
          have HV := hide ((HGR.out.key.chg HIJ.out.chg (fun b hb e => by omega)).1)
          have t2 : decide ((j : Int) < (T m).length) = true := decide_eq_true (by omega)
          have z3 : (j : Int) < (T m).length := by omega
          have z4 : (0 : Int) ≤ (j : Int) := by omega
          generalize (T m).getD j 0 = id at y3 HTI
          clear hjc
          go_wp2_with fail
          go_at_call 26
          refine (scopy_calls xa xn xc m wr (by have := HXL.out; omega) HV.out HGR.out.good.2.1).mono ?_
          rintro _ wa ⟨a', rfl, hr, hu⟩
          have HR := hide hr
          have HU := hide hu
          have HBX := hide hbx1
          clear hr hu hbx1 y3
          --A2
          go_wp2_with (at_builtin; refine append_ents rfl (.tmp 31) (.tmp 37) rfl w.heap.size _ k rfl ((HIJ.out.own.up HU.out).alloc _) ⟨wa.heap.size, 0, none⟩ 1 1 [⟨a', xn, xn, id⟩] rfl rfl (by simpa using cells_ent_new ⟨a', xn, xn, id⟩) (by have := HKL.out; simp; omega) (by have := HIJ.out.chg.size; have := HB3.out; have := HU.out.size; simp; omega) ?_)
          intro v' w' ho hg hb
          have HST := hide (HIJ.out.step HU.out ((Up.refl _).alloc _) HR.out (by have := HXL.out; omega) ho hg (by simpa using hb))
          have HB9 : Hid (w'.cell? ⟨W0.heap.size, 0, none⟩ = some (.slice xa xn xc)) := (chg_grown hg).cell (((Up.refl wa).alloc _).cell (HU.out.cell HBX.out)) (fun e => HNB.out _ e rfl)
          have HN2 : Hid (∀ b, v'.ownBlock = some b → ¬ b = W0.heap.size) := fun b hb2 e => by
            rcases hb with h | h
            · exact HNB.out b (by rw [← h]; exact hb2) e
            · rw [h] at hb2
              cases hb2
              have := World.block_lt_of_cell? _ _ HBX.out
              have := HU.out.size
              simp only at *
              omega
          clear ho hg hb HIV HIJ
          go_wp2
          go_roundw
          case rel => exact ⟨j + 1, k ++ [⟨a', xn, xn, id⟩], by go_num, by omega, by rw [HTI.out, ← List.append_assoc]; exact HST.out, HB9.out, HN2.out⟩
          case measure => simp [intOf]; omega
        · have t2 : decide ((j : Int) < (T m).length) = false := decide_eq_false (by omega)
          have HD : Hid (AInv w.heap.size w3 (entsOf T (ms.take (i + 1))) u3 k wr) := by
            show AInv _ _ _ _ _ _
            rw [HET.out]
            have h := HIJ.out
            rw [List.take_of_length_le (l := T m) (i := j) (by omega)] at h
            exact h
          clear HIV HIJ hbx1
          go_wp2
          go_roundw
          case rel => exact ⟨i + 1, k, by go_num, by omega, HD.out⟩
          case measure => simp [intOf]; omega
    · have t1 : decide ((i : Int) < gs.length) = false := decide_eq_false (by omega)
      have hie : i = gs.length := by omega
      have HR : Hid (EntR (fun b => w.heap.size ≤ b) wr l (entsOf T ms)) := by
        have h1 := HIV.out.ent
        rw [List.take_of_length_le (by rw [HT3.out.len]; omega)] at h1
        exact h1.mono (fun b hb => by have := hb.1; have := HB3.out; omega)
      have HO := hide HIV.out.own
      have HUU : Hid (Up w wr) := HU3.out.thenChg HIV.out.chg (fun x hx e => by omega)
      have HO1 := hide HT3.out.ord
      have HO2 := hide HT3.out.mem
      clear HIV hie
      go_wp2
      go_ret
      exact ⟨_, l, ms, rfl, HO.out, HR.out, HO1.out, HO2.out, HUU.out⟩

end Go.Proofs.Ytofpakpbbpcalaa
