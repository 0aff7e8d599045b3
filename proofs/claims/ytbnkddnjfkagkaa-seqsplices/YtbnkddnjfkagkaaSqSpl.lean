/-
  Splice, as its text runs: the rows that are asked for go, one by one from the last one on, each right ahead of the one that was moved before.
-/
import Derived.Test.YtbnkddnjfkagkaaSqBck
import Derived.Test.YtbnkddnjfkagkaaSqLib
import Derived.Test.YtbnkddnjfkagkaaSqTwi
import Derived.Test.YtbnkddnjfkagkaaSqFld
namespace Go.Proofs.Ytbnkddnjfkagkaa
open Go.RowKit Go.Shelf
set_option linter.unusedVariables false
set_option maxRecDepth 100000
attribute [local go_sem] Oper.semAt_some

/-- Blocks that are no cells. -/
def NC (w : World) (y : Nat) : Prop := ∃ o : Obj, w.heap[y]? = some o ∧ o.isCells = false
theorem cell_nc {w : World} {p : Addr} {v : Value} (h : w.cell? p = some v) : ¬ NC w p.block := by
  rintro ⟨o, ho, hc⟩
  unfold World.cell? at h
  rw [ho] at h
  cases o <;> simp_all [Obj.isCells]
theorem NodeC.nc {X : Nat → Prop} {w : World} {b : Nat} {ve vb : Value} {n : Nat} (h : NodeC X w b ve vb n) : NodeC (fun y => X y ∨ NC w y) w b ve vb n := ⟨fun e => e.elim h.1 (cell_nc h.2.1), h.2⟩
theorem Rd.nc {α : Type} {enc : α → Value} {X : Nat → Prop} {w : World} {v : Value} {l : List α} (h : Rd enc X w v l) : Rd enc (fun y => X y ∨ NC w y) w v l := by
  obtain ⟨a, cap, h1, h2, h3, h4⟩ := h
  refine ⟨a, cap, h1, h2, h3, ?_⟩
  by_cases hl : l = []
  · exact .inl hl
  · rcases h4 with h4 | ⟨g, off, h5, hx, h6⟩
    · exact absurd h4 hl
    · refine .inr ⟨g, off, h5, fun e => e.elim hx ?_, h6⟩
      cases l with
      | nil => exact absurd rfl hl
      | cons x l => exact cell_nc (h6 0 _ rfl)
theorem Nd.nc {α : Type} {enc : α → Value} {X : Nat → Prop} {w : World} : ∀ {h b : Nat} {xs : List α} {s : Nat}, Nd enc X w h b xs s → Nd enc (fun y => X y ∨ NC w y) w h b xs s
  | 0, b, xs, s, ⟨ve, vb, h1, h2, h3⟩ => ⟨ve, vb, h1.nc, h2.nc, h3⟩
  | h + 1, b, xs, s, ⟨ve, vb, L, h1, h2, h3, h4, h5⟩ => ⟨ve, vb, L, h1.nc, h2, h3.nc, fun q hq => by
      obtain ⟨t, t1, t2, t3⟩ := h4 q hq
      exact ⟨t, t1, t2, Nd.nc t3⟩, h5⟩
variable {Y : Nat → Prop} {p q T M r : Nat} {xs zs : List Int} {h n : Nat} {f : Int → Option Nat} {w w' : World}
theorem TrM.row (t : TrM Y w T xs h n) (hc : Chg (fun y => y = r) w w') (hr : NC w r) : TrM Y w' T xs h n := by
  obtain ⟨b, h1, s, h2, h3⟩ := t
  refine ⟨b, h1.chg hc (fun e => ?_), s, (h2.nc.chg (hc.mono (fun y _ e => .inr (by rw [e]; exact hr)))).mono (fun y _ e => .inl e), h3⟩
  subst e
  exact cell_nc h1.c0 hr
/-- A block that is no cells has turned. -/
theorem SqIx.row (i : SqIx Y q T M xs h n f w) (hc : Chg (fun y => y = r) w w') (hr : NC w r) (hM : M ≠ r) : SqIx Y q T M xs h n f w' := by
  obtain ⟨p, c, ix⟩ := i.ex
  have hne : ∀ {g o : Nat} {v : Value}, w.cell? ⟨g, o, none⟩ = some v → g ≠ r := fun hg e => cell_nc hg (by rw [e]; exact hr)
  exact ⟨⟨p, hc.cell c (hne c), ⟨hc.cell ix.c0 (hne ix.c0), hc.cell ix.c1 (hne ix.c1), ix.tr.row hc hr, ix.mp.chg hc hM, ix.ok, ix.pT, ix.MT, ix.pM, ix.yT, ix.yM, ix.yp, fun g hg => Nat.lt_of_lt_of_le (ix.yl g hg) hc.size⟩⟩, i.qT, i.qM, i.yq⟩
theorem keepsFrom_chg {B : Nat} {C : Nat → Prop} {W W' : World} (hc : Chg C W W') (hC : ∀ k, B ≤ k → ¬ C k) : KeepsFrom B W W' :=
  ⟨hc.size, fun k o hB hk ho => (hc.2 k (by
    rcases Nat.lt_or_ge k W.heap.size with h | h
    · exact h
    · rw [Array.getElem?_eq_none h] at hk; cases hk) (hC k hB)).trans hk⟩
theorem chg_row {W W' : World} {row : Option Nat} (hg : W.grownBy W' row) : Chg (fun y => row = some y) W W' :=
  ⟨⟨hg.os, hg.tape, hg.output, hg.size, fun k hk => absurd hk (Nat.not_lt_zero k)⟩, fun y hy hne => hg.block y hy (fun e => hne e.symm)⟩
theorem shL_len {xs : List Int} {a t : Nat} (ha : a < xs.length) (ht : t ≤ xs.length) : (shL xs a t).length = xs.length := by
  unfold shL
  split
  · rfl
  · have h1 := delL_len xs a ha
    have h2 := shN_lt ha ht
    rw [insL_len _ _ _ (by omega)]
    exact h1
theorem shL_mem {xs : List Int} {a t : Nat} (hn : xs.Nodup) (ha : a < xs.length) {x : Int} : x ∈ shL xs a t ↔ x ∈ xs := by
  unfold shL
  split
  · exact Iff.rfl
  · rw [insL_mem, delL_mem ha hn, getD_in xs ha]
    constructor
    · rintro (h | h)
      · rw [h]; exact List.getElem_mem ha
      · exact h.1
    · intro h
      by_cases e : x = xs[a]
      · exact .inl e
      · exact .inr ⟨h, e⟩
/-- The blocks that a round of Splice may turn. -/
def CS (T M bt B : Nat) : Nat → Prop := fun y => ((y = T ∨ y = M) ∨ y = bt) ∨ B ≤ y
/-- What holds between two rounds of Splice. -/
def SpI (Y : Nat → Prop) (q T M : Nat) (xs0 : List Int) (t0 n0 K bx bt : Nat) (zs : List Int) (w0 : World) (pre : List (BT zs)) (W : World) : Prop :=
  (∃ (xs' : List Int) (tt h' k : Nat) (f' : Int → Option Nat), SqIx (fun y => Y y ∨ y = bt) q T M xs' h' (n0 + k) f' W ∧ (xs', tt) = (pre.map (fun x => x.1.2)).foldl stp (xs0, t0) ∧ k ≤ pre.length * K ∧ xs'.length = xs0.length ∧ (∀ z, z ∈ xs' ↔ z ∈ xs0) ∧ tt ≤ xs'.length ∧
    W.cell? ⟨bt, 0, none⟩ = some (.int .i64 tt)) ∧ W.frozen? ⟨bt, 0, none⟩ = false ∧ W.cell? ⟨bx, 0, none⟩ = some (.pointer (some ⟨q, 0, none⟩)) ∧ Chg (CS T M bt w0.heap.size) w0 W
theorem spI_own {Y : Nat → Prop} {q T M : Nat} {xs0 : List Int} {t0 n0 K bx bt : Nat} {zs : List Int} {w0 : World} (hM : M < w0.heap.size) (hbt : bt < w0.heap.size) : OwnFrom w0.heap.size (SpI Y q T M xs0 t0 n0 K bx bt zs w0) := by
  rintro s W W' row ⟨⟨xs', tt, h', k, f', i1, i2, i3, i4, i5, i6, i7⟩, j1, j2, j3⟩ hg hr
  cases row with
  | none =>
    have hu : Up W W' := (chg_row hg).up (fun x hx e => by cases e)
    exact ⟨⟨xs', tt, h', k, f', i1.up hu, i2, i3, i4, i5, i6, hu.cell i7⟩, (hu.frozen (p := ⟨bt, 0, none⟩) (Nat.lt_of_lt_of_le hbt j3.size)).trans j1, hu.cell j2, j3.andUp hu⟩
  | some r =>
    obtain ⟨hB, o, ho, hc⟩ := hr r rfl
    have hch : Chg (fun y => y = r) W W' := (chg_row hg).mono (fun y _ e => by cases e; rfl)
    have hnc : NC W r := ⟨o, ho, hc⟩
    refine ⟨⟨xs', tt, h', k, f', i1.row hch hnc (by omega), i2, i3, i4, i5, i6, hch.cell i7 (by show ¬ bt = r; omega)⟩, (hch.frozen (p := ⟨bt, 0, none⟩) (Nat.lt_of_lt_of_le hbt j3.size) (by show ¬ bt = r; omega)).trans j1, hch.cell j2 (fun e => cell_nc j2 (by show NC W bx; rw [show bx = r from e]; exact hnc)), j3.trans hch (fun x _ e => by rw [e]; exact .inr hB)⟩
theorem stp_step {xs0 : List Int} {t0 : Nat} {xs' : List Int} {tt : Nat} {zs : List Int} {pre : List (BT zs)} (x : BT zs) (h : (xs', tt) = (pre.map (fun x => x.1.2)).foldl stp (xs0, t0)) : (shL xs' (xs'.idxOf x.1.2) tt, shN (xs'.idxOf x.1.2) tt) = ((pre ++ [x]).map (fun x => x.1.2)).foldl stp (xs0, t0) := by
  rw [List.map_append, List.foldl_append, ← h]
  rfl
theorem tm_cell2 {T M sb o : Nat} {W w' : World} {v : Value} (hc : Chg (TM T M) W w') (h : W.cell? ⟨sb, o, none⟩ = some v) (sT : sb ≠ T) (sM : sb ≠ M) : w'.cell? ⟨sb, o, none⟩ = some v :=
  hc.cell h (fun e => by rcases e with e | e; exact sT e; exact sM e)
set_option maxHeartbeats 4000000 in
theorem splice_ok (v : Value) (zs : List Int) (b : Int) (t : Nat) (hY : ∀ y, Y y → y < w.heap.size) (ix : SqIx Y q T M xs h n f w) (hr : Rd (Value.int .i64) (TM T M) w v zs) (hwf : ∀ z ∈ zs, wf64 z) (ht : TgtAt xs b t) (hwb : wf64 b) (hin : ∀ z ∈ zs, z ∈ xs) (hb : b ∉ zs) (hnd : zs.Nodup) (hx : xs.length ≤ 1000) (hzl : zs.length ≤ 1000) (hn : n ≤ 1000000) :
    Calls Try.prog 17 #[.pointer (some ⟨q, 0, none⟩), v, .int .i64 b] w fun e w' => e = .returned (.int .i64 0) ∧ SqDone Y q T M (zs.reverse.foldl stp (xs, t)).1 n (zs.length * (16 * bitsN (xs.length + 1))) w w' := by
  refine (callsIn_wide (n := 6)).1 ?_
  refine callsIn_of_wp_marks Try.func17 rfl trivial ?_ rfl
  simp only [Try.ntmps17, List.size_toArray, List.length_cons, List.length_nil, Nat.reduceAdd, Nat.reduceSub, Array.replicate_succ, Array.replicate_zero, List.push_toArray, List.append_toArray, List.nil_append, List.cons_append]
  obtain ⟨bx, hbx⟩ : ∃ bx, bx = w.heap.size := ⟨_, rfl⟩
  obtain ⟨wa, hwa⟩ : ∃ wa, wa = w.alloc (.cells #[.pointer (some ⟨q, 0, none⟩)] 24) := ⟨_, rfl⟩
  have ua : Up w wa := by rw [hwa]; exact (Up.refl _).alloc _
  have ca : wa.cell? ⟨bx, 0, none⟩ = some (.pointer (some ⟨q, 0, none⟩)) := by rw [hwa, hbx]; go_simp
  have sa : wa.heap.size = w.heap.size + 1 := by rw [hwa]; simp
  have HTG := hide (target_yes b t (ix.up ua) ht hx)
  have HLK : Hid (∀ w', Up w w' → Calls Try.prog 46 #[v, .func (.func 47) #[.pointer (some ⟨q, 0, none⟩)] #[]] w' fun e w'' => e = .returned (.bool false) ∧ w'' = w') := fun w' hu => containsLacks_calls v zs (TM T M) (ix.up hu) (hr.up hu) hwf (by omega) false (by symm; exact decide_eq_false (fun e => e hin))
  have HCN : Hid (∀ w', Up w w' → Calls Try.prog 48 #[v, .int .i64 b] w' fun e w'' => e = .returned (.bool false) ∧ w'' = w') := fun w' hu => contains64_calls v zs b (TM T M) w' (hr.up hu) (by omega) false (by symm; exact decide_eq_false hb)
  have HTW : Hid (∀ w', Up w w' → Calls Try.prog 49 #[v] w' fun e w'' => e = .returned (.bool false) ∧ Up w' w'') := fun w' hu => hasTwice_calls v zs w' ((hr.up hu).mono (fun _ _ h => h.elim)) hwf (by omega) false (by symm; exact decide_eq_false (fun e => e hnd))
  have HWA := hide hwa
  have HBX := hide hbx
  have HUA := hide ua
  have HCA := hide ca
  have HSA := hide sa
  have HIX := hide ix
  have HR := hide hr
  obtain ⟨va, vn, vc, rfl, hvn, -⟩ := hr.sliceN
  clear hwa hbx ua ca sa ix hr hwf hb hnd hvn
  gi_wp2_with fail
  rw [← HWA.out, ← HBX.out]
  --P1
  refine ⟨trivial, ?_⟩
  refine (callsIn_wide.2 HTG.out).mono ?_
  rintro _ w1 ⟨rfl, hu1⟩
  have HU1 := hide (HUA.out.trans hu1)
  have cb := hu1.cell HCA.out
  have sb1 : Hid (w.heap.size + 1 ≤ w1.heap.size) := by show _ ≤ _; have := hu1.size; have := HSA.out; omega
  obtain ⟨bt, hbt⟩ : ∃ bt, bt = w1.heap.size := ⟨_, rfl⟩
  obtain ⟨W2, hW2⟩ : ∃ W2, W2 = w1.alloc (.cells #[.int .i64 t] 3) := ⟨_, rfl⟩
  have HU2 : Hid (Up w W2) := by rw [hW2]; exact HU1.out.trans ((Up.refl _).alloc _)
  have cb2 : W2.cell? ⟨bx, 0, none⟩ = some (.pointer (some ⟨q, 0, none⟩)) := by rw [hW2]; exact ((Up.refl w1).alloc _).cell cb
  have ct2 : W2.cell? ⟨bt, 0, none⟩ = some (.int .i64 t) := by rw [hW2, hbt]; go_simp
  have ft2 : W2.frozen? ⟨bt, 0, none⟩ = false := by rw [hW2, hbt]; unfold World.frozen?; rw [heap_alloc_new]; rfl
  have HS2 : Hid (w.heap.size + 1 ≤ bt ∧ bt < W2.heap.size) := ⟨by rw [hbt]; exact sb1.out, by rw [hW2, hbt]; simp⟩
  have HI2 : Hid (SqIx (fun y => Y y ∨ y = bt) q T M xs h n f W2) := HIX.out.wide (Z := fun y => y = bt) HU2.out (fun y hy => by have := HS2.out; rw [hy]; omega)
  have cbl : (w1.alloc (.cells #[.int .i64 t] 3)).cell? ⟨bx, 0, none⟩ = some (.pointer (some ⟨q, 0, none⟩)) := ((Up.refl w1).alloc _).cell cb
  have HW2 := hide hW2
  have HBT := hide hbt
  clear hu1 hW2 hbt
  dsimp only
  gi_wp2_with fail
  rw [← HW2.out, ← HBT.out]
  clear cbl cb
  --P2
  refine ⟨trivial, ?_⟩
  refine (callsIn_wide.2 (HLK.out _ HU2.out)).mono ?_
  rintro _ w3 ⟨rfl, hw3⟩
  subst hw3
  dsimp only
  gi_wp2_with fail
  --P3
  refine ⟨trivial, ?_⟩
  refine (callsIn_wide.2 (HCN.out _ HU2.out)).mono ?_
  rintro _ w3 ⟨rfl, hw3⟩
  subst hw3
  dsimp only
  gi_wp2_with fail
  refine ⟨trivial, ?_⟩
  refine (callsIn_wide.2 (HTW.out _ HU2.out)).mono ?_
  rintro _ w4 ⟨rfl, hu4⟩
  replace cb2 := hu4.cell cb2
  replace ct2 := hu4.cell ct2
  replace ft2 := (hu4.frozen (p := ⟨bt, 0, none⟩) HS2.out.2).trans ft2
  have HI4 := hide (HI2.out.up hu4)
  have HU4 := hide (HU2.out.trans hu4)
  have HS4 : Hid (bt < w4.heap.size) := Nat.lt_of_lt_of_le HS2.out.2 hu4.size
  clear hu4
  dsimp only
  gi_wp2_with fail
  --P4
  refine ⟨trivial, ?_⟩
  refine (callsIn_wide.2 (back_calls va vn vc w4)).mono ?_
  rintro _ w5 ⟨rfl, hw5⟩
  obtain ⟨Bs, hBs⟩ : ∃ Bs, Bs = w4.heap.size := ⟨_, rfl⟩
  have hu5 : Up w4 w5 := by rw [hw5]; exact (Up.refl _).alloc _
  have cs5 : w5.cell? ⟨Bs, 0, none⟩ = some (.slice va vn vc) := by rw [hw5, hBs]; go_simp
  have HB5 : Hid (w5.heap.size = Bs + 1) := by unfold Hid; rw [hw5, hBs]; simp
  have HSB : Hid (bt < Bs) := by unfold Hid; rw [hBs]; exact HS4.out
  replace cb2 := hu5.cell cb2
  replace ct2 := hu5.cell ct2
  replace ft2 := (hu5.frozen (p := ⟨bt, 0, none⟩) HS4.out).trans ft2
  have HI5 := hide (HI4.out.up hu5)
  have HU5 := hide (HU4.out.trans hu5)
  have HTM : Hid (T < w.heap.size ∧ M < w.heap.size ∧ w.heap.size < bt ∧ bx < bt) := ⟨HIX.out.ltT, HIX.out.ltM, by have := HS2.out; omega, by have := HS2.out; have := HBX.out; omega⟩
  have HBSC : Hid (¬ CS T M bt w5.heap.size Bs) := by
    rintro (((e | e) | e) | e) <;> have := HTM.out <;> have := HSB.out <;> have := HB5.out <;> omega
  have HR5 : Hid (Rd (Value.int .i64) (CS T M bt w5.heap.size) w5 (.slice va vn vc) zs) := by
    have h1 : Rd (Value.int .i64) (fun y => TM T M y ∨ y = bt) w (.slice va vn vc) zs := HR.out.mono (fun y hy e => by
      rcases e with e | e
      · exact e
      · have := HTM.out; omega)
    exact (h1.up HU5.out).mono (fun y hy e => by
      rcases e with e | e
      · exact e
      · omega)
  rw [← hBs]
  clear hw5 hBs hu5
  dsimp only
  gi_wp2_with fail
  --P5
  have hMl : M < w5.heap.size := by have := HTM.out; have := HB5.out; have := HSB.out; omega
  have hbl : bt < w5.heap.size := by have := HB5.out; have := HSB.out; omega
  have h0 : SpI Y q T M xs t n (16 * bitsN (xs.length + 1)) bx bt zs w5 [] w5 := ⟨⟨xs, t, h, 0, f, HI5.out, rfl, by simp, rfl, fun _ => Iff.rfl, ht.le, ct2⟩, ft2, cb2, Chg.refl _ _⟩
  refine wpIn_rangeFunc_ownG rfl (by omega) (gf := 64) (lb := #[.pointer (some ⟨Bs, 0, none⟩)]) rfl trivial (enters_of Try.func64 (by kernel_rfl) rfl)
    (back_stops Fence.wide 5 trivial rfl (by omega) (CS T M bt w5.heap.size) Bs _ zs w5 HBSC.out cs5 HR5.out hzl) (fun h k => h.trans k (fun _ _ h => h))
    (fun W l o o' hl ho _ _ => (chg_row (grownBy_putObj' W l o')).mono (fun y _ e => by cases e; exact .inr hl)) (Below.refl _ _) (fun _ => rfl)
    (SpI Y q T M xs t n (16 * bitsN (xs.length + 1)) bx bt zs w5) (fun _ _ _ => False) (spI_own hMl hbl) (fun _ _ _ _ _ hs _ _ => hs) h0
    (fun x => { tmps := #[.pointer (some ⟨q, 0, none⟩), .slice va vn vc, .int .i64 b, .pointer (some ⟨bx, 0, none⟩), undef, undef, .int .i64 0, .pointer (some ⟨bt, 0, none⟩), .bool true, undef, .int .i64 x.1.2, undef, undef, .tuple #[.int .i64 t, .bool true], .pointer (some ⟨q, 0, none⟩), .int .i64 b, .tuple #[.int .i64 t, .bool true], .int .i64 t, .bool true, .bool true, .bool false, .bool false, .slice va vn vc, .pointer (some ⟨q, 0, none⟩), .func (.func 47) #[.pointer (some ⟨q, 0, none⟩)] #[], .bool false, .bool false, .slice va vn vc, .int .i64 b, .bool false, .bool false, .slice va vn vc, .bool false, .bool false, .slice va vn vc, .func (.func 64) #[] #[.pointer (some ⟨Bs, 0, none⟩)], .int .i64 (x.1.1 : Nat), .int .i64 x.1.2, undef, undef, undef, undef, undef, undef, undef, undef, undef, undef], defers := [] }) ?assign ?body ?done ?stop
  case assign =>
    intro l x W K hK
    gi_wp2
    exact hK
  case body =>
    rintro l pre ⟨⟨j, z⟩, hz⟩ W ⟨⟨xs', tt, h', k, f', i1, i2, i3, i4, i5, i6, i7⟩, j1, j2, j3⟩ hlen
    have hzm : z ∈ xs' := (i5 z).2 (hin z (List.mem_of_getElem? hz))
    obtain ⟨a, ha⟩ : ∃ a, a = xs'.idxOf z := ⟨_, rfl⟩
    have hal : a < xs'.length := by rw [ha]; exact List.idxOf_lt_length_of_mem hzm
    have hae : xs'[a] = z := by simp only [ha]; exact List.getElem_idxOf _
    have HPL := hide (sqplace_yes a z i1 hal hae (by omega))
    have hkn : n + k ≤ 9000000 := by
      have hb := bitsN_le (m := xs.length + 1) (by omega)
      have : pre.length * (16 * bitsN (xs.length + 1)) ≤ 1000 * 1600 := Nat.mul_le_mul (by omega) (by omega)
      omega
    have HSH : Hid (∀ W', Up W W' → Calls Try.prog 43 #[.pointer (some ⟨q, 0, none⟩), .int .i64 a, .int .i64 tt] W' fun e w' => e = .returned (.int .i64 (shN a tt : Nat)) ∧ SqDone (fun y => Y y ∨ y = bt) q T M (shL xs' a tt) (n + k) (16 * bitsN (xs'.length + 1)) W' w') := fun W' hu => shift_calls a tt _ (i1.up hu) hal i6 rfl (by omega) hkn
    have hstp := stp_step (⟨(j, z), hz⟩ : BT zs) i2
    dsimp only at hstp
    rw [← ha] at hstp
    have HST := hide hstp
    have HI1 := hide i1
    have HJ3 := hide j3
    have HI5' := hide i5
    have HK3 := hide i3
    have HML : Hid ((shL xs' a tt).length = xs'.length ∧ ∀ y, y ∈ shL xs' a tt ↔ y ∈ xs') := ⟨shL_len hal i6, fun y => shL_mem i1.ok.nd hal⟩
    have HTT : Hid (shN a tt ≤ xs'.length) := Nat.le_of_lt (shN_lt hal i6)
    have HLT : Hid (bt < W.heap.size ∧ bx < W.heap.size) := ⟨World.block_lt_of_cell? W _ i7, World.block_lt_of_cell? W _ j2⟩
    clear i1 i2 i3 i5 hzm ha hae hstp j3 hal hkn
    gi_wp2_with fail
    --B1
    refine ⟨trivial, ?_⟩
    refine (CallsIn.inRound l (callsIn_wide.2 HPL.out)).mono ?_
    rintro _ w6 ⟨rfl, hu6⟩
    replace i7 := hu6.cell i7
    replace j2 := hu6.cell j2
    replace j1 := (hu6.frozen (p := ⟨bt, 0, none⟩) HLT.out.1).trans j1
    have HU6 := hide hu6
    clear hu6 HPL
    dsimp only
    gi_wp2_with fail
    --B2
    refine ⟨trivial, ?_⟩
    refine (CallsIn.inRound l (callsIn_wide.2 (HSH.out _ HU6.out))).mono ?_
    rintro _ w7 ⟨rfl, hd7⟩
    obtain ⟨h7, k7, f7, i17, hk7, hc7⟩ := hd7
    have hbT : bt ≠ T := by have := HTM.out; omega
    have hbM : bt ≠ M := by have := HTM.out; omega
    replace i7 := tm_cell2 hc7 i7 hbT hbM
    replace j1 := (hc7.frozen (p := ⟨bt, 0, none⟩) (Nat.lt_of_lt_of_le HLT.out.1 HU6.out.size) (fun e => by rcases e with e | e; exact hbT e; exact hbM e)).trans j1
    have hxT : bx ≠ T ∧ bx ≠ M := by have := HTM.out; have := HBX.out; omega
    replace j2 := tm_cell2 hc7 j2 hxT.1 hxT.2
    have HI7 := hide i17
    have HC7 := hide hc7
    have HK7 := hide hk7
    clear i17 hc7 hk7 HSH
    dsimp only
    gi_wp2_with fail
    --B3
    have hcs : Chg (fun y => y = bt) w7 (w7.setCell ⟨bt, 0, none⟩ (.int .i64 (shN a tt : Nat))) := (Chg.refl _ w7).set (C := fun y => y = bt) (p := ⟨bt, 0, none⟩) (fun _ => rfl) _
    have hch : Chg (CS T M bt w5.heap.size) W (w7.setCell ⟨bt, 0, none⟩ (.int .i64 (shN a tt : Nat))) :=
      ((Chg.of_up (C := CS T M bt w5.heap.size) HU6.out).trans HC7.out (fun _ _ e => .inl (.inl e))).trans hcs (fun _ _ e => .inl (.inr e))
    have hch2 : Chg (fun y => TM T M y ∨ y = bt) W (w7.setCell ⟨bt, 0, none⟩ (.int .i64 (shN a tt : Nat))) :=
      ((Chg.of_up (C := fun y => TM T M y ∨ y = bt) HU6.out).trans HC7.out (fun _ _ e => .inl e)).trans hcs (fun _ _ e => .inr e)
    refine ⟨keepsFrom_chg hch2 (fun k hk e => ?_), hch, ⟨shL xs' a tt, shN a tt, h7, k + k7, f7, ?_, HST.out, ?_, HML.out.1.trans i4, fun y => (HML.out.2 y).trans (HI5'.out y), by rw [HML.out.1]; exact HTT.out, World.cell?_setCell_same _ _ _ i7⟩, ?_, ?_, HJ3.out.trans hch (fun _ _ e => e)⟩
    · have := HTM.out
      rcases e with (e | e) | e <;> omega
    · rw [← Nat.add_assoc]
      exact HI7.out.other hcs (fun y e => .inr e)
    · rw [List.length_append, List.length_singleton, Nat.add_mul]
      have h1 := HK7.out
      rw [i4] at h1
      have h2 := HK3.out
      omega
    · rw [World.frozen?_setCell]; exact j1
    · exact (World.cell?_setCell_other _ _ _ _ (fun e => by have := HTM.out; injection e with e1; omega)).trans j2
  case done =>
    rintro D ys W hD hS ⟨⟨xs', tt, h', k, f', i1, i2, i3, i4, i5, i6, i7⟩, j1, j2, j3⟩ hK
    have hlen : ys.length = zs.length := by
      have := congrArg List.length hS
      simpa [bkL] using this
    have hfold : xs' = (zs.reverse.foldl stp (xs, t)).1 := by
      have h1 : ys.map (fun x => x.1.2) = zs.reverse := by
        rw [← bkL_vals, ← hS, List.map_map]
        rfl
      rw [h1] at i2
      rw [← i2]
    gi_wp2
    refine ⟨by simp, .inl ⟨_, _, rfl, run_takeDeferred hK, ?_⟩⟩
    have hrow : Chg (fun y => y = D) W (W.putObj D (.deferred none)) := (chg_row (grownBy_putObj' W D (.deferred none))).mono (fun y _ e => by cases e; rfl)
    have hnc : NC W D := ⟨_, hK, rfl⟩
    refine ⟨_, results_tmp rfl _ _ _, rfl, h', k, f', ?_, by rw [← hlen]; exact i3, ?_⟩
    · rw [← hfold]
      exact (i1.narrow (fun y e => .inl e)).row hrow hnc (by omega)
    · refine ((Chg.of_up (C := TM T M) HU5.out).trans j3 (fun x hxl e => ?_)).trans hrow (fun x hxl e => ?_)
      · have := HTM.out
        rcases e with (e | e) | e
        · exact e
        · omega
        · have := HU5.out.size; omega
      · have := HU5.out.size; omega
  case stop =>
    rintro D c pre W _ _ h _
    exact h.elim
end Go.Proofs.Ytbnkddnjfkagkaa
