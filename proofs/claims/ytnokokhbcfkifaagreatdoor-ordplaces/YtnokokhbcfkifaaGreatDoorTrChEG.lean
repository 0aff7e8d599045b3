/-
  changed of a counted tree of entries, as its text runs.
  changed of a counted tree of entries: a node that has nodes below it, as its text runs.
  changed, of a node of whatever height, and change of a counted tree of entries, as their text runs.
-/
import Derived.Test.YtnokokhbcfkifaaGreatDoorTrFnEG
import Derived.Deep.CutRange
namespace Go.Proofs.YtnokokhbcfkifaaGreatDoor
open Go.ChangeShapes Go.WideShapes Go.ChangeAt Go.RowKit
set_option linter.unusedVariables false
set_option maxRecDepth 100000
attribute [local go_sem ↓] Go.wp_at_zero Go.wp_at_succ

/-- What is asked of the function that works on a leaf's elements. -/
def DoIsE (T : Nat) (Y : Nat → Prop) (g : FuncId) (cb : Array Value) (S : Bool) (f : List ET → Nat → List ET) (D : World → Prop) (w0 : World) (xs : List ET) (i : Nat) : Prop :=
  ∀ (W : World) (es a b : List ET) (j : Nat) (ve : Value), Up w0 W → xs = a ++ (es ++ b) → i = a.length + j → Ok S es.length j → es.length ≤ 8 → OwnV 51 eC W w0.heap.size ve es →
    Calls Tryz.prog g (#[ve, .int .i64 j] ++ cb) W fun e W' => ∃ v', e = .returned v' ∧ OwnV 51 eC W' 0 v' (f es j) ∧ (∀ g, v'.ownBlock = some g → ve.ownBlock = some g ∨ W.heap.size ≤ g) ∧ Chg (fun y => Y y ∨ ve.ownBlock = some y) W W' ∧ D W'
/-- What changed tells. -/
def ChangedPostE (X : Nat → Prop) (T : Nat) (Y : Nat → Prop) (tv : Value) (n h : Nat) (zs : List ET) (s : Nat) (D : World → Prop) (w : World) (e : Ending) (w' : World) : Prop :=
  ∃ v u t k, e = .returned (.agg #[v, u]) ∧ Ld eC X w' h v u zs t ∧ t ≤ s + 1 ∧ s ≤ t + 1 ∧ TrC w' T tv (n + k) ∧ k ≤ 2 * h ∧ (h ≠ 0 → 1 ≤ k) ∧ D w' ∧ Chg (XT T Y) w w'

set_option maxHeartbeats 4000000 in
/-- Of a leaf. -/
theorem changedE_leaf (X : Nat → Prop) (T n : Nat) (Y : Nat → Prop) (tv : Value) (g : FuncId) (cb : Array Value) (S : Bool) (f : List ET → Nat → List ET) (D : World → Prop) (w0 w : World) (xs ys a c : List ET) (i j b s : Nat)
    (hf : Local S f) (hg : ∀ args w, (callFunc g args).run Tryz.prog w = .ok (.enter g args) w) (hD : DoIsE T Y g cb S f D w0 xs i) (hDs : ∀ W W', D W → Chg (fun y => ¬ Y y) W W' → D W') (hYT : ¬ Y T) (hYo : ∀ y, XT T Y y → y < w0.heap.size) (hc : Up w0 w)
    (hXY : ∀ y, XT T Y y → X y) (hXo : ∀ y, X y → y < w.heap.size) (hT : TrC w T tv n) (hn : Nd eC X w 0 b ys s) (hs : s ≤ 8) (hxs : xs = a ++ (ys ++ c)) (hi : i = a.length + j) (hok : Ok S ys.length j) :
    Calls Tryz.prog 80 #[.pointer (some ⟨T, 0, none⟩), .pointer (some ⟨b, 0, none⟩), .int .i64 j, .func (.func g) #[] cb] w fun e w' => ChangedPostE X T Y tv n 0 (f ys j) s D w e w' := by
  have HN := hide hn
  obtain ⟨ve, vb, ⟨hX, c0, c1, c2⟩, hr, hb, rfl⟩ := hn
  obtain ⟨ae, ne, ce, rfl, -, -⟩ := hr.sliceN
  have HR := hide hr
  have HT := hide hT
  have HO := hide hYo
  have HC := hide hc
  have HXS := hide hxs
  have HI := hide hi
  have HOK := hide hok
  have HS := hide hs
  clear hr hT hYo hc hxs hi hok hs hb c1 c2
  obtain ⟨W, hW⟩ : ∃ W, W = w.alloc (.cells #[.slice none 0 0, .slice none 0 0] 115) := ⟨_, rfl⟩
  have uW : Hid (Up w W) := by rw [hW]; exact (Up.refl _).alloc _
  have hk0 : RB [w.heap.size] W W := ⟨Chg.refl _ _, fun r hr => by
    obtain rfl := List.mem_singleton.1 hr
    rw [hW]
    exact ⟨by go_simp, by go_simp, by go_simp, by go_simp⟩⟩
  have hWs : w.heap.size < W.heap.size := by rw [hW]; simp
  replace c0 := uW.out.cell c0
  have hW' := hW.symm
  clear hW
  go_enter Tryz.func80, Tryz.ntmps80
  go_wp2_with (go_at_call 72; refine (leafE_calls X 0 b ys _ _ (HN.out.chg (Chg.of_up uW.out)) (fun h => absurd rfl h)).mono ?_; rintro _ w1 ⟨rfl, hw1⟩; obtain rfl : W = w1 := hw1.symm; clear hW')
  refine (cloneE_calls _ ys X _ (HR.out.up uW.out) (Nat.le_trans HS.out (by decide))).mono ?_
  rintro _ w2 ⟨v2, rfl, ho2, hu2⟩
  obtain ⟨a2, n2, d2, rfl, -, -⟩ := ho2.sliceN
  have HO2 := hide ho2
  have HU2 := hide hu2
  have hk2 := hide (hk0.up hu2)
  clear ho2 hu2 hk0 c0
  go_wp2_with fail
  have hsz0 : w0.heap.size ≤ w.heap.size := HC.out.size
  have hC2 : Up w0 w2 := HC.out.trans (uW.out.trans HU2.out)
  refine (hD w2 ys a c j _ hC2 HXS.out HI.out HOK.out HS.out (HO2.out.base (Nat.le_trans hsz0 uW.out.size))).mono ?_
  rintro _ w3 ⟨v3, rfl, hr3, hb3v, hc3, hd3⟩
  have hb3w : ∀ y, (v3.ownBlock = some y) → W.heap.size ≤ y := fun y hy => by
    rcases hb3v y hy with h | h
    · exact (HO2.out.lt _ h).1
    · exact Nat.le_trans HU2.out.size h
  obtain ⟨a3, n3, d3, rfl, -, -⟩ := hr3.sliceN
  have hnR : ¬ (Y w.heap.size ∨ (Value.slice a2 n2 d2).ownBlock = some w.heap.size) := by
    rintro (h | h)
    · have := HO.out _ (.inr h); omega
    · have := (HO2.out.lt _ h).1; omega
  have hnT : ¬ (Y T ∨ (Value.slice a2 n2 d2).ownBlock = some T) := by
    rintro (h | h)
    · exact hYT h
    · have := (HO2.out.lt _ h).1; have := HO.out T (.inl rfl); omega
  obtain ⟨hb0, hb1, hb2, hb3⟩ := hk2.out.box w.heap.size (by simp)
  obtain ⟨x0, g0⟩ := Option.isSome_iff_exists.1 hb0
  obtain ⟨x1, g1⟩ := Option.isSome_iff_exists.1 hb1
  have hRl : w.heap.size < w2.heap.size := World.block_lt_of_cell? _ _ g0
  replace g0 := hc3.cell g0 hnR
  replace g1 := hc3.cell g1 hnR
  have g2 := (hc3.frozen (p := ⟨w.heap.size, 0, none⟩) hRl hnR).trans hb2
  have g3 := (hc3.frozen (p := ⟨w.heap.size, 1, none⟩) hRl hnR).trans hb3
  have HT3 : Hid (TrC w3 T tv n) := (HT.out.up (uW.out.trans HU2.out)).chg hc3 hnT
  have HC3 : Hid (Chg (XT T Y) w w3) := (Chg.of_up (C := XT T Y) (uW.out.trans HU2.out)).trans hc3 (fun y hy h => by
    rcases h with h | h
    · exact .inr h
    · have := (HO2.out.lt _ h).1; have := uW.out.size; omega)
  have HR3 := hide hr3
  have HD3 := hide hd3
  have HB3 := hide hb3w
  clear hr3 hc3 hd3 hb3v hb3w hnR hnT hb0 hb1 hb2 hb3 hk2 hRl hC2
  go_wp2
  have k0 : ((w3.setCell ⟨w.heap.size, 0, none⟩ (.slice a3 n3 d3)).setCell ⟨w.heap.size, 1, none⟩ (.slice none 0 0)).cell? ⟨w.heap.size, 0, none⟩ = some (.slice a3 n3 d3) := set2_c0 g0
  have k1 : ((w3.setCell ⟨w.heap.size, 0, none⟩ (.slice a3 n3 d3)).setCell ⟨w.heap.size, 1, none⟩ (.slice none 0 0)).cell? ⟨w.heap.size, 1, none⟩ = some (.slice none 0 0) := set2_c1 g1
  have s1 := set2_chg w3 w.heap.size (.slice a3 n3 d3) (.slice none 0 0)
  have hYR : ¬ Y w.heap.size := fun h => by have := HO.out _ (.inr h); omega
  refine bodyPost_ret (v := .agg #[.slice a3 n3 d3, .slice none 0 0]) (by simp [results, Tryz.results80, go_sem, k0, k1]) rfl ⟨_, _, (f ys j).length, 0, rfl, ⟨?_, Emp.nil, rfl⟩, hf.more ys j HOK.out, hf.less ys j HOK.out, HT3.out.chg s1 (fun e => ?_), Nat.zero_le _, fun h => absurd rfl h, hDs _ _ HD3.out (s1.mono (fun y _ e => by rw [show y = w.heap.size from e]; exact hYR)), HC3.out.trans s1 (fun y hy e => by have e' : y = w.heap.size := e; omega)⟩
  · refine OwnV.rd (e := 51) (base := 0) (HR3.out.chg s1 (fun g hg e => ?_)) (fun g hg hx => ?_)
    · have e' : g = w.heap.size := e
      have := HB3.out g hg
      omega
    · have := hXo g hx
      have := HB3.out g hg
      omega
  · have e' : T = w.heap.size := e
    have := HO.out T (.inl rfl)
    omega
end Go.Proofs.YtnokokhbcfkifaaGreatDoor

namespace Go.Proofs.YtnokokhbcfkifaaGreatDoor
open Go.ChangeShapes Go.WideShapes Go.ChangeAt Go.RowKit
set_option linter.unusedVariables false
set_option maxRecDepth 100000
attribute [local go_sem ↓] Go.wp_at_zero Go.wp_at_succ

/-- What holds behind the joining: the nodes from frm up to to_ are to be replaced by what the box lb has. -/
def TailInE (X : Nat → Prop) (T : Nat) (Y : Nat → Prop) (tv : Value) (n h : Nat) (L : List (Nat × List ET)) (res : List ET) (D : World → Prop) (w : World) (R lb frm to_ : Nat) (wx : World) : Prop :=
  ∃ lv lu t zs k, wx.cell? ⟨lb, 0, none⟩ = some lv ∧ wx.cell? ⟨lb, 1, none⟩ = some lu ∧ Ld eC (fun y => X y ∨ y = R ∨ y = lb) wx h lv lu zs t ∧ 4 ≤ t ∧ t ≤ 16 ∧ res = (L.take frm).flatMap (·.2) ++ (zs ++ (L.drop to_).flatMap (·.2)) ∧ frm < to_ ∧ to_ ≤ L.length ∧ to_ ≤ frm + 2 ∧ TrC wx T tv (n + k) ∧ k ≤ 2 * h ∧ D wx ∧ Chg (XT T Y) w wx ∧ (wx.cell? ⟨R, 0, none⟩).isSome = true ∧ (wx.cell? ⟨R, 1, none⟩).isSome = true ∧ wx.frozen? ⟨R, 0, none⟩ = false ∧ wx.frozen? ⟨R, 1, none⟩ = false
set_option maxHeartbeats 8000000 in
/-- Of a node that has others below it. -/
theorem changedE_inner (X : Nat → Prop) (T n h : Nat) (Y : Nat → Prop) (tv : Value) (g : FuncId) (cb : Array Value) (S : Bool) (f : List ET → Nat → List ET) (D : World → Prop) (w0 w : World) (xs ys a c : List ET) (i j b s : Nat)
    (ih : ∀ (X : Nat → Prop) (w : World) (n : Nat) (ys a c : List ET) (j b s : Nat), (∀ y, XT T Y y → X y) → (∀ y, X y → y < w.heap.size) → Up w0 w → TrC w T tv n → n ≤ 10000000 → Nd eC X w h b ys s → s ≤ 8 → (h ≠ 0 → 2 ≤ s) → xs = a ++ (ys ++ c) → i = a.length + j → Ok S ys.length j →
      Calls Tryz.prog 80 #[.pointer (some ⟨T, 0, none⟩), .pointer (some ⟨b, 0, none⟩), .int .i64 j, .func (.func g) #[] cb] w fun e w' => ChangedPostE X T Y tv n h (f ys j) s D w e w')
    (hf : Local S f) (hDs : ∀ W W', D W → Chg (fun y => ¬ Y y) W W' → D W') (hYT : ¬ Y T) (hYo : ∀ y, XT T Y y → y < w0.heap.size) (hc : Up w0 w) (hbig : xs.length ≤ 100000)
    (hXY : ∀ y, XT T Y y → X y) (hXo : ∀ y, X y → y < w.heap.size) (hT : TrC w T tv n) (hnn : n ≤ 10000000) (hn : Nd eC X w (h + 1) b ys s) (hs : s ≤ 8) (hs2 : 2 ≤ s) (hxs : xs = a ++ (ys ++ c)) (hi : i = a.length + j) (hok : Ok S ys.length j) :
    Calls Tryz.prog 80 #[.pointer (some ⟨T, 0, none⟩), .pointer (some ⟨b, 0, none⟩), .int .i64 j, .func (.func g) #[] cb] w fun e w' => ChangedPostE X T Y tv n (h + 1) (f ys j) s D w e w' := by
  have HN := hide hn
  have hh : h ≤ 10 := by
    have h1 := hn.many
    have h2 := congrArg List.length hxs
    rw [List.length_append, List.length_append] at h2
    rcases Nat.lt_or_ge h 11 with h3 | h3
    · omega
    · have h4 : 4 ^ 11 ≤ 4 ^ (h + 1) := Nat.pow_le_pow_right (by decide) (by omega)
      have h5 : 1 * 4 ^ 11 ≤ s * 4 ^ (h + 1) := Nat.mul_le_mul (by omega) h4
      have h6 : (4 : Nat) ^ 11 = 4194304 := by decide
      omega
  obtain ⟨ve, vb, L, hcn, he, hr, hk, rfl, rfl⟩ := hn
  have HCN := hide hcn
  obtain ⟨hX, c0, c1, c2⟩ := hcn
  obtain ⟨ab, nb, cb', rfl, hnb, hncb⟩ := hr.sliceN
  have hnbL : nb = L.length := by rw [hnb.out]; simp
  have HR := hide hr
  have HK : Hid (Kids eC X w h L) := hk
  have HT := hide hT
  have HO := hide hYo
  have HC := hide hc
  have HXS := hide hxs
  have HI := hide hi
  have HOK := hide hok
  have hyl : (L.flatMap (·.2)).length ≤ 100000 := by have := congrArg List.length hxs; rw [List.length_append, List.length_append] at this; omega
  have HYL := hide hyl
  have hL0 : L ≠ [] := fun e => by rw [e] at hs2; simp at hs2
  have hjy := hok.1
  have HJ := hide hjy
  have HS := hide hs
  have HS2 := hide hs2
  have HNB := hide hnbL
  clear hr hk hT hYo hc hxs hi hok c0 c2 he hyl hjy hs hs2 hnb hnbL
  obtain ⟨W, hW⟩ : ∃ W, W = w.alloc (.cells #[.slice none 0 0, .slice none 0 0] 115) := ⟨_, rfl⟩
  have uW : Hid (Up w W) := by rw [hW]; exact (Up.refl _).alloc _
  have hk0 : Hid (RB [w.heap.size] W W) := ⟨Chg.refl _ _, fun r hr => by
    obtain rfl := List.mem_singleton.1 hr
    rw [hW]
    exact ⟨by go_simp, by go_simp, by go_simp, by go_simp⟩⟩
  have hWs : w.heap.size < W.heap.size := by rw [hW]; simp
  replace c1 := uW.out.cell c1
  have hW' := hW.symm
  clear hW
  go_enter Tryz.func80, Tryz.ntmps80
  go_wp2_with (go_at_call 72; refine (leafE_calls X (h + 1) b _ _ _ (HN.out.chg (Chg.of_up uW.out)) (fun _ e => hL0 (List.length_eq_zero_iff.1 e))).mono ?_; rintro _ w1 ⟨rfl, hw1⟩; obtain rfl : W = w1 := hw1.symm; clear hW'; rw [show decide (h + 1 = 0) = false from decide_eq_false (Nat.succ_ne_zero h)])
  refine (findE_calls X h b j _ _ L _ _ (HCN.out.chg (Chg.of_up uW.out)) (HR.out.up uW.out) (HK.out.chg (Chg.of_up uW.out)) hL0 HJ.out (Nat.le_trans HYL.out (by decide))).mono ?_
  rintro _ w2 ⟨at_, j', hat, rfl, hj, hj1, hj2, hu2⟩
  have hq4 := HK.out _ (List.getElem_mem hat)
  obtain ⟨sq, sq4, sq8, hnq⟩ := hq4
  obtain ⟨gk, offk, rfl, hgk⟩ := HR.out.get (i := at_) (by rw [List.length_map]; exact hat)
  rw [List.getElem_map] at hgk
  replace hgk := (uW.out.trans hu2).cell hgk
  replace c1 := hu2.cell c1
  have HU2 := hide (uW.out.trans hu2)
  have hsplit := flat_split L at_ hat
  have hloc : f (L.flatMap (·.2)) j = (L.take at_).flatMap (·.2) ++ (f L[at_].2 j' ++ (L.drop (at_ + 1)).flatMap (·.2)) := by
    rw [hj, hsplit]
    exact hf.part _ _ _ _ ⟨hj1, fun hS => hj2 (HOK.out.2 hS)⟩
  have HLOC := hide hloc
  have HNQ : Hid (Nd eC (fun y => X y ∨ y = w.heap.size) w2 h L[at_].1 L[at_].2 sq) := (hnq.mono (fun y hy h => by
    rcases h with h | h
    · exact h
    · omega)).chg (Chg.of_up HU2.out)
  have HOK2 : Hid (Ok S L[at_].2.length j') := ⟨hj1, fun hS => hj2 (HOK.out.2 hS)⟩
  have HX2 : Hid (xs = (a ++ (L.take at_).flatMap (·.2)) ++ (L[at_].2 ++ ((L.drop (at_ + 1)).flatMap (·.2) ++ c))) := by
    unfold Hid; rw [HXS.out, hsplit]; simp
  have HI2 : Hid (i = (a ++ (L.take at_).flatMap (·.2)).length + j') := by
    unfold Hid; rw [HI.out, hj, List.length_append]; omega
  have hk2 := hide (hk0.out.up hu2)
  obtain ⟨kb, hkb⟩ : ∃ kb, kb = L[at_].1 := ⟨_, rfl⟩
  rw [← hkb] at hgk HNQ
  obtain ⟨J, hJ⟩ : ∃ J : Int, J = (j : Int) := ⟨_, rfl⟩
  have HHAT := hide hat
  have hat' : (at_ : Int) < (nb : Int) := by rw [HNB.out]; omega
  have hat0 : (0 : Int) ≤ (at_ : Int) := by omega
  have hat8 : at_ < 8 := Nat.lt_of_lt_of_le hat HS.out
  replace hj := hide hj
  unfold pE at hgk
  clear hkb hk0 hloc hnq hj1 hj2 hsplit hu2 hJ J
  go_wp2_with fail
  have hw2 : w.heap.size < w2.heap.size := by obtain ⟨x, hx⟩ := Option.isSome_iff_exists.1 (hk2.out.box w.heap.size (by simp)).1; exact World.block_lt_of_cell? _ _ hx
  refine (ih (fun y => X y ∨ y = w.heap.size) _ n _ _ _ _ _ _ (fun y hy => .inl (hXY y hy)) (fun y hy => by
      have := uW.out.size
      have := HU2.out.size
      rcases hy with hy | hy
      · have := hXo y hy; omega
      · omega) (HC.out.trans HU2.out) (HT.out.up HU2.out) (by omega) HNQ.out sq8 (fun _ => by omega) HX2.out HI2.out HOK2.out).mono ?_
  rintro _ w3 ⟨v3, u3, t3, k3, rfl, hl3, ht31, ht32, hT3, hk3, hk31, hD3, hC3⟩
  obtain ⟨b1, m1, d1, b2, m2, d2, rfl, rfl, -, -, -, -, -⟩ := hl3.slices
  have HL3 := hide hl3
  have HT3 := hide hT3
  have HD3 := hide hD3
  have HC3 := hide hC3
  have HCW : Hid (Chg (XT T Y) w w3) := (Chg.of_up (C := XT T Y) HU2.out).trans hC3 (fun _ _ h => h)
  have hRX : ¬ XT T Y w.heap.size := fun h => by have := HO.out _ h; have := HC.out.size; omega
  have hbX : ¬ XT T Y b := fun h => hX (hXY _ h)
  replace c1 := hC3.cell c1 hbX
  have hgX : ¬ XT T Y gk := by
    obtain ⟨_, _, hv, _, _, hv2⟩ := HR.out
    cases hv
    rcases hv2 with hv2 | ⟨g', off', h1, h2, _⟩
    · exact absurd (by simpa using hv2) hL0
    · cases h1; exact fun h => h2 (hXY _ h)
  obtain ⟨W4, hW4⟩ : ∃ W4, W4 = w3.alloc (.cells #[.slice b1 m1 d1, .slice b2 m2 d2] 115) := ⟨_, rfl⟩
  have u4 : Hid (Up w3 W4) := by rw [hW4]; exact (Up.refl _).alloc _
  have r0 : W4.cell? ⟨w3.heap.size, 0, none⟩ = some (.slice b1 m1 d1) := by rw [hW4]; go_simp
  have r1 : W4.cell? ⟨w3.heap.size, 1, none⟩ = some (.slice b2 m2 d2) := by rw [hW4]; go_simp
  have rf0 : W4.frozen? ⟨w3.heap.size, 0, none⟩ = false := by rw [hW4]; go_simp
  have rf1 : W4.frozen? ⟨w3.heap.size, 1, none⟩ = false := by rw [hW4]; go_simp
  have h34 : w3.heap.size < W4.heap.size := by rw [hW4]; simp
  have hW4' := hW4.symm
  replace c1 := u4.out.cell c1
  have e1 : IntKind.i64.wrap ((at_ : Int) + 1) = (at_ : Int) + 1 := by rw [IntKind.wrap_i64]; omega
  clear hW4 hl3 hT3 hD3 hC3 hgk
  go_upto_if 49 with (go_at_call 95; refine (sizeE_calls (fun y => X y ∨ y = w.heap.size) h _ _ _ t3 _ (HL3.out.chg (Chg.of_up u4.out)) (by omega)).mono ?_; rintro _ w5 ⟨rfl, hu5⟩; replace c1 := hu5.cell c1; replace r0 := hu5.cell r0; replace r1 := hu5.cell r1; replace rf0 := (hu5.frozen (p := ⟨w3.heap.size, 0, none⟩) h34).trans rf0; replace rf1 := (hu5.frozen (p := ⟨w3.heap.size, 1, none⟩) h34).trans rf1; have HU5 := hide (u4.out.trans hu5); clear hu5)
  go_cut [12, 13] from 49 to 81 (fun fv tv' wx => ∃ frm to_ : Nat, fv = .int .i64 frm ∧ tv' = .int .i64 to_ ∧ Hid (TailInE X T Y tv n h L (f (L.flatMap (·.2)) j) D w w.heap.size w3.heap.size frm to_ wx) ∧ wx.cell? ⟨b, 1, none⟩ = some (.slice (some ⟨gk, offk, none⟩) nb cb'))
  case rest =>
    obtain ⟨frm, to_, rfl, rfl, ht, c1⟩ := hcut
    obtain ⟨lv, lu, t, zs, k, x0, x1, hl, ht4, ht16, hres, hft, htl, hft2, hT, hk, hD, hCw, g0, g1, g2, g3⟩ := ht.out
    obtain ⟨p1, q1, o1, p2, q2, o2, rfl, rfl, -, -, -, -, -⟩ := hl.slices
    have hRT : w.heap.size ≠ T := fun e => by have := hXo T (hXY T (.inl rfl)); omega
    have hlR : w.heap.size < w3.heap.size := Nat.lt_of_lt_of_le hw2 HC3.out.size
    have hTw : T < w.heap.size := hXo T (hXY T (.inl rfl))
    have hzl : zs.length ≤ 100001 := by
      have h1 := congrArg List.length hres
      have h2 := hf.more _ _ HOK.out
      have h3 := HYL.out
      rw [List.length_append, List.length_append] at h1
      omega
    have hr0 : RB [w.heap.size, T] wc wc := ⟨Chg.refl _ _, fun r hr => by
      rcases List.mem_cons.1 hr with rfl | hr
      · exact ⟨g0, g1, g2, g3⟩
      · obtain rfl := List.mem_singleton.1 hr
        exact ⟨by rw [hT.c0]; rfl, by rw [hT.c1]; rfl, hT.f0, hT.f1⟩⟩
    have hwc : w3.heap.size < wc.heap.size := World.block_lt_of_cell? _ _ x0
    have hbw : b < w.heap.size := by
      have := HCN.out.2.1
      exact World.block_lt_of_cell? _ _ this
    have hbT : b ≠ T := fun e => hX (by rw [e]; exact hXY T (.inl rfl))
    have HK1 : Hid (∀ w', RB [w.heap.size, T] wc w' → RB [w.heap.size, T] wc w' ∧ w'.cell? ⟨b, 1, none⟩ = some (.slice (some ⟨gk, offk, none⟩) nb cb') ∧ w'.cell? ⟨w3.heap.size, 0, none⟩ = some (.slice p1 q1 o1) ∧ w'.cell? ⟨w3.heap.size, 1, none⟩ = some (.slice p2 q2 o2)) :=
      fun w' h => ⟨h, h.cell c1 (by simp; omega), h.cell x0 (by simp; omega), h.cell x1 (by simp; omega)⟩
    have HXc : Hid (∀ w', RB [w.heap.size, T] wc w' → Chg (fun y => X y ∨ y = w.heap.size ∨ y = w3.heap.size) wc w') := fun w' h => h.chg.mono (fun y _ hm => by
      rcases List.mem_cons.1 hm with rfl | hm
      · exact .inr (.inl rfl)
      · obtain rfl := List.mem_singleton.1 hm
        exact .inl (hXY _ (.inl rfl)))
    have HWc : Hid (∀ w', RB [w.heap.size, T] wc w' → Chg (XT T Y) w w') := fun w' h => hCw.trans h.chg (fun y hy hm => by
      rcases List.mem_cons.1 hm with rfl | hm
      · omega
      · obtain rfl := List.mem_singleton.1 hm
        exact .inl rfl)
    have HLC := hide hl
    have HTC := hide hT
    have HDC := hide hD
    have HRES := hide hres
    obtain ⟨A1, hA1⟩ : ∃ A, (if cb' = to_ then some (⟨gk, offk, none⟩ : Addr) else some ⟨gk, offk + to_, none⟩) = A := ⟨_, rfl⟩
    have HD1 : Hid (Rd pE X w (.slice A1 (nb - to_) (cb' - to_)) ((L.drop to_).map (·.1))) := by
      have := HR.out.drop (m := to_) (by rw [HNB.out]; exact htl)
      rw [Nat.mul_one, Option.map_some, Addr.add_lit, hA1, ← List.map_drop] at this
      exact this
    have HT1 : Hid (Rd pE X w (.slice (some ⟨gk, offk, none⟩) frm cb') ((L.take frm).map (·.1))) := by
      have := HR.out.take (m := frm) (by rw [HNB.out]; omega)
      rw [← List.map_take] at this
      exact this
    have HXw : Hid (∀ w', RB [w.heap.size, T] wc w' → Chg X w w') := fun w' h => (HWc.out w' h).mono (fun y _ e => hXY y e)
    have hXT : X T := hXY T (.inl rfl)
    have HSZ : Hid (∀ w', RB [w.heap.size, T] wc w' → ∀ y, (X y ∨ y = w.heap.size ∨ y = w3.heap.size) → y < w'.heap.size) := fun w' h y hy => by
      have h1 := h.chg.size
      have h2 : w3.heap.size < wc.heap.size := World.block_lt_of_cell? _ _ x0
      rcases hy with hy | hy | hy
      · have := hXo y hy; omega
      · omega
      · omega
    have f1 : (0 : Int) ≤ (frm : Int) := by omega
    have f2 : (frm : Int) ≤ (cb' : Int) := by have := hncb.out; have := HNB.out; omega
    have f3 : (0 : Int) ≤ (to_ : Int) := by omega
    have f4 : (to_ : Int) ≤ (nb : Int) := by have := HNB.out; omega
    have hnk : n + k ≤ 100000000 := by omega
    have hL8 : (L.take frm).length + (2 + (L.drop to_).length) ≤ 1000000 := by have := HS.out; simp; omega
    clear hl hT hD hres x0 x1 g0 g1 g2 g3 c1 ht r0 r1 rf0 rf1
    go_wp2_with fail
    go_region_held3 (fun w' => RB [w.heap.size, T] wc w' ∧ w'.cell? ⟨b, 1, none⟩ = some (.slice (some ⟨gk, offk, none⟩) nb cb') ∧ w'.cell? ⟨w3.heap.size, 0, none⟩ = some (.slice p1 q1 o1) ∧ w'.cell? ⟨w3.heap.size, 1, none⟩ = some (.slice p2 q2 o2)) (exact HK1.out _ (by repeat' (with_reducible first | assumption | apply RB.alloc | apply RB.drew | exact RB.set (RB.set (by with_reducible assumption) (by simp) _) (by simp) _)))
      (first
        | (go_at_call 81; refine (nodesE_calls (fun y => X y ∨ y = w.heap.size ∨ y = w3.heap.size) T (n + k) tv h _ _ zs t _ (HTC.out.up (by repeat' (with_reducible first | assumption | exact Up.refl _ | apply Up.alloc | apply Up.drew))) (.inl hXT) (HSZ.out _ (by repeat' (with_reducible first | assumption | apply RB.alloc | apply RB.drew | exact RB.set (RB.set (by with_reducible assumption) (by simp) _) (by simp) _))) (HLC.out.chg (HXc.out _ (by repeat' (with_reducible first | assumption | apply RB.alloc | apply RB.drew | exact RB.set (RB.set (by with_reducible assumption) (by simp) _) (by simp) _)))) ht16 (by omega) hnk).mono ?_; rintro _ w6 ⟨v6, M, rfl, ho6, hM6, hMf6, hM16, hM26, hT6, hc6⟩; have hk6 : RB [w.heap.size, T] wc w6 := RB.tree (by repeat' (with_reducible first | assumption | apply RB.alloc | apply RB.drew | exact RB.set (RB.set (by with_reducible assumption) (by simp) _) (by simp) _)) hc6 hT6 (by simp); obtain ⟨a6, n6, d6, rfl, -, -⟩ := ho6.sliceN; replace ho6 := hide (ho6.base (RB.chg (by repeat' (with_reducible first | assumption | apply RB.alloc | apply RB.drew | exact RB.set (RB.set (by with_reducible assumption) (by simp) _) (by simp) _))).size); replace hM6 := hide hM6; replace hMf6 := hide hMf6; have hM6l : Hid (M.length = 1 ∨ M.length = 2) := (if h8 : t ≤ 8 then .inl (hM16 h8) else .inr (hM26 (by omega))); replace hT6 := hide hT6; clear hc6 hM16 hM26)
        | (go_at_call 97; refine (concatPE_three _ (.slice (some ⟨gk, offk, none⟩) frm cb') (.slice a6 n6 d6) (.slice A1 (nb - to_) (cb' - to_)) ((L.take frm).map (·.1)) (M.map (·.1)) ((L.drop to_).map (·.1)) (fun _ => False) _ (by go_simp) (by go_simp) (by go_simp) ((HT1.out.chg (HXw.out _ (by repeat' (with_reducible first | assumption | apply RB.alloc | apply RB.drew | exact RB.set (RB.set (by with_reducible assumption) (by simp) _) (by simp) _)))).mono (fun _ _ h => h.elim)) ((ho6.out.up (by repeat' (with_reducible first | assumption | exact Up.refl _ | apply Up.alloc | apply Up.drew))).rd (fun _ _ h => h)) ((HD1.out.chg (HXw.out _ (by repeat' (with_reducible first | assumption | apply RB.alloc | apply RB.drew | exact RB.set (RB.set (by with_reducible assumption) (by simp) _) (by simp) _)))).mono (fun _ _ h => h.elim)) (by have := hM6l.out; simp only [List.length_map]; omega)).mono ?_; rintro _ w7 ⟨v7, rfl, ho7, hu7⟩; have hk7 : RB [w.heap.size, T] wc w7 := RB.up (by repeat' (with_reducible first | assumption | apply RB.alloc | apply RB.drew | exact RB.set (RB.set (by with_reducible assumption) (by simp) _) (by simp) _)) hu7; have hj7 : Up w6 w7 := Up.trans (by repeat' (with_reducible first | assumption | exact Up.refl _ | apply Up.alloc | apply Up.drew)) hu7; obtain ⟨a7, n7, d7, rfl, -, -⟩ := ho7.sliceN; replace ho7 := hide (ho7.base (RB.chg (by repeat' (with_reducible first | assumption | apply RB.alloc | apply RB.drew | exact RB.set (RB.set (by with_reducible assumption) (by simp) _) (by simp) _))).size); clear hu7; have hb7 := hk7.box w.heap.size (by simp); obtain ⟨y0, g0⟩ := Option.isSome_iff_exists.1 hb7.1; obtain ⟨y1, g1⟩ := Option.isSome_iff_exists.1 hb7.2.1; have g2 := hb7.2.2.1; have g3 := hb7.2.2.2; clear hb7))
    all_goals
      change Exit.then _ _ _ _ (set2 w7 w.heap.size (.slice none 0 0) (.slice a7 n7 d7))
      have s1 := hide (set2_chg w7 w.heap.size (.slice none 0 0) (.slice a7 n7 d7))
      have k0 := set2_c0 (x := .slice none 0 0) (y := .slice a7 n7 d7) g0
      have k1 := set2_c1 (x := .slice none 0 0) (y := .slice a7 n7 d7) g1
      have hF := hide (hk7.set2 (R := w.heap.size) (by simp) (.slice none 0 0) (.slice a7 n7 d7))
      have hJ7 := hide hj7
      clear hk6 hk7 hr0 g0 g1 g2 g3 hj7
      generalize set2 w7 w.heap.size (.slice none 0 0) (.slice a7 n7 d7) = Yf at *
      go_wp2
      have hML := hM6l.out
      have hXf := HXw.out _ hF.out
      refine bodyPost_ret (v := .agg #[.slice none 0 0, .slice a7 n7 d7]) (by simp [results, Tryz.results80, go_sem, k0, k1]) rfl ⟨_, _, _, k + M.length, rfl, ⟨Emp.nil, L.take frm ++ (M ++ L.drop to_), ?_, fun q hq => ?_, ?_, rfl⟩, ?_, ?_, ?_, by omega, fun _ => by omega, ?_, HWc.out _ hF.out⟩
      · rw [List.map_append, List.map_append]
        refine (ho7.out.chg s1.out (fun g hg e => ?_)).rd (fun g hg hx => ?_)
        · have := (ho7.out.lt g hg).1
          have e' : g = w.heap.size := e
          omega
        · have := (ho7.out.lt g hg).1
          have := hXo g hx
          omega
      · rcases List.mem_append.1 hq with hq | hq
        · exact (HK.out.chg hXf) q (List.mem_of_mem_take hq)
        · rcases List.mem_append.1 hq with hq | hq
          · obtain ⟨tq, hnq, h8, h4, _⟩ := hM6.out q hq
            exact ⟨tq, h4 ht4, h8, ((hnq.chg (Chg.of_up hJ7.out)).chg (s1.out.mono (fun y _ e => .inr (.inl e)))).mono (fun y _ h => .inl h)⟩
          · exact (HK.out.chg hXf) q (List.mem_of_mem_drop hq)
      · rw [List.flatMap_append, List.flatMap_append, hMf6.out]
        exact HRES.out
      · rw [List.length_append, List.length_append, List.length_take, List.length_drop]; omega
      · rw [List.length_append, List.length_append, List.length_take, List.length_drop]; omega
      · rw [← Nat.add_assoc]
        exact (hT6.out.up hJ7.out).chg s1.out (fun e => hRT e.symm)
      · refine hDs _ _ HDC.out (hF.out.chg.mono (fun y _ hm => ?_))
        rcases List.mem_cons.1 hm with rfl | hm
        · exact fun h => by have := hXo _ (hXY _ (.inr h)); omega
        · obtain rfl := List.mem_singleton.1 hm
          exact hYT
  case first =>
    have hlR : w.heap.size < w3.heap.size := Nat.lt_of_lt_of_le hw2 HC3.out.size
    have HCW5 : Hid (Chg (XT T Y) w w5) := HCW.out.andUp HU5.out
    have HBX : Hid ((w5.cell? ⟨w.heap.size, 0, none⟩).isSome = true ∧ (w5.cell? ⟨w.heap.size, 1, none⟩).isSome = true ∧ w5.frozen? ⟨w.heap.size, 0, none⟩ = false ∧ w5.frozen? ⟨w.heap.size, 1, none⟩ = false) := box_chg (box_chg (hk2.out.box w.heap.size (by simp)) HC3.out hRX) (Chg.of_up (C := fun _ => False) HU5.out) (fun h => h)
    have HL5 : Hid (Ld eC (fun y => X y ∨ y = w.heap.size ∨ y = w3.heap.size) w5 h (.slice b1 m1 d1) (.slice b2 m2 d2) (f L[at_].2 j') t3) := (HL3.out.mono (Y := (fun y => X y ∨ y = w.heap.size ∨ y = w3.heap.size)) (fun y hy h => by
      rcases h with h | h | h
      · exact .inl h
      · exact .inr h
      · omega)).chg (Chg.of_up HU5.out)
    by_cases h4 : 4 ≤ t3
    · have hd : decide ((t3 : Int) < 4) = false := decide_eq_false (by omega)
      have hd' : ¬ (t3 : Int) < 4 := by omega
      go_wp2_with fail
      go_meet
      case rel =>
        refine ⟨at_, at_ + 1, rfl, by first | rfl | congr 1, ⟨_, _, t3, f L[at_].2 j', k3, r0, r1, HL5.out, h4, by omega, HLOC.out, by omega, hat, by omega, HT3.out.up HU5.out, hk3, hDs _ _ HD3.out (Chg.of_up HU5.out), HCW5.out, HBX.out⟩, c1⟩
    · have hd : decide ((t3 : Int) < 4) = true := decide_eq_true (by omega)
      have hd' : (t3 : Int) < 4 := by omega
      by_cases hatp : 0 < at_
      · have hg0 : decide ((at_ : Int) > 0) = true := decide_eq_true (by omega)
        have hg0' : (at_ : Int) > 0 := by omega
        have hg0'' : decide (0 < at_) = true := decide_eq_true hatp
        have hix : at_ - 1 < L.length := by have := HS2.out; omega
        obtain ⟨gk', offk', hgk', hp6⟩ := HR.out.get (i := at_ - 1) (by rw [List.length_map]; exact hix)
        cases hgk'
        rw [List.getElem_map] at hp6
        obtain ⟨s6, s64, s68, hq6⟩ := HK.out _ (List.getElem_mem hix)
        obtain ⟨ve6, vb6, ⟨hx6, d0, d1', _⟩, hq6'⟩ := nd_iff.1 hq6
        have HQ6 : Hid (Ld eC (fun y => X y ∨ y = w.heap.size ∨ y = w3.heap.size) w5 h ve6 vb6 (L[at_ - 1]'hix).2 s6) := (hq6'.mono (Y := (fun y => X y ∨ y = w.heap.size ∨ y = w3.heap.size)) (fun y hy h => by
          rcases h with h | h | h
          · exact h
          · omega
          · omega)).chg (HCW5.out.mono (fun y _ e => .inl (hXY y e)))
        have hp6' := HCW5.out.cell hp6 hgX
        have d0' := HCW5.out.cell d0 (fun h => hx6 (hXY _ h))
        have d1'' := HCW5.out.cell d1' (fun h => hx6 (hXY _ h))
        obtain ⟨ae6, ne6, ce6, ab6, nb6, cb6, rfl, rfl, -, -, -, -, -⟩ := HQ6.out.slices
        obtain ⟨kb6, hkb6⟩ : ∃ kb, kb = (L[at_ - 1]'hix).1 := ⟨_, rfl⟩
        rw [← hkb6] at hp6' d0' d1''
        have hkb6l : kb6 < w.heap.size := by rw [hkb6]; exact World.block_lt_of_cell? _ _ d0
        have hgkl : gk < w.heap.size := World.block_lt_of_cell? _ _ hp6
        have hbl : b < w.heap.size := World.block_lt_of_cell? _ _ HCN.out.2.1
        unfold pE at hp6'
        have hl6 : (L[at_ - 1]'hix).2.length + (f L[at_].2 j').length ≤ 1000000 := by
          have h1 := congrArg List.length (flat_split L (at_ - 1) hix)
          rw [List.length_append, List.length_append] at h1
          have h4 := hf.more _ _ HOK2.out
          have h2 := congrArg List.length (flat_split L at_ hat)
          rw [List.length_append, List.length_append] at h2
          have := HYL.out
          omega
        obtain ⟨am, ham⟩ : ∃ am, am = at_ - 1 := ⟨_, rfl⟩
        obtain ⟨els, hels⟩ : ∃ l, l = (L[at_ - 1]'hix).2 := ⟨_, rfl⟩
        rw [← hels] at HQ6 hl6
        rw [← ham] at hp6'
        have HK6 : Hid (∀ w', RB [w3.heap.size] w5 w' → RB [w3.heap.size] w5 w' ∧ w'.cell? ⟨b, 1, none⟩ = some (.slice (some ⟨gk, offk, none⟩) nb cb') ∧ w'.cell? ⟨gk, offk + am, none⟩ = some (.pointer (some ⟨kb6, 0, none⟩)) ∧ w'.cell? ⟨kb6, 0, none⟩ = some (.slice ae6 ne6 ce6) ∧ w'.cell? ⟨kb6, 1, none⟩ = some (.slice ab6 nb6 cb6)) :=
          fun w' h => ⟨h, h.cell c1 (by simp; omega), h.cell hp6' (by simp; omega), h.cell d0' (by simp; omega), h.cell d1'' (by simp; omega)⟩
        have hr5 : RB [w3.heap.size] w5 w5 := ⟨Chg.refl _ _, fun r hr => by
          obtain rfl := List.mem_singleton.1 hr
          exact ⟨by rw [r0]; rfl, by rw [r1]; rfl, rf0, rf1⟩⟩
        have HB6 : Hid (∀ w', RB [w3.heap.size] w5 w' → Chg (fun y => X y ∨ y = w.heap.size ∨ y = w3.heap.size) w5 w') := fun w' h => h.chg.mono (fun y _ hm => .inr (.inr (List.mem_singleton.1 hm)))
        have HS6 : Hid (∀ w', RB [w3.heap.size] w5 w' → ∀ y, (X y ∨ y = w.heap.size ∨ y = w3.heap.size) → y < w'.heap.size) := fun w' h y hy => by
          have h1 := h.chg.size
          have h2 : w3.heap.size < w5.heap.size := World.block_lt_of_cell? _ _ r0
          rcases hy with hy | hy | hy
          · have := hXo y hy; omega
          · omega
          · omega
        have i1 : (am : Int) < (nb : Int) := by rw [HNB.out, ham]; omega
        have i0 : (0 : Int) ≤ (am : Int) := by omega
        have e2 : IntKind.i64.wrap ((at_ : Int) - 1) = (am : Int) := by rw [IntKind.wrap_i64]; omega
        have e3 : (at_ : Int) - 1 = (am : Int) := by omega
        replace hkb6 := hide hkb6
        replace ham := hide ham
        replace hels := hide hels
        clear hq6' hq6 hp6 d0 d1' HK6
        go_wp2_with fail
        go_region_law ((go_simp; go_at_call 96; refine (joinedE_calls (fun y => X y ∨ y = w.heap.size ∨ y = w3.heap.size) h (.slice ae6 ne6 ce6) (.slice ab6 nb6 cb6) (.slice b1 m1 d1) (.slice b2 m2 d2) els (f L[at_].2 j') s6 t3 _ (HS6.out _ (by repeat' (with_reducible first | assumption | apply RB.alloc | apply RB.drew | exact RB.set (RB.set (by with_reducible assumption) (by simp) _) (by simp) _))) (HQ6.out.chg (HB6.out _ (by repeat' (with_reducible first | assumption | apply RB.alloc | apply RB.drew | exact RB.set (RB.set (by with_reducible assumption) (by simp) _) (by simp) _)))) (HL5.out.chg (HB6.out _ (by repeat' (with_reducible first | assumption | apply RB.alloc | apply RB.drew | exact RB.set (RB.set (by with_reducible assumption) (by simp) _) (by simp) _)))) (by omega) (by omega)).mono ?_; rintro _ w6 ⟨v6, u6, rfl, hl6', hu6⟩; have hk6 : RB [w3.heap.size] w5 w6 := RB.up (by repeat' (with_reducible first | assumption | apply RB.alloc | apply RB.drew | exact RB.set (RB.set (by with_reducible assumption) (by simp) _) (by simp) _)) hu6; obtain ⟨a6, n6, c6, a7, n7, c7, rfl, rfl, -, -, -, -, -⟩ := hl6'.slices; have hb6 := hk6.box w3.heap.size (by simp); obtain ⟨x0, g0⟩ := Option.isSome_iff_exists.1 hb6.1; obtain ⟨x1, g1⟩ := Option.isSome_iff_exists.1 hb6.2.1; have g2 := hb6.2.2.1; have g3 := hb6.2.2.2; clear hb6; replace hl6' := hide hl6'; clear hu6; dsimp only))
        all_goals
          change Exit.then _ _ _ _ (set2 w6 w3.heap.size (.slice a6 n6 c6) (.slice a7 n7 c7))
          have s1 := hide (set2_chg w6 w3.heap.size (.slice a6 n6 c6) (.slice a7 n7 c7))
          have k0 := set2_c0 (x := .slice a6 n6 c6) (y := .slice a7 n7 c7) g0
          have k1 := set2_c1 (x := .slice a6 n6 c6) (y := .slice a7 n7 c7) g1
          have hF := hide (hk6.set2 (R := w3.heap.size) (by simp) (.slice a6 n6 c6) (.slice a7 n7 c7))
          clear hk6 g0 g1 g2 g3 hr5
          generalize set2 w6 w3.heap.size (.slice a6 n6 c6) (.slice a7 n7 c7) = Yf at *
          go_wp2_with fail
          go_meet
          case rel =>
            have hlbY : ¬ Y w3.heap.size := fun h => by have := hXo _ (hXY _ (.inr h)); omega
            have hlbT : ¬ T = w3.heap.size := fun e => by have := hXo T (hXY T (.inl rfl)); omega
            have hc5 : Chg (fun y => y = w3.heap.size) w5 Yf := hF.out.chg.mono (fun y _ hm => List.mem_singleton.1 hm)
            have hamo := ham.out
            refine ⟨am, at_ + 1, ?_, ?_, ⟨_, _, s6 + t3, els ++ f L[at_].2 j', k3, k0, k1, hl6'.out.chg (s1.out.mono (fun y _ e => .inr (.inr e))), by omega, by omega, ?_, by omega, by have := HS2.out; omega, by omega, (HT3.out.up HU5.out).chg hc5 hlbT, hk3, hDs _ _ (hDs _ _ HD3.out (Chg.of_up HU5.out)) (hc5.mono (fun y _ e => by rw [show y = w3.heap.size from e]; exact hlbY)), HCW5.out.trans hc5 (fun y hy e => by have e' : y = w3.heap.size := e; omega), box_chg HBX.out hc5 (fun e => by have e' : w.heap.size = w3.heap.size := e; omega)⟩, ?_⟩
            · first | rfl | congr 1
            · first | rfl | congr 1
            · rw [HLOC.out, hels.out]
              have e5 : (L.take at_).flatMap (·.2) = (L.take am).flatMap (·.2) ++ (L[at_ - 1]'hix).2 := by
                conv => lhs; rw [show at_ = at_ - 1 + 1 by omega, List.take_add_one, List.getElem?_eq_getElem hix, List.flatMap_append]
                rw [hamo]
                simp
              rw [e5]
              simp
              all_goals rfl
            · exact hc5.cell c1 (fun e => by have e' : b = w3.heap.size := e; omega)
      · have hg0 : decide ((at_ : Int) > 0) = false := decide_eq_false (by omega)
        have hg0' : ¬ (at_ : Int) > 0 := by omega
        have hg0'' : decide (0 < at_) = false := decide_eq_false hatp
        have hix : at_ + 1 < L.length := by have := HS2.out; omega
        obtain ⟨gk', offk', hgk', hp6⟩ := HR.out.get (i := at_ + 1) (by rw [List.length_map]; exact hix)
        cases hgk'
        rw [List.getElem_map] at hp6
        obtain ⟨s6, s64, s68, hq6⟩ := HK.out _ (List.getElem_mem hix)
        obtain ⟨ve6, vb6, ⟨hx6, d0, d1', _⟩, hq6'⟩ := nd_iff.1 hq6
        have HQ6 : Hid (Ld eC (fun y => X y ∨ y = w.heap.size ∨ y = w3.heap.size) w5 h ve6 vb6 (L[at_ + 1]'hix).2 s6) := (hq6'.mono (Y := (fun y => X y ∨ y = w.heap.size ∨ y = w3.heap.size)) (fun y hy h => by
          rcases h with h | h | h
          · exact h
          · omega
          · omega)).chg (HCW5.out.mono (fun y _ e => .inl (hXY y e)))
        have hp6' := HCW5.out.cell hp6 hgX
        have d0' := HCW5.out.cell d0 (fun h => hx6 (hXY _ h))
        have d1'' := HCW5.out.cell d1' (fun h => hx6 (hXY _ h))
        obtain ⟨ae6, ne6, ce6, ab6, nb6, cb6, rfl, rfl, -, -, -, -, -⟩ := HQ6.out.slices
        obtain ⟨kb6, hkb6⟩ : ∃ kb, kb = (L[at_ + 1]'hix).1 := ⟨_, rfl⟩
        rw [← hkb6] at hp6' d0' d1''
        have hkb6l : kb6 < w.heap.size := by rw [hkb6]; exact World.block_lt_of_cell? _ _ d0
        have hgkl : gk < w.heap.size := World.block_lt_of_cell? _ _ hp6
        have hbl : b < w.heap.size := World.block_lt_of_cell? _ _ HCN.out.2.1
        unfold pE at hp6'
        have hl6 : (L[at_ + 1]'hix).2.length + (f L[at_].2 j').length ≤ 1000000 := by
          have h1 := congrArg List.length (flat_split L (at_ + 1) hix)
          rw [List.length_append, List.length_append] at h1
          have h4 := hf.more _ _ HOK2.out
          have h2 := congrArg List.length (flat_split L at_ hat)
          rw [List.length_append, List.length_append] at h2
          have := HYL.out
          omega
        obtain ⟨am, ham⟩ : ∃ am, am = at_ + 1 := ⟨_, rfl⟩
        obtain ⟨els, hels⟩ : ∃ l, l = (L[at_ + 1]'hix).2 := ⟨_, rfl⟩
        rw [← hels] at HQ6 hl6
        rw [← ham] at hp6'
        have HK6 : Hid (∀ w', RB [w3.heap.size] w5 w' → RB [w3.heap.size] w5 w' ∧ w'.cell? ⟨b, 1, none⟩ = some (.slice (some ⟨gk, offk, none⟩) nb cb') ∧ w'.cell? ⟨gk, offk + am, none⟩ = some (.pointer (some ⟨kb6, 0, none⟩)) ∧ w'.cell? ⟨kb6, 0, none⟩ = some (.slice ae6 ne6 ce6) ∧ w'.cell? ⟨kb6, 1, none⟩ = some (.slice ab6 nb6 cb6)) :=
          fun w' h => ⟨h, h.cell c1 (by simp; omega), h.cell hp6' (by simp; omega), h.cell d0' (by simp; omega), h.cell d1'' (by simp; omega)⟩
        have hr5 : RB [w3.heap.size] w5 w5 := ⟨Chg.refl _ _, fun r hr => by
          obtain rfl := List.mem_singleton.1 hr
          exact ⟨by rw [r0]; rfl, by rw [r1]; rfl, rf0, rf1⟩⟩
        have HB6 : Hid (∀ w', RB [w3.heap.size] w5 w' → Chg (fun y => X y ∨ y = w.heap.size ∨ y = w3.heap.size) w5 w') := fun w' h => h.chg.mono (fun y _ hm => .inr (.inr (List.mem_singleton.1 hm)))
        have HS6 : Hid (∀ w', RB [w3.heap.size] w5 w' → ∀ y, (X y ∨ y = w.heap.size ∨ y = w3.heap.size) → y < w'.heap.size) := fun w' h y hy => by
          have h1 := h.chg.size
          have h2 : w3.heap.size < w5.heap.size := World.block_lt_of_cell? _ _ r0
          rcases hy with hy | hy | hy
          · have := hXo y hy; omega
          · omega
          · omega
        have i1 : (am : Int) < (nb : Int) := by rw [HNB.out, ham]; omega
        have i0 : (0 : Int) ≤ (am : Int) := by omega
        have e2 : IntKind.i64.wrap ((at_ : Int) + 1 + 1) = (at_ : Int) + 1 + 1 := by rw [IntKind.wrap_i64]; omega
        have e3 : ((at_ : Int) + 1).toNat = am := by omega
        have i3 : (0 : Int) ≤ (at_ : Int) + 1 := by omega
        have i4 : (at_ : Int) + 1 < (nb : Int) := by rw [HNB.out]; omega
        replace hkb6 := hide hkb6
        replace ham := hide ham
        replace hels := hide hels
        clear hq6' hq6 hp6 d0 d1' HK6
        go_wp2_with fail
        go_region_law ((go_simp; go_at_call 96; refine (joinedE_calls (fun y => X y ∨ y = w.heap.size ∨ y = w3.heap.size) h (.slice b1 m1 d1) (.slice b2 m2 d2) (.slice ae6 ne6 ce6) (.slice ab6 nb6 cb6) (f L[at_].2 j') els t3 s6 _ (HS6.out _ (by repeat' (with_reducible first | assumption | apply RB.alloc | apply RB.drew | exact RB.set (RB.set (by with_reducible assumption) (by simp) _) (by simp) _))) (HL5.out.chg (HB6.out _ (by repeat' (with_reducible first | assumption | apply RB.alloc | apply RB.drew | exact RB.set (RB.set (by with_reducible assumption) (by simp) _) (by simp) _)))) (HQ6.out.chg (HB6.out _ (by repeat' (with_reducible first | assumption | apply RB.alloc | apply RB.drew | exact RB.set (RB.set (by with_reducible assumption) (by simp) _) (by simp) _)))) (by omega) (by omega)).mono ?_; rintro _ w6 ⟨v6, u6, rfl, hl6', hu6⟩; have hk6 : RB [w3.heap.size] w5 w6 := RB.up (by repeat' (with_reducible first | assumption | apply RB.alloc | apply RB.drew | exact RB.set (RB.set (by with_reducible assumption) (by simp) _) (by simp) _)) hu6; obtain ⟨a6, n6, c6, a7, n7, c7, rfl, rfl, -, -, -, -, -⟩ := hl6'.slices; have hb6 := hk6.box w3.heap.size (by simp); obtain ⟨x0, g0⟩ := Option.isSome_iff_exists.1 hb6.1; obtain ⟨x1, g1⟩ := Option.isSome_iff_exists.1 hb6.2.1; have g2 := hb6.2.2.1; have g3 := hb6.2.2.2; clear hb6; replace hl6' := hide hl6'; clear hu6; dsimp only))
        all_goals
          change Exit.then _ _ _ _ (set2 w6 w3.heap.size (.slice a6 n6 c6) (.slice a7 n7 c7))
          have s1 := hide (set2_chg w6 w3.heap.size (.slice a6 n6 c6) (.slice a7 n7 c7))
          have k0 := set2_c0 (x := .slice a6 n6 c6) (y := .slice a7 n7 c7) g0
          have k1 := set2_c1 (x := .slice a6 n6 c6) (y := .slice a7 n7 c7) g1
          have hF := hide (hk6.set2 (R := w3.heap.size) (by simp) (.slice a6 n6 c6) (.slice a7 n7 c7))
          clear hk6 g0 g1 g2 g3 hr5
          generalize set2 w6 w3.heap.size (.slice a6 n6 c6) (.slice a7 n7 c7) = Yf at *
          go_wp2_with fail
          go_meet
          case rel =>
            have hlbY : ¬ Y w3.heap.size := fun h => by have := hXo _ (hXY _ (.inr h)); omega
            have hlbT : ¬ T = w3.heap.size := fun e => by have := hXo T (hXY T (.inl rfl)); omega
            have hc5 : Chg (fun y => y = w3.heap.size) w5 Yf := hF.out.chg.mono (fun y _ hm => List.mem_singleton.1 hm)
            have hamo := ham.out
            refine ⟨at_, at_ + 1 + 1, ?_, ?_, ⟨_, _, t3 + s6, f L[at_].2 j' ++ els, k3, k0, k1, hl6'.out.chg (s1.out.mono (fun y _ e => .inr (.inr e))), by omega, by omega, ?_, by omega, by have := HS2.out; omega, by omega, (HT3.out.up HU5.out).chg hc5 hlbT, hk3, hDs _ _ (hDs _ _ HD3.out (Chg.of_up HU5.out)) (hc5.mono (fun y _ e => by rw [show y = w3.heap.size from e]; exact hlbY)), HCW5.out.trans hc5 (fun y hy e => by have e' : y = w3.heap.size := e; omega), box_chg HBX.out hc5 (fun e => by have e' : w.heap.size = w3.heap.size := e; omega)⟩, ?_⟩
            · first | rfl | congr 1
            · first | rfl | congr 1
            · rw [HLOC.out, hels.out]
              have e5 : (L.drop (at_ + 1)).flatMap (·.2) = (L[at_ + 1]'hix).2 ++ (L.drop (at_ + 1 + 1)).flatMap (·.2) := by
                rw [List.drop_eq_getElem_cons hix, List.flatMap_cons]
              rw [e5]
              simp
              all_goals rfl
            · exact hc5.cell c1 (fun e => by have e' : b = w3.heap.size := e; omega)
end Go.Proofs.YtnokokhbcfkifaaGreatDoor

namespace Go.Proofs.YtnokokhbcfkifaaGreatDoor
open Go.ChangeShapes Go.WideShapes Go.ChangeAt Go.RowKit
set_option linter.unusedVariables false
set_option maxRecDepth 100000
attribute [local go_sem ↓] Go.wp_at_zero Go.wp_at_succ

theorem changedE_calls (T : Nat) (Y : Nat → Prop) (tv : Value) (g : FuncId) (cb : Array Value) (S : Bool) (f : List ET → Nat → List ET) (D : World → Prop) (w0 : World) (xs : List ET) (i : Nat)
    (hf : Local S f) (hg : ∀ args w, (callFunc g args).run Tryz.prog w = .ok (.enter g args) w) (hD : DoIsE T Y g cb S f D w0 xs i) (hDs : ∀ W W', D W → Chg (fun y => ¬ Y y) W W' → D W') (hYT : ¬ Y T) (hYo : ∀ y, XT T Y y → y < w0.heap.size) (hbig : xs.length ≤ 100000) :
    ∀ (h : Nat) (X : Nat → Prop) (w : World) (n : Nat) (ys a c : List ET) (j b s : Nat), (∀ y, XT T Y y → X y) → (∀ y, X y → y < w.heap.size) → Up w0 w → TrC w T tv n → n ≤ 10000000 → Nd eC X w h b ys s → s ≤ 8 → (h ≠ 0 → 2 ≤ s) → xs = a ++ (ys ++ c) → i = a.length + j → Ok S ys.length j →
      Calls Tryz.prog 80 #[.pointer (some ⟨T, 0, none⟩), .pointer (some ⟨b, 0, none⟩), .int .i64 j, .func (.func g) #[] cb] w fun e w' => ChangedPostE X T Y tv n h (f ys j) s D w e w' := by
  intro h
  induction h with
  | zero => exact fun X w n ys a c j b s hXY hXo hc hT _ hn hs _ hxs hi hok => changedE_leaf X T n Y tv g cb S f D w0 w xs ys a c i j b s hf hg hD hDs hYT hYo hc hXY hXo hT hn hs hxs hi hok
  | succ h ih => exact fun X w n ys a c j b s hXY hXo hc hT hnn hn hs hs2 hxs hi hok => changedE_inner X T n h Y tv g cb S f D w0 w xs ys a c i j b s ih hf hDs hYT hYo hc hbig hXY hXo hT hnn hn hs (hs2 (Nat.succ_ne_zero _)) hxs hi hok

/-- What change leaves where it is done. -/
def ChangeDoneE (T : Nat) (Y : Nat → Prop) (n h : Nat) (zs : List ET) (D : World → Prop) (w : World) (e : Ending) (w' : World) : Prop :=
  ∃ b k h', e = .returned (.int .i64 0) ∧ TrC w' T (pE b) (n + k) ∧ Top eC (XT T Y) w' b zs h' ∧ 1 ≤ k ∧ k ≤ 2 * h + 3 ∧ D w' ∧ Chg (XT T Y) w w'
theorem changeE_not (T : Nat) (i p : Int) (fv : Value) (w : World) (h : i < 0 ∨ p ≤ i) :
    Calls Tryz.prog 58 #[.pointer (some ⟨T, 0, none⟩), .int .i64 i, .int .i64 p, fv] w fun e w' => e = .returned (.int .i64 73) ∧ Up w w' := by
  by_cases h0 : i < 0
  · have hd : decide (i < 0) = true := decide_eq_true h0
    go_enter Tryz.func58, Tryz.ntmps58
    go_wp2
    go_ret
    exact ⟨rfl, Up.refl _⟩
  · have hd : decide (i < 0) = false := decide_eq_false h0
    have hd2 : decide (i ≥ p) = true := decide_eq_true (by omega)
    have h2 : p ≤ i := by omega
    go_enter Tryz.func58, Tryz.ntmps58
    go_wp2
    go_ret
    exact ⟨rfl, Up.refl _⟩

set_option maxHeartbeats 4000000 in
theorem changeE_calls (T n h : Nat) (Y : Nat → Prop) (g : FuncId) (cb : Array Value) (S : Bool) (f : List ET → Nat → List ET) (D : World → Prop) (w : World) (xs : List ET) (i : Nat) (p : Int) (b : Nat)
    (hf : Local S f) (hg : ∀ args w, (callFunc g args).run Tryz.prog w = .ok (.enter g args) w) (hD : DoIsE T Y g cb S f D w xs i) (hDs : ∀ W W', D W → Chg (fun y => ¬ Y y) W W' → D W') (hYT : ¬ Y T) (hYo : ∀ y, XT T Y y → y < w.heap.size) (hbig : xs.length ≤ 100000)
    (hT : TrC w T (pE b) n) (hnn : n ≤ 10000000) (hn : Top eC (XT T Y) w b xs h) (hok : Ok S xs.length i) (hp : (i : Int) < p) :
    Calls Tryz.prog 58 #[.pointer (some ⟨T, 0, none⟩), .int .i64 i, .int .i64 p, .func (.func g) #[] cb] w fun e w' => ChangeDoneE T Y n h (f xs i) D w e w' := by
  obtain ⟨s, hnd, hs8, hs2⟩ := hn
  have hTl : T < w.heap.size := hYo T (.inl rfl)
  have hh : h ≤ 11 := by
    have h1 := hnd.many
    by_cases h0 : h = 0
    · omega
    · have := hs2 h0
      rcases Nat.lt_or_ge h 11 with h3 | h3
      · omega
      · have h4 : 4 ^ 11 ≤ 4 ^ h := Nat.pow_le_pow_right (by decide) h3
        have h5 : 1 * 4 ^ 11 ≤ s * 4 ^ h := Nat.mul_le_mul (by omega) h4
        have h6 : (4 : Nat) ^ 11 = 4194304 := by decide
        omega
  have hzl : (f xs i).length ≤ 100001 := by have := hf.more _ _ hok; omega
  have HND := hide hnd
  have HOK := hide hok
  have HT := hide hT
  obtain ⟨c0, c1, f0, f1⟩ := hT
  have hd : decide ((i : Int) < 0) = false := decide_eq_false (by omega)
  have hd2 : decide ((i : Int) ≥ p) = false := decide_eq_false (by omega)
  have hp' : ¬ (p ≤ (i : Int)) := by omega
  have hCH := changedE_calls T Y (pE b) g cb S f D w xs i hf hg hD hDs hYT hYo hbig h (XT T Y) w n xs [] [] i b s (fun _ h => h) hYo (Up.refl _) HT.out hnn hnd hs8 hs2 (by simp) (by simp) hok
  have HCH := hide hCH
  unfold pE at c0
  clear hnd hok c1 f0 f1 hD hg hCH
  go_enter Tryz.func58, Tryz.ntmps58
  go_wp2_with fail
  refine HCH.out.mono ?_
  rintro _ w1 ⟨v1, u1, t, k, rfl, hl1, ht1, ht2, hT1, hk1, hk11, hD1, hC1⟩
  obtain ⟨a1, n1, d1, a2, n2, d2, rfl, rfl, hle1, hle2, hn12, hn0, hn1⟩ := hl1.slices
  have HL1 := hide hl1
  have HT1 := hide hT1
  have HD1 := hide hD1
  have HC1 := hide hC1
  obtain ⟨W1, hW1⟩ : ∃ W1, W1 = w1.alloc (.cells #[.slice a1 n1 d1, .slice a2 n2 d2] 115) := ⟨_, rfl⟩
  have uW : Hid (Up w1 W1) := by rw [hW1]; exact (Up.refl _).alloc _
  have l0 : W1.cell? ⟨w1.heap.size, 0, none⟩ = some (.slice a1 n1 d1) := by rw [hW1]; go_simp
  have l1 : W1.cell? ⟨w1.heap.size, 1, none⟩ = some (.slice a2 n2 d2) := by rw [hW1]; go_simp
  have hW1' := hW1.symm
  have hXT : ∀ y, y = T → XT T Y y := fun y e => .inl e
  have hYn : ∀ y, y = T → ¬ Y y := fun y e => by rw [e]; exact hYT
  clear hW1 c0
  by_cases hone : n2 = 1
  · subst hone
    have hh0 : h ≠ 0 := fun e => by have := (hn0 e).2; omega
    obtain ⟨h', rfl⟩ : ∃ h', h = h' + 1 := ⟨h - 1, by omega⟩
    have ht : t = 1 := by have := (hn1 hh0).2; omega
    obtain ⟨_, L, hr, hk, hx, hL⟩ := hl1
    obtain ⟨q, rfl⟩ : ∃ q, L = [q] := List.length_eq_one_iff.1 (by omega)
    obtain ⟨g2, o2, rfl, hq⟩ := hr.get (i := 0) (by simp)
    obtain ⟨tq, q4, q8, hnq⟩ := hk q (by simp)
    have HQ := hide hnq
    have HX := hide hx
    replace hq := uW.out.cell hq
    obtain ⟨d0, e0, f0, f1⟩ := hT1.up uW.out
    have hq' : W1.cell? ⟨g2, o2, none⟩ = some (.pointer (some ⟨q.1, 0, none⟩)) := hq
    have HTW := hide (hT1.up uW.out)
    clear hT1 hD1 hC1 hr hk hx hL hq hn0 hn1 hnq e0 l0
    obtain ⟨qb, hqb⟩ : ∃ qb, qb = q.1 := ⟨_, rfl⟩
    rw [← hqb] at hq' HQ
    replace hqb := hide hqb
    go_wp2
    go_ret
    have hc := chg_top W1 T (pE qb)
    refine ⟨qb, k, h', rfl, HTW.out.setTop (pE qb), ⟨tq, ?_, q8, fun _ => by omega⟩, hk11 (Nat.succ_ne_zero _), by omega, ?_, ?_⟩
    · rw [HX.out]
      simp only [List.flatMap_cons, List.flatMap_nil, List.append_nil]
      exact (HQ.out.chg (Chg.of_up uW.out)).chg (hc.mono (fun y _ e => hXT y e))
    · exact hDs _ _ (hDs _ _ HD1.out (Chg.of_up uW.out)) (hc.mono (fun y _ e => hYn y e))
    · exact (HC1.out.andUp uW.out).trans hc (fun y _ e => hXT y e)
  · have hb1 : ((n2 : Int) != 1) = true := by simp; omega
    have hb2 : ¬ ((n2 : Int) = 1) := by omega
    have ht16 : t ≤ 16 := by omega
    have hYo1 : ∀ y, XT T Y y → y < W1.heap.size := fun y hy => by have := hYo y hy; have := HC1.out.size; have := uW.out.size; omega
    have HYO := hide hYo1
    clear hl1 hT1 hD1 hC1
    go_wp2_with fail
    refine (nodesE_calls (XT T Y) T (n + k) (pE b) h _ _ (f xs i) t _ (HT1.out.up uW.out) (.inl rfl) HYO.out (HL1.out.chg (Chg.of_up uW.out)) ht16 (by omega) (by omega)).mono ?_
    rintro _ w2 ⟨v2, M, rfl, ho2, hM, hMf, hM1, hM2, hT2, hc2⟩
    obtain ⟨a3, n3, d3, rfl, hn3, hn3c⟩ := ho2.sliceN
    have hn3M : n3 = M.length := by rw [hn3.out]; simp
    have hMX : ∀ g, (Value.slice a3 n3 d3).ownBlock = some g → ¬ XT T Y g := fun g hg hx => by have := (ho2.lt g hg).1; have := HYO.out g hx; omega
    have HR2 := hide (ho2.rd hMX)
    have HM := hide hM
    have HMF := hide hMf
    have HT2 := hide hT2
    have HC2 := hide hc2
    clear ho2 hM hMf hT2 hc2 l0 l1 hW1'
    by_cases h8 : t ≤ 8
    · have hMl := hM1 h8
      obtain ⟨q, rfl⟩ : ∃ q, M = [q] := List.length_eq_one_iff.1 hMl
      obtain rfl : n3 = 1 := hn3M
      obtain ⟨g2, o2, rfl, hq⟩ := HR2.out.get (i := 0) (by simp)
      have hq' : w2.cell? ⟨g2, o2, none⟩ = some (.pointer (some ⟨q.1, 0, none⟩)) := hq
      obtain ⟨tq, hnq, q8, _, qs⟩ := HM.out q (by simp)
      obtain ⟨d0, e0, f0, f1⟩ := HT2.out
      have HQ := hide hnq
      obtain ⟨qb, hqb⟩ : ∃ qb, qb = q.1 := ⟨_, rfl⟩
      rw [← hqb] at hq' HQ
      replace hqb := hide hqb
      have hqs := qs h8
      clear hq hnq e0
      go_wp2
      go_ret
      have hc := chg_top w2 T (pE qb)
      refine ⟨qb, k + 1, h, rfl, ?_, ⟨tq, ?_, q8, fun h0 => ?_⟩, by omega, by omega, ?_, ?_⟩
      · rw [← Nat.add_assoc]
        exact HT2.out.setTop (pE qb)
      · have := HMF.out
        simp only [List.flatMap_cons, List.flatMap_nil, List.append_nil] at this
        rw [← this]
        exact HQ.out.chg (hc.mono (fun y _ e => hXT y e))
      · have := (hn1 h0).2
        have := hs2 h0
        omega
      · exact hDs _ _ (hDs _ _ (hDs _ _ HD1.out (Chg.of_up uW.out)) (HC2.out.mono (fun y _ e => hYn y e))) (hc.mono (fun y _ e => hYn y e))
      · exact ((HC1.out.andUp uW.out).trans HC2.out (fun y _ e => hXT y e)).trans hc (fun y _ e => hXT y e)
    · have hMl := hM2 (by omega)
      obtain rfl : n3 = 2 := by omega
      have hYo2 : ∀ y, XT T Y y → y < w2.heap.size := fun y hy => by have := HYO.out y hy; have := HC2.out.size; omega
      have HYO2 := hide hYo2
      have HL2 : Hid (Ld eC (XT T Y) w2 (h + 1) (.slice none 0 0) (.slice a3 2 d3) (f xs i) 2) := ⟨Emp.nil, M, HR2.out, fun q hq => by
        obtain ⟨tq, hnq, q8, q4, _⟩ := HM.out q hq
        exact ⟨tq, q4 (by omega), q8, hnq⟩, HMF.out.symm, hMl.symm⟩
      have HML := hide hMl
      clear hn3M hM1 hM2 hMl hn3
      dsimp only
      go_wp2_with fail
      have hMl := HML.out
      refine (nodesE_calls (XT T Y) T (n + k + M.length) (pE b) (h + 1) _ _ (f xs i) 2 _ HT2.out (.inl rfl) HYO2.out HL2.out (by omega) (by omega) (by omega)).mono ?_
      rintro _ w3 ⟨v3, N, rfl, ho3, hN, hNf, hN1, -, hT3, hc3⟩
      obtain ⟨q, rfl⟩ : ∃ q, N = [q] := List.length_eq_one_iff.1 (hN1 (by omega))
      obtain ⟨a4, n4, d4, rfl, hn4, hn4c⟩ := ho3.sliceN
      obtain rfl : n4 = 1 := hn4.out
      have HR3 := hide (ho3.rd (X := XT T Y) (fun g hg hx => by have := (ho3.lt g hg).1; have := HYO2.out g hx; omega))
      obtain ⟨g2, o2, rfl, hq⟩ := HR3.out.get (i := 0) (by simp)
      have hq' : w3.cell? ⟨g2, o2, none⟩ = some (.pointer (some ⟨q.1, 0, none⟩)) := hq
      obtain ⟨tq, hnq, q8, _, qs⟩ := hN q (by simp)
      have HT3 := hide hT3
      have HC3 := hide hc3
      obtain ⟨d0, e0, f0, f1⟩ := hT3
      have HQ := hide hnq
      have HNF := hide hNf
      obtain ⟨qb, hqb⟩ : ∃ qb, qb = q.1 := ⟨_, rfl⟩
      rw [← hqb] at hq' HQ
      replace hqb := hide hqb
      have hqs := qs (by omega)
      clear hq hnq e0 ho3 hN hNf hc3 hMl hN1 hn4
      dsimp only
      go_wp2
      go_ret
      have hc := chg_top w3 T (pE qb)
      refine ⟨qb, k + 2 + 1, h + 1, rfl, ?_, ⟨tq, ?_, q8, fun h0 => by omega⟩, by omega, by omega, ?_, ?_⟩
      · have := HT3.out.setTop (pE qb)
        rw [HML.out] at this
        exact this
      · have := HNF.out
        simp only [List.flatMap_cons, List.flatMap_nil, List.append_nil] at this
        rw [← this]
        exact HQ.out.chg (hc.mono (fun y _ e => hXT y e))
      · exact hDs _ _ (hDs _ _ (hDs _ _ (hDs _ _ HD1.out (Chg.of_up uW.out)) (HC2.out.mono (fun y _ e => hYn y e))) (HC3.out.mono (fun y _ e => hYn y e))) (hc.mono (fun y _ e => hYn y e))
      · exact (((HC1.out.andUp uW.out).trans HC2.out (fun y _ e => hXT y e)).trans HC3.out (fun y _ e => hXT y e)).trans hc (fun y _ e => hXT y e)
end Go.Proofs.YtnokokhbcfkifaaGreatDoor
