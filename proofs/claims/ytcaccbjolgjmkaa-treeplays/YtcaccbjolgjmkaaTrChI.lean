/-
  changed of a counted tree of whole numbers, as its text runs.
-/
import Derived.Test.YtcaccbjolgjmkaaTrNoI
namespace Go.Proofs.Ytcaccbjolgjmkaa
open Go.ChangeShapes Go.WideShapes Go.ChangeAt Go.RowKit
set_option linter.unusedVariables false
set_option maxRecDepth 100000
attribute [local go_sem ↓] Go.wp_at_zero Go.wp_at_succ

/-- What is asked of the function that works on a leaf's elements. -/
def DoIsI (T : Nat) (Y : Nat → Prop) (g : FuncId) (cb : Array Value) (S : Bool) (f : List Int → Nat → List Int) (D : World → Prop) (w0 : World) (xs : List Int) (i : Nat) : Prop :=
  ∀ (W : World) (es a b : List Int) (j : Nat) (ve : Value), Up w0 W → xs = a ++ (es ++ b) → i = a.length + j → Ok S es.length j → es.length ≤ 8 → Own 3 (Value.int .i64) W w0.heap.size ve es →
    Calls Try.prog g (#[ve, .int .i64 j] ++ cb) W fun e W' => ∃ v', e = .returned v' ∧ Own 3 (Value.int .i64) W' 0 v' (f es j) ∧ (∀ g, v'.ownBlock = some g → ve.ownBlock = some g ∨ W.heap.size ≤ g) ∧ Chg (fun y => Y y ∨ ve.ownBlock = some y) W W' ∧ D W'
/-- What changed tells. -/
def ChangedPostI (X : Nat → Prop) (T : Nat) (Y : Nat → Prop) (tv : Value) (n h : Nat) (zs : List Int) (s : Nat) (D : World → Prop) (w : World) (e : Ending) (w' : World) : Prop :=
  ∃ v u t k, e = .returned (.agg #[v, u]) ∧ Ld (Value.int .i64) X w' h v u zs t ∧ t ≤ s + 1 ∧ s ≤ t + 1 ∧ TrC w' T tv (n + k) ∧ k ≤ 2 * h ∧ (h ≠ 0 → 1 ≤ k) ∧ D w' ∧ Chg (XT T Y) w w'

set_option maxHeartbeats 4000000 in
/-- Of a leaf. -/
theorem changedI_leaf (X : Nat → Prop) (T n : Nat) (Y : Nat → Prop) (tv : Value) (g : FuncId) (cb : Array Value) (S : Bool) (f : List Int → Nat → List Int) (D : World → Prop) (w0 w : World) (xs ys a c : List Int) (i j b s : Nat)
    (hf : Local S f) (hg : ∀ args w, (callFunc g args).run Try.prog w = .ok (.enter g args) w) (hD : DoIsI T Y g cb S f D w0 xs i) (hDs : ∀ W W', D W → Chg (fun y => ¬ Y y) W W' → D W') (hYT : ¬ Y T) (hYo : ∀ y, XT T Y y → y < w0.heap.size) (hc : Up w0 w)
    (hXY : ∀ y, XT T Y y → X y) (hXo : ∀ y, X y → y < w.heap.size) (hT : TrC w T tv n) (hn : Nd (Value.int .i64) X w 0 b ys s) (hs : s ≤ 8) (hxs : xs = a ++ (ys ++ c)) (hi : i = a.length + j) (hok : Ok S ys.length j) :
    Calls Try.prog 50 #[.pointer (some ⟨T, 0, none⟩), .pointer (some ⟨b, 0, none⟩), .int .i64 j, .func (.func g) #[] cb] w fun e w' => ChangedPostI X T Y tv n 0 (f ys j) s D w e w' := by
  have HN := hide hn
  obtain ⟨ve, vb, ⟨hX, c0, c1, c2⟩, hr, hb, rfl⟩ := hn
  obtain ⟨ae, ne, ce, rfl, -, -⟩ := hr.sliceN
  have HR := hide hr
  have HT := hide hT
  have HO := hide hYo
  have HC := hide hc
  have HXS := hide hxs
  have HI := hide hi
  have HOK := hide hok
  have HS := hide hs
  clear hr hT hYo hc hxs hi hok hs hb c1 c2
  obtain ⟨W, hW⟩ : ∃ W, W = w.alloc (.cells #[.slice none 0 0, .slice none 0 0] 64) := ⟨_, rfl⟩
  have uW : Hid (Up w W) := by rw [hW]; exact (Up.refl _).alloc _
  have hk0 : RB [w.heap.size] W W := ⟨Chg.refl _ _, fun r hr => by
    obtain rfl := List.mem_singleton.1 hr
    rw [hW]
    exact ⟨by go_simp, by go_simp, by go_simp, by go_simp⟩⟩
  have hWs : w.heap.size < W.heap.size := by rw [hW]; simp
  replace c0 := uW.out.cell c0
  have hW' := hW.symm
  clear hW
  go_enter Try.func50, Try.ntmps50
  go_wp2_with (go_at_call 39; refine (leafI_calls X 0 b ys _ _ (HN.out.chg (Chg.of_up uW.out)) (fun h => absurd rfl h)).mono ?_; rintro _ w1 ⟨rfl, hw1⟩; obtain rfl : W = w1 := hw1.symm; clear hW')
  refine (cloneI_calls _ ys X _ (HR.out.up uW.out) (Nat.le_trans HS.out (by decide))).mono ?_
  rintro _ w2 ⟨v2, rfl, ho2, hu2⟩
  obtain ⟨a2, n2, d2, rfl, -, -⟩ := ho2.sliceN
  have HO2 := hide ho2
  have HU2 := hide hu2
  have hk2 := hide (hk0.up hu2)
  clear ho2 hu2 hk0 c0
  go_wp2_with fail
  have hsz0 : w0.heap.size ≤ w.heap.size := HC.out.size
  have hC2 : Up w0 w2 := HC.out.trans (uW.out.trans HU2.out)
  refine (hD w2 ys a c j _ hC2 HXS.out HI.out HOK.out HS.out (HO2.out.base (Nat.le_trans hsz0 uW.out.size))).mono ?_
  rintro _ w3 ⟨v3, rfl, hr3, hb3v, hc3, hd3⟩
  have hb3w : ∀ y, (v3.ownBlock = some y) → W.heap.size ≤ y := fun y hy => by
    rcases hb3v y hy with h | h
    · exact (HO2.out.lt _ h).1
    · exact Nat.le_trans HU2.out.size h
  obtain ⟨a3, n3, d3, rfl, -, -⟩ := hr3.sliceN
  have hnR : ¬ (Y w.heap.size ∨ (Value.slice a2 n2 d2).ownBlock = some w.heap.size) := by
    rintro (h | h)
    · have := HO.out _ (.inr h); omega
    · have := (HO2.out.lt _ h).1; omega
  have hnT : ¬ (Y T ∨ (Value.slice a2 n2 d2).ownBlock = some T) := by
    rintro (h | h)
    · exact hYT h
    · have := (HO2.out.lt _ h).1; have := HO.out T (.inl rfl); omega
  obtain ⟨hb0, hb1, hb2, hb3⟩ := hk2.out.box w.heap.size (by simp)
  obtain ⟨x0, g0⟩ := Option.isSome_iff_exists.1 hb0
  obtain ⟨x1, g1⟩ := Option.isSome_iff_exists.1 hb1
  have hRl : w.heap.size < w2.heap.size := World.block_lt_of_cell? _ _ g0
  replace g0 := hc3.cell g0 hnR
  replace g1 := hc3.cell g1 hnR
  have g2 := (hc3.frozen (p := ⟨w.heap.size, 0, none⟩) hRl hnR).trans hb2
  have g3 := (hc3.frozen (p := ⟨w.heap.size, 1, none⟩) hRl hnR).trans hb3
  have HT3 : Hid (TrC w3 T tv n) := (HT.out.up (uW.out.trans HU2.out)).chg hc3 hnT
  have HC3 : Hid (Chg (XT T Y) w w3) := (Chg.of_up (C := XT T Y) (uW.out.trans HU2.out)).trans hc3 (fun y hy h => by
    rcases h with h | h
    · exact .inr h
    · have := (HO2.out.lt _ h).1; have := uW.out.size; omega)
  have HR3 := hide hr3
  have HD3 := hide hd3
  have HB3 := hide hb3w
  clear hr3 hc3 hd3 hb3v hb3w hnR hnT hb0 hb1 hb2 hb3 hk2 hRl hC2
  go_wp2
  have k0 : ((w3.setCell ⟨w.heap.size, 0, none⟩ (.slice a3 n3 d3)).setCell ⟨w.heap.size, 1, none⟩ (.slice none 0 0)).cell? ⟨w.heap.size, 0, none⟩ = some (.slice a3 n3 d3) := set2_c0 g0
  have k1 : ((w3.setCell ⟨w.heap.size, 0, none⟩ (.slice a3 n3 d3)).setCell ⟨w.heap.size, 1, none⟩ (.slice none 0 0)).cell? ⟨w.heap.size, 1, none⟩ = some (.slice none 0 0) := set2_c1 g1
  have s1 := set2_chg w3 w.heap.size (.slice a3 n3 d3) (.slice none 0 0)
  have hYR : ¬ Y w.heap.size := fun h => by have := HO.out _ (.inr h); omega
  refine bodyPost_ret (v := .agg #[.slice a3 n3 d3, .slice none 0 0]) (by simp [results, Try.results50, go_sem, k0, k1]) rfl ⟨_, _, (f ys j).length, 0, rfl, ⟨?_, Emp.nil, rfl⟩, hf.more ys j HOK.out, hf.less ys j HOK.out, HT3.out.chg s1 (fun e => ?_), Nat.zero_le _, fun h => absurd rfl h, hDs _ _ HD3.out (s1.mono (fun y _ e => by rw [show y = w.heap.size from e]; exact hYR)), HC3.out.trans s1 (fun y hy e => by have e' : y = w.heap.size := e; omega)⟩
  · refine Own.rd (e := 3) (base := 0) (HR3.out.chg s1 (fun g hg e => ?_)) (fun g hg hx => ?_)
    · have e' : g = w.heap.size := e
      have := HB3.out g hg
      omega
    · have := hXo g hx
      have := HB3.out g hg
      omega
  · have e' : T = w.heap.size := e
    have := HO.out T (.inl rfl)
    omega
end Go.Proofs.Ytcaccbjolgjmkaa
