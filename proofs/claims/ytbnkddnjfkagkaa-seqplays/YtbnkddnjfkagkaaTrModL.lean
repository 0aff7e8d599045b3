/-
  InsertAt and EraseAt of a counted tree of numbers none of whose nodes lies in blocks that others write into (Y), as their text runs.
-/
import Derived.Test.YtbnkddnjfkagkaaTrAskL
namespace Go.Proofs.Ytbnkddnjfkagkaa
open Go.ChangeShapes Go.WideShapes Go.ChangeAt Go.RowKit
set_option linter.unusedVariables false
set_option maxRecDepth 100000
attribute [local go_sem ↓] Go.wp_at_zero Go.wp_at_succ

/-- A tree none of whose nodes lies in a block of Y. -/
def TrM (Y : Nat → Prop) (w : World) (T : Nat) (xs : List Int) (h n : Nat) : Prop := ∃ b, TrC w T (pE b) n ∧ Top (Value.int .i64) (XT T Y) w b xs h
theorem TrM.tr {Y : Nat → Prop} {w : World} {T : Nat} {xs : List Int} {h n : Nat} (t : TrM Y w T xs h n) : TrL w T xs h n := by
  obtain ⟨b, h1, s, h2, h3⟩ := t
  exact ⟨b, h1, s, h2.mono (fun y _ e => .inl e), h3⟩
theorem TrM.up {Y : Nat → Prop} {w w' : World} {T : Nat} {xs : List Int} {h n : Nat} (t : TrM Y w T xs h n) (hu : Up w w') : TrM Y w' T xs h n := by
  obtain ⟨b, h1, s, h2, h3⟩ := t
  exact ⟨b, h1.up hu, s, h2.chg (Chg.of_up hu), h3⟩
theorem TrM.chg {Y : Nat → Prop} {w w' : World} {T : Nat} {xs : List Int} {h n : Nat} (t : TrM Y w T xs h n) (hc : Chg Y w w') (hT : ¬ Y T) : TrM Y w' T xs h n := by
  obtain ⟨b, h1, s, h2, h3⟩ := t
  exact ⟨b, h1.chg hc hT, s, h2.chg (hc.mono (fun y _ h => .inr h)), h3⟩
theorem TrM.of {Y : Nat → Prop} {w0 w : World} {T : Nat} {h n : Nat} (t : TrL w T [] h n) (hY : ∀ y, Y y → y < w0.heap.size) (hb : ∀ b, TrC w T (pE b) n → ¬ Y b) : TrM Y w T [] h n := by
  obtain ⟨b, h1, s, h2, h3⟩ := t
  have h0 : h = 0 := Tr.low ⟨b, h1, s, h2, h3⟩ (by simp)
  subst h0
  obtain ⟨ve, vb, hc, hr, he, hs⟩ := h2
  exact ⟨b, h1, s, ⟨ve, vb, ⟨fun hx => hx.elim (fun e => hc.1 e) (fun e => hb b h1 e), hc.2⟩, hr.emp.rd, he, hs⟩, h3⟩
/-- The blocks of Y are as they were. -/
def Same (Y : Nat → Prop) (w0 w : World) : Prop := ∀ g, Y g → g < w0.heap.size → w.heap[g]? = w0.heap[g]?
theorem Same.chg {Y C : Nat → Prop} {w0 w w' : World} (h : Same Y w0 w) (hw : w0.heap.size ≤ w.heap.size) (hc : Chg C w w') (hn : ∀ y, Y y → y < w0.heap.size → ¬ C y) : Same Y w0 w' := fun g hg hl => (hc.2 g (by omega) (hn g hg hl)).trans (h g hg hl)
theorem Same.up {Y : Nat → Prop} {w w' : World} (hu : Up w w') : Same Y w w' := fun g _ hl => by
  obtain ⟨o, ho⟩ : ∃ o, w.heap[g]? = some o := ⟨_, Array.getElem?_eq_getElem hl⟩
  rw [hu.heap ho, ho]
theorem chg_same {Y C : Nat → Prop} {w0 w : World} (hc : Chg (fun y => C y ∨ Y y) w0 w) (hs : Same Y w0 w) : Chg C w0 w := by
  refine ⟨hc.1, fun b hb hn => ?_⟩
  by_cases hy : Y b
  · exact hs b hy hb
  · exact hc.2 b hb (fun h => h.elim hn hy)
/-- What a change that is done leaves. -/
def TrDoneM (Y : Nat → Prop) (T n h : Nat) (zs : List Int) (w : World) (w' : World) : Prop := ∃ h' k, TrM Y w' T zs h' (n + k) ∧ 1 ≤ k ∧ k ≤ 2 * h + 3 ∧ Chg (fun y => y = T) w w'
set_option maxHeartbeats 2000000 in
/-- The function that InsertAt hands over. -/
theorem doInsM (Y : Nat → Prop) (T vb : Nat) (v : Int) (w0 : World) (xs : List Int) (i : Nat) (hv : w0.cell? ⟨vb, 0, none⟩ = some ((Value.int .i64) v)) (hvT : vb ≠ T) :
    DoIsL T Y 79 #[.pointer (some ⟨vb, 0, none⟩)] false (insL v) (fun W => Same Y w0 W ∧ w0.heap.size ≤ W.heap.size) w0 xs i := by
  intro W es a b j ve hc _ _ hok h8 hown
  have hv' : W.cell? ⟨vb, 0, none⟩ = some ((Value.int .i64) v) := hc.cell hv
  have hins : ∀ x, x = W.heap.size → Calls Try.prog 80 #[ve, .int .i64 j, .slice (some ⟨x, 0, none⟩) 1 1] (W.alloc (.cells #[(Value.int .i64) v] 2)) fun e w' => InsPostL (W.alloc (.cells #[(Value.int .i64) v] 2)) ve (es.take j ++ v :: es.drop j) e w' := fun x hx => by
    subst hx
    exact insL_calls ve es v j W.heap.size _ ((hown.base (Nat.zero_le _)).up ((Up.refl _).alloc _)) (by omega) hok.1 (heap_alloc_new _ _) (fun e => by have := (hown.lt _ e).2; omega)
  have HI := hide hins
  have HCC := hide hc
  have HO := hide hown
  obtain ⟨a1, n1, d1, rfl, -, -⟩ := hown.sliceN
  clear hins hown hv hc hok h8
  go_enter Try.func79, Try.ntmps79
  go_wp2_with fail
  refine (HI.out _ rfl).mono ?_
  rintro _ w2 ⟨v2, rfl, ho2, hc2, hb2⟩
  have HO2 := hide ho2
  have HC2 := hide hc2
  have HB2 := hide hb2
  obtain ⟨a2, n2, d2, rfl, -, -⟩ := ho2.sliceN
  clear ho2 hc2 hb2
  dsimp only
  go_wp2
  go_ret
  refine ⟨.slice a2 n2 d2, rfl, HO2.out, fun g hg => ?_, (Chg.of_up (C := fun y => Y y ∨ (Value.slice a1 n1 d1).ownBlock = some y) ((Up.refl W).alloc _)).trans HC2.out (fun y _ h => .inr h), ?_⟩
  rotate_left
  · exact ⟨Same.chg (Same.up HCC.out) HCC.out.size ((Chg.of_up (C := fun y => (Value.slice a1 n1 d1).ownBlock = some y) ((Up.refl W).alloc _)).trans HC2.out (fun y _ h => h)) (fun y _ hl h => by have := (HO.out.lt y h).1; omega), Nat.le_trans HCC.out.size (Nat.le_trans (Nat.le_of_lt (by simp)) HC2.out.size)⟩
  rcases HB2.out with h | ⟨g', h, h1, h2⟩
  · exact .inl (h ▸ hg)
  · rw [h] at hg
    cases hg
    exact .inr (Nat.le_trans (Nat.le_of_lt (by simp)) h1)

set_option maxHeartbeats 2000000 in
theorem insertAtM_ok (Y : Nat → Prop) (T h n i : Nat) (v : Int) (xs : List Int) (w : World) (hYT : ¬ Y T) (hYl : ∀ y, Y y → y < w.heap.size) (tm : TrM Y w T xs h n) (hi : i ≤ xs.length) (hx : xs.length ≤ 100000) (hn : n ≤ 10000000) :
    Calls Try.prog 66 #[.pointer (some ⟨T, 0, none⟩), .int .i64 i, (Value.int .i64) v] w fun e w' => e = .returned (.int .i64 0) ∧ TrDoneM Y T n h (insL v xs i) w w' := by
  have t := tm.tr
  have HT := hide t
  have hTl := t.lt
  have e1 : IntKind.i64.wrap ((xs.length : Int) + 1) = (xs.length : Int) + 1 := by rw [IntKind.wrap_i64]; omega
  have HU : Hid (Up w (w.alloc (.cells #[(Value.int .i64) v] 2))) := (Up.refl _).alloc _
  obtain ⟨b, hb, s, hnd, hs8, hs2⟩ := tm
  have HC : Hid (Calls Try.prog 74 #[.pointer (some ⟨T, 0, none⟩), .int .i64 i, .int .i64 ((xs.length : Int) + 1), .func (.func 79) #[] #[.pointer (some ⟨w.heap.size, 0, none⟩)]] (w.alloc (.cells #[(Value.int .i64) v] 2)) fun e w' => ChangeDoneL T Y n h (insL v xs i) (fun V => Same Y (w.alloc (.cells #[(Value.int .i64) v] 2)) V ∧ (w.alloc (.cells #[(Value.int .i64) v] 2)).heap.size ≤ V.heap.size) (w.alloc (.cells #[(Value.int .i64) v] 2)) e w') := by
    refine changeL_calls T n h Y _ _ false (insL v) _ _ xs i _ b (local_ins v) (enters_of Try.func79 (by kernel_rfl) rfl) (doInsM Y T w.heap.size v _ xs i (by rw [cell_of (heap_alloc_new _ _)]; rfl) (by omega)) (fun W W' hd hc => ⟨hd.1.chg hd.2 hc (fun y hy _ h => h hy), Nat.le_trans hd.2 hc.size⟩) hYT (fun y hy => ?_) hx (hb.up HU.out) hn ⟨s, ?_, hs8, hs2⟩ ⟨hi, fun h => by cases h⟩ (by omega)
    · rcases hy with rfl | hy
      · simp; omega
      · have := hYl y hy; simp; omega
    · exact hnd.chg (Chg.of_up HU.out)
  clear t hb hnd hYl hYT
  go_enter Try.func66, Try.ntmps66
  go_wp2_with (first
    | (go_at_call 67; refine (tlenL_calls T h n xs _ (HT.out.up HU.out)).mono ?_; rintro _ w1 ⟨rfl, hw1⟩; subst hw1)
    | (go_at_call 74; refine HC.out.mono ?_; rintro _ w2 ⟨b2, k2, h2, rfl, ht2, htop2, hk1, hk2, ⟨hd2, -⟩, hc2⟩; replace hd2 := hide hd2; replace ht2 := hide ht2; replace htop2 := hide htop2; replace hc2 := hide hc2))
  go_ret
  obtain ⟨s2, hn2, hs⟩ := htop2.out
  exact ⟨rfl, h2, k2, ⟨b2, ht2.out, s2, hn2, hs⟩, hk1, hk2, (Chg.of_up HU.out).trans (chg_same (C := fun y => y = T) hc2.out hd2.out) (fun y _ h => h)⟩

set_option maxHeartbeats 2000000 in
/-- The function that EraseAt hands over. -/
theorem doDelM (Z Y : Nat → Prop) (T ob : Nat) (hZo : ∀ y, Z y → y ≠ ob) (hYo : Y ob) (z : Int) (u : Value) (w0 : World) (xs : List Int) (i : Nat) (hv : w0.cell? ⟨ob, 0, none⟩ = some u) (hvf : w0.frozen? ⟨ob, 0, none⟩ = false) :
    DoIsL T Y 75 #[.pointer (some ⟨ob, 0, none⟩)] true delL (fun W => W.cell? ⟨ob, 0, none⟩ = some ((Value.int .i64) (xs.getD i z)) ∧ Same Z w0 W ∧ w0.heap.size ≤ W.heap.size) w0 xs i := by
  intro W es a b j ve hc hxs hi hok h8 hown
  have hob : ob < w0.heap.size := World.block_lt_of_cell? _ _ hv
  have hv' := hc.cell hv
  have hf' := (hc.frozen (p := ⟨ob, 0, none⟩) hob).trans hvf
  have hj : j < es.length := hok.2 rfl
  have hx : xs.getD i z = es.getD j z := by rw [hxs, hi]; exact get_mid z a es b j hj
  have hobn : ∀ g, ve.ownBlock = some g → g ≠ ob := fun g hg e => by have := (hown.lt g hg).1; omega
  have hr := hown.rd (X := fun _ => False) (fun _ _ h => h)
  have HCC := hide hc
  have HZO := hide hZo
  have HYO := hide hYo
  have HO := hide hown
  have HOB := hide hobn
  have HX := hide hx
  have hl6 : es.length ≤ 8 := h8
  have HJ := hide hj
  obtain ⟨a1, n1, d1, rfl, hn1, -⟩ := hown.sliceN
  obtain ⟨g1, o1, rfl, hg0⟩ := hr.get (i := j) hj
  obtain ⟨x, hxx, hg1⟩ : ∃ x, x = es[j] ∧ W.cell? ⟨g1, o1 + j, none⟩ = some ((Value.int .i64) x) := ⟨es[j], rfl, hg0⟩
  clear hg0
  have HXX := hide hxx
  have j0 : (0 : Int) ≤ (j : Int) := by omega
  have j1 : (j : Int) < (n1 : Int) := by rw [hn1.out]; omega
  have e1 : IntKind.i64.wrap ((j : Int) + 1) = (j : Int) + 1 := by rw [IntKind.wrap_i64]; omega
  have s1 := hide ((Chg.refl (fun y => y = ob) W).set (C := fun y => y = ob) (p := ⟨ob, 0, none⟩) (fun _ => rfl) ((Value.int .i64) x))
  have k1 : (W.setCell ⟨ob, 0, none⟩ ((Value.int .i64) x)).cell? ⟨ob, 0, none⟩ = some ((Value.int .i64) x) := World.cell?_setCell_same _ _ _ hv'
  have HK1 := hide k1
  have HL := hide hl6
  clear hxs hi hok hr hown hobn hx hxx hj h8 k1 hl6 hv hc hZo hYo
  go_enter Try.func75, Try.ntmps75
  go_wp2_with fail
  refine (delL_calls _ es j _ ((HO.out.base (Nat.zero_le _)).chg s1.out HOB.out) (Nat.le_trans HL.out (by decide)) HJ.out).mono ?_
  rintro _ w2 ⟨v2, rfl, ho2, hc2, hb2⟩
  have HO2 := hide ho2
  have HC2 := hide hc2
  have HB2 := hide hb2
  obtain ⟨a2, n2, d2, rfl, -, -⟩ := ho2.sliceN
  clear ho2 hc2 hb2
  dsimp only
  go_wp2
  go_ret
  refine ⟨.slice a2 n2 d2, rfl, HO2.out, fun g hg => .inl (HB2.out ▸ hg), (s1.out.mono (D := fun y => Y y ∨ (Value.slice (some ⟨g1, o1, none⟩) n1 d1).ownBlock = some y) (fun y _ e => .inl (by rw [show y = ob from e]; exact HYO.out))).trans HC2.out (fun y _ h => .inr h), ?_, ?_, ?_⟩
  rotate_left
  · exact ((Same.up HCC.out).chg HCC.out.size s1.out (fun y hy _ e => HZO.out y hy e)).chg (Nat.le_trans HCC.out.size s1.out.size) HC2.out (fun y hy hl h => by have := (HO.out.lt y h).1; omega)
  · exact Nat.le_trans HCC.out.size (Nat.le_trans s1.out.size HC2.out.size)
  refine HC2.out.cell ?_ (fun h => HOB.out _ h rfl)
  rw [HK1.out, HX.out, HXX.out, List.getD_eq_getElem?_getD, List.getElem?_eq_getElem HJ.out]
  rfl
set_option maxHeartbeats 2000000 in
theorem eraseAtM_ok (Y : Nat → Prop) (T h n i : Nat) (z : Int) (xs : List Int) (w : World) (hYT : ¬ Y T) (hYl : ∀ y, Y y → y < w.heap.size) (tm : TrM Y w T xs h n) (hi : i < xs.length) (hx : xs.length ≤ 100000) (hn : n ≤ 10000000) :
    Calls Try.prog 60 #[.pointer (some ⟨T, 0, none⟩), .int .i64 i] w fun e w' => e = .returned (.tuple #[(Value.int .i64) (xs.getD i z), .int .i64 0]) ∧ TrDoneM Y T n h (delL xs i) w w' := by
  have t := tm.tr
  have HT := hide t
  have hTl := t.lt
  obtain ⟨W, hW⟩ : ∃ W, W = w.alloc (.cells #[(.int .i64 0)] 2) := ⟨_, rfl⟩
  have HU : Hid (Up w W) := by rw [hW]; exact (Up.refl _).alloc _
  have c0 : W.cell? ⟨w.heap.size, 0, none⟩ = some (.int .i64 0) := by rw [hW]; go_simp
  have f0 : W.frozen? ⟨w.heap.size, 0, none⟩ = false := by rw [hW]; go_simp
  have hWs : w.heap.size < W.heap.size := by rw [hW]; simp
  have hW' := hW.symm
  obtain ⟨b, hb, s, hnd, hs8, hs2⟩ := tm
  have HC : Hid (Calls Try.prog 74 #[.pointer (some ⟨T, 0, none⟩), .int .i64 i, .int .i64 (xs.length : Int), .func (.func 75) #[] #[.pointer (some ⟨w.heap.size, 0, none⟩)]] W fun e w' => ChangeDoneL T (fun y => y = w.heap.size ∨ Y y) n h (delL xs i) (fun V => V.cell? ⟨w.heap.size, 0, none⟩ = some ((Value.int .i64) (xs.getD i z)) ∧ Same Y W V ∧ W.heap.size ≤ V.heap.size) W e w') := by
    refine changeL_calls T n h (fun y => y = w.heap.size ∨ Y y) _ _ true delL _ _ xs i _ b local_del (enters_of Try.func75 (by kernel_rfl) rfl) (doDelM Y _ T w.heap.size (fun y hy => by have := hYl y hy; omega) (.inl rfl) z _ _ xs i c0 f0) (fun W W' hd hc => ⟨hc.cell hd.1 (fun h => h (.inl rfl)), hd.2.1.chg hd.2.2 hc (fun y hy _ h => h (.inr hy)), Nat.le_trans hd.2.2 hc.size⟩) (fun h => by rcases h with h | h <;> first | omega | exact hYT h) (fun y hy => ?_) hx (hb.up HU.out) hn ⟨s, ?_, hs8, hs2⟩ ⟨by omega, fun _ => hi⟩ (by omega)
    · rcases hy with rfl | rfl | hy
      · omega
      · omega
      · have := hYl y hy; omega
    · exact (hnd.mono (fun y hy h => by
        rcases h with h | h | h
        · exact .inl h
        · omega
        · exact .inr h)).chg (Chg.of_up HU.out)
  have HYL := hide hYl
  have HYT := hide hYT
  clear t hb hnd hW c0 f0 hYl hYT
  obtain ⟨x, hxx⟩ : ∃ x, x = xs.getD i z := ⟨_, rfl⟩
  rw [← hxx] at HC ⊢
  clear hxx
  go_enter Try.func60, Try.ntmps60
  go_wp2_with (first
    | (go_at_call 67; refine (tlenL_calls T h n xs _ (HT.out.up HU.out)).mono ?_; rintro _ w1 ⟨rfl, hw1⟩; obtain rfl : W = w1 := hw1.symm; clear hW')
    | (go_at_call 74; refine HC.out.mono ?_; rintro _ w2 ⟨b2, k2, h2, rfl, ht2, htop2, hk1, hk2, ⟨hd2, hsm, -⟩, hc2⟩; replace hsm := hide hsm; replace ht2 := hide ht2; replace htop2 := hide htop2; replace hc2 := hide hc2))
  go_ret2
  obtain ⟨s2, hn2, hs⟩ := htop2.out
  refine ⟨rfl, h2, k2, ⟨b2, ht2.out, s2, hn2.mono (fun y _ e => e.imp id (fun e => .inr e)), hs⟩, hk1, hk2, (Chg.of_up HU.out).trans (chg_same (C := fun y => y = T ∨ y = w.heap.size) (hc2.out.mono (fun y _ h => or_assoc.2 h)) hsm.out) (fun y hy h => ?_)⟩
  rcases h with h | h
  · exact h
  · have h' : y = w.heap.size := h
    omega
end Go.Proofs.Ytbnkddnjfkagkaa
