/-
  InsertAt, EraseAt and SetAt of a counted tree of whole numbers, as their text runs.
-/
import Derived.Test.YtcaccbjolgjmkaaTrTpI
import Derived.Test.YtcaccbjolgjmkaaTrInsI
import Derived.Test.YtcaccbjolgjmkaaTrLoc
import Derived.Shelf.Abstract
namespace Go.Proofs.Ytcaccbjolgjmkaa
open Go.ChangeShapes Go.WideShapes Go.ChangeAt Go.RowKit
set_option linter.unusedVariables false
set_option maxRecDepth 100000
attribute [local go_sem ↓] Go.wp_at_zero Go.wp_at_succ

/-- A tree in memory. -/
abbrev TrI := Tr (α := Int) (Value.int .i64)
theorem tlenI_calls (T h n : Nat) (xs : List Int) (w : World) (t : TrI w T xs h n) :
    Calls Try.prog 18 #[.pointer (some ⟨T, 0, none⟩)] w fun e w' => e = .returned (.int .i64 xs.length) ∧ w' = w := by
  obtain ⟨b, ⟨c0, _, _, _⟩, s, hn, _⟩ := t.top
  obtain ⟨ve, vb, ⟨_, d0, d1, d2⟩, _⟩ := nd_iff.1 hn
  unfold pE at c0
  clear t hn
  go_enter Try.func18, Try.ntmps18
  go_wp2
  go_ret
  exact ⟨rfl, rfl⟩

set_option maxHeartbeats 2000000 in
/-- The function that InsertAt hands over. -/
theorem doInsI (T vb : Nat) (v : Int) (w0 : World) (xs : List Int) (i : Nat) (hv : w0.cell? ⟨vb, 0, none⟩ = some ((Value.int .i64) v)) (hvT : vb ≠ T) :
    DoIsI T (fun _ => False) 33 #[.pointer (some ⟨vb, 0, none⟩)] false (insL v) (fun _ => True) w0 xs i := by
  intro W es a b j ve hc _ _ hok h8 hown
  have hv' : W.cell? ⟨vb, 0, none⟩ = some ((Value.int .i64) v) := hc.cell hv
  have hins : ∀ x, x = W.heap.size → Calls Try.prog 34 #[ve, .int .i64 j, .slice (some ⟨x, 0, none⟩) 1 1] (W.alloc (.cells #[(Value.int .i64) v] 3)) fun e w' => InsPostI (W.alloc (.cells #[(Value.int .i64) v] 3)) ve (es.take j ++ v :: es.drop j) e w' := fun x hx => by
    subst hx
    exact insI_calls ve es v j W.heap.size _ ((hown.base (Nat.zero_le _)).up ((Up.refl _).alloc _)) (by omega) hok.1 (heap_alloc_new _ _) (fun e => by have := (hown.lt _ e).2; omega)
  have HI := hide hins
  have HO := hide hown
  obtain ⟨a1, n1, d1, rfl, -, -⟩ := hown.sliceN
  clear hins hown hv hc hok h8
  go_enter Try.func33, Try.ntmps33
  go_wp2_with fail
  refine (HI.out _ rfl).mono ?_
  rintro _ w2 ⟨v2, rfl, ho2, hc2, hb2⟩
  have HO2 := hide ho2
  have HC2 := hide hc2
  have HB2 := hide hb2
  obtain ⟨a2, n2, d2, rfl, -, -⟩ := ho2.sliceN
  clear ho2 hc2 hb2
  dsimp only
  go_wp2
  go_ret
  refine ⟨.slice a2 n2 d2, rfl, HO2.out, fun g hg => ?_, (Chg.of_up (C := fun y => False ∨ (Value.slice a1 n1 d1).ownBlock = some y) ((Up.refl W).alloc _)).trans HC2.out (fun y _ h => .inr h), trivial⟩
  rcases HB2.out with h | ⟨g', h, h1, h2⟩
  · exact .inl (h ▸ hg)
  · rw [h] at hg
    cases hg
    exact .inr (Nat.le_trans (Nat.le_of_lt (by simp)) h1)

/-- What a change that is done leaves. -/
def TrDoneI (T n h : Nat) (zs : List Int) (w : World) (w' : World) : Prop := ∃ h' k, TrI w' T zs h' (n + k) ∧ 1 ≤ k ∧ k ≤ 2 * h + 3 ∧ Chg (fun y => y = T) w w'
set_option maxHeartbeats 2000000 in
theorem insertAtI_not (T h n : Nat) (i : Int) (v : Int) (xs : List Int) (w : World) (t : TrI w T xs h n) (hi : i < 0 ∨ (xs.length : Int) < i) (hx : xs.length ≤ 100000) :
    Calls Try.prog 12 #[.pointer (some ⟨T, 0, none⟩), .int .i64 i, (Value.int .i64) v] w fun e w' => e = .returned (.int .i64 73) ∧ Up w w' := by
  have HT := hide t
  have e1 : IntKind.i64.wrap ((xs.length : Int) + 1) = (xs.length : Int) + 1 := by rw [IntKind.wrap_i64]; omega
  have HU : Hid (Up w (w.alloc (.cells #[(Value.int .i64) v] 3))) := (Up.refl _).alloc _
  have hi' : i < 0 ∨ (xs.length : Int) + 1 ≤ i := by omega
  have HI := hide hi'
  clear t hi hi'
  go_enter Try.func12, Try.ntmps12
  go_wp2_with (first
    | (go_at_call 18; refine (tlenI_calls T h n xs _ (HT.out.up HU.out)).mono ?_; rintro _ w1 ⟨rfl, hw1⟩; subst hw1)
    | (go_at_call 32; refine (changeI_not T i _ _ _ HI.out).mono ?_; rintro _ w2 ⟨rfl, hu2⟩; replace hu2 := hide hu2))
  go_ret
  exact ⟨rfl, HU.out.trans hu2.out⟩
set_option maxHeartbeats 2000000 in
theorem insertAtI_ok (T h n i : Nat) (v : Int) (xs : List Int) (w : World) (t : TrI w T xs h n) (hi : i ≤ xs.length) (hx : xs.length ≤ 100000) (hn : n ≤ 10000000) :
    Calls Try.prog 12 #[.pointer (some ⟨T, 0, none⟩), .int .i64 i, (Value.int .i64) v] w fun e w' => e = .returned (.int .i64 0) ∧ TrDoneI T n h (insL v xs i) w w' := by
  have HT := hide t
  have hTl := t.lt
  have e1 : IntKind.i64.wrap ((xs.length : Int) + 1) = (xs.length : Int) + 1 := by rw [IntKind.wrap_i64]; omega
  have HU : Hid (Up w (w.alloc (.cells #[(Value.int .i64) v] 3))) := (Up.refl _).alloc _
  obtain ⟨b, hb, s, hnd, hs8, hs2⟩ := t.top
  have HC : Hid (Calls Try.prog 32 #[.pointer (some ⟨T, 0, none⟩), .int .i64 i, .int .i64 ((xs.length : Int) + 1), .func (.func 33) #[] #[.pointer (some ⟨w.heap.size, 0, none⟩)]] (w.alloc (.cells #[(Value.int .i64) v] 3)) fun e w' => ChangeDoneI T (fun _ => False) n h (insL v xs i) (fun _ => True) (w.alloc (.cells #[(Value.int .i64) v] 3)) e w') := by
    refine changeI_calls T n h (fun _ => False) _ _ false (insL v) (fun _ => True) _ xs i _ b (local_ins v) (enters_of Try.func33 (by kernel_rfl) rfl) (doInsI T w.heap.size v _ xs i (by rw [cell_of (heap_alloc_new _ _)]; rfl) (by omega)) (fun _ _ _ _ => trivial) (fun h => h) (fun y hy => ?_) hx (hb.up HU.out) hn ⟨s, ?_, hs8, hs2⟩ ⟨hi, fun h => by cases h⟩ (by omega)
    · rcases hy with rfl | hy
      · simp; omega
      · exact hy.elim
    · exact (hnd.mono (fun y _ hy => hy.elim id False.elim)).chg (Chg.of_up HU.out)
  clear t hb hnd
  go_enter Try.func12, Try.ntmps12
  go_wp2_with (first
    | (go_at_call 18; refine (tlenI_calls T h n xs _ (HT.out.up HU.out)).mono ?_; rintro _ w1 ⟨rfl, hw1⟩; subst hw1)
    | (go_at_call 32; refine HC.out.mono ?_; rintro _ w2 ⟨b2, k2, h2, rfl, ht2, htop2, hk1, hk2, -, hc2⟩; replace ht2 := hide ht2; replace htop2 := hide htop2; replace hc2 := hide hc2))
  go_ret
  obtain ⟨s2, hn2, hs⟩ := htop2.out
  exact ⟨rfl, h2, k2, ⟨b2, ht2.out, s2, hn2.mono (fun y _ e => .inl e), hs⟩, hk1, hk2, (Chg.of_up HU.out).trans hc2.out (fun y _ h => h.elim id False.elim)⟩

set_option maxHeartbeats 2000000 in
/-- The function that EraseAt hands over. -/
theorem doDelI (T ob : Nat) (z : Int) (u : Value) (w0 : World) (xs : List Int) (i : Nat) (hv : w0.cell? ⟨ob, 0, none⟩ = some u) (hvf : w0.frozen? ⟨ob, 0, none⟩ = false) :
    DoIsI T (fun y => y = ob) 35 #[.pointer (some ⟨ob, 0, none⟩)] true delL (fun W => W.cell? ⟨ob, 0, none⟩ = some ((Value.int .i64) (xs.getD i z))) w0 xs i := by
  intro W es a b j ve hc hxs hi hok h8 hown
  have hob : ob < w0.heap.size := World.block_lt_of_cell? _ _ hv
  have hv' := hc.cell hv
  have hf' := (hc.frozen (p := ⟨ob, 0, none⟩) hob).trans hvf
  have hj : j < es.length := hok.2 rfl
  have hx : xs.getD i z = es.getD j z := by rw [hxs, hi]; exact get_mid z a es b j hj
  have hobn : ∀ g, ve.ownBlock = some g → g ≠ ob := fun g hg e => by have := (hown.lt g hg).1; omega
  have hr := hown.rd (X := fun _ => False) (fun _ _ h => h)
  have HO := hide hown
  have HOB := hide hobn
  have HX := hide hx
  have hl6 : es.length ≤ 8 := h8
  have HJ := hide hj
  obtain ⟨a1, n1, d1, rfl, hn1, -⟩ := hown.sliceN
  obtain ⟨g1, o1, rfl, hg0⟩ := hr.get (i := j) hj
  obtain ⟨x, hxx, hg1⟩ : ∃ x, x = es[j] ∧ W.cell? ⟨g1, o1 + j, none⟩ = some ((Value.int .i64) x) := ⟨es[j], rfl, hg0⟩
  clear hg0
  have HXX := hide hxx
  have j0 : (0 : Int) ≤ (j : Int) := by omega
  have j1 : (j : Int) < (n1 : Int) := by rw [hn1.out]; omega
  have e1 : IntKind.i64.wrap ((j : Int) + 1) = (j : Int) + 1 := by rw [IntKind.wrap_i64]; omega
  have s1 := hide ((Chg.refl (fun y => y = ob) W).set (C := fun y => y = ob) (p := ⟨ob, 0, none⟩) (fun _ => rfl) ((Value.int .i64) x))
  have k1 : (W.setCell ⟨ob, 0, none⟩ ((Value.int .i64) x)).cell? ⟨ob, 0, none⟩ = some ((Value.int .i64) x) := World.cell?_setCell_same _ _ _ hv'
  have HK1 := hide k1
  have HL := hide hl6
  clear hxs hi hok hr hown hobn hx hxx hj h8 k1 hl6 hv hc
  go_enter Try.func35, Try.ntmps35
  go_wp2_with fail
  refine (delI_calls _ es j _ ((HO.out.base (Nat.zero_le _)).chg s1.out HOB.out) (Nat.le_trans HL.out (by decide)) HJ.out).mono ?_
  rintro _ w2 ⟨v2, rfl, ho2, hc2, hb2⟩
  have HO2 := hide ho2
  have HC2 := hide hc2
  have HB2 := hide hb2
  obtain ⟨a2, n2, d2, rfl, -, -⟩ := ho2.sliceN
  clear ho2 hc2 hb2
  dsimp only
  go_wp2
  go_ret
  refine ⟨.slice a2 n2 d2, rfl, HO2.out, fun g hg => .inl (HB2.out ▸ hg), (s1.out.mono (D := fun y => y = ob ∨ (Value.slice (some ⟨g1, o1, none⟩) n1 d1).ownBlock = some y) (fun y _ e => .inl e)).trans HC2.out (fun y _ h => .inr h), ?_⟩
  refine HC2.out.cell ?_ (fun h => HOB.out _ h rfl)
  rw [HK1.out, HX.out, HXX.out, List.getD_eq_getElem?_getD, List.getElem?_eq_getElem HJ.out]
  rfl
set_option maxHeartbeats 2000000 in
theorem eraseAtI_not (T h n : Nat) (i : Int) (xs : List Int) (w : World) (t : TrI w T xs h n) (hi : i < 0 ∨ (xs.length : Int) ≤ i) :
    Calls Try.prog 13 #[.pointer (some ⟨T, 0, none⟩), .int .i64 i] w fun e w' => e = .returned (.tuple #[(.int .i64 0), .int .i64 73]) ∧ Up w w' := by
  have HT := hide t
  obtain ⟨W, hW⟩ : ∃ W, W = w.alloc (.cells #[(.int .i64 0)] 3) := ⟨_, rfl⟩
  have HU : Hid (Up w W) := by rw [hW]; exact (Up.refl _).alloc _
  have c0 : W.cell? ⟨w.heap.size, 0, none⟩ = some (.int .i64 0) := by rw [hW]; go_simp
  have hW' := hW.symm
  have HI := hide hi
  clear t hi hW
  go_enter Try.func13, Try.ntmps13
  go_wp2_with (first
    | (go_at_call 18; refine (tlenI_calls T h n xs _ (HT.out.up HU.out)).mono ?_; rintro _ w1 ⟨rfl, hw1⟩; obtain rfl : W = w1 := hw1.symm; clear hW')
    | (go_at_call 32; refine (changeI_not T i _ _ _ HI.out).mono ?_; rintro _ w2 ⟨rfl, hu2⟩; replace c0 := hu2.cell c0; replace hu2 := hide hu2))
  go_ret2
  exact ⟨rfl, HU.out.trans hu2.out⟩
set_option maxHeartbeats 2000000 in
theorem eraseAtI_ok (T h n i : Nat) (z : Int) (xs : List Int) (w : World) (t : TrI w T xs h n) (hi : i < xs.length) (hx : xs.length ≤ 100000) (hn : n ≤ 10000000) :
    Calls Try.prog 13 #[.pointer (some ⟨T, 0, none⟩), .int .i64 i] w fun e w' => e = .returned (.tuple #[(Value.int .i64) (xs.getD i z), .int .i64 0]) ∧ TrDoneI T n h (delL xs i) w w' := by
  have HT := hide t
  have hTl := t.lt
  obtain ⟨W, hW⟩ : ∃ W, W = w.alloc (.cells #[(.int .i64 0)] 3) := ⟨_, rfl⟩
  have HU : Hid (Up w W) := by rw [hW]; exact (Up.refl _).alloc _
  have c0 : W.cell? ⟨w.heap.size, 0, none⟩ = some (.int .i64 0) := by rw [hW]; go_simp
  have f0 : W.frozen? ⟨w.heap.size, 0, none⟩ = false := by rw [hW]; go_simp
  have hWs : w.heap.size < W.heap.size := by rw [hW]; simp
  have hW' := hW.symm
  obtain ⟨b, hb, s, hnd, hs8, hs2⟩ := t.top
  have HC : Hid (Calls Try.prog 32 #[.pointer (some ⟨T, 0, none⟩), .int .i64 i, .int .i64 (xs.length : Int), .func (.func 35) #[] #[.pointer (some ⟨w.heap.size, 0, none⟩)]] W fun e w' => ChangeDoneI T (fun y => y = w.heap.size) n h (delL xs i) (fun W => W.cell? ⟨w.heap.size, 0, none⟩ = some ((Value.int .i64) (xs.getD i z))) W e w') := by
    refine changeI_calls T n h (fun y => y = w.heap.size) _ _ true delL _ _ xs i _ b local_del (enters_of Try.func35 (by kernel_rfl) rfl) (doDelI T w.heap.size z _ _ xs i c0 f0) (fun W W' hd hc => hc.cell hd (fun h => h rfl)) (by omega) (fun y hy => ?_) hx (hb.up HU.out) hn ⟨s, ?_, hs8, hs2⟩ ⟨by omega, fun _ => hi⟩ (by omega)
    · rcases hy with rfl | hy
      · omega
      · omega
    · exact (hnd.mono (fun y hy h => by
        rcases h with h | h
        · exact h
        · omega)).chg (Chg.of_up HU.out)
  clear t hb hnd hW c0 f0
  obtain ⟨x, hxx⟩ : ∃ x, x = xs.getD i z := ⟨_, rfl⟩
  rw [← hxx] at HC ⊢
  clear hxx
  go_enter Try.func13, Try.ntmps13
  go_wp2_with (first
    | (go_at_call 18; refine (tlenI_calls T h n xs _ (HT.out.up HU.out)).mono ?_; rintro _ w1 ⟨rfl, hw1⟩; obtain rfl : W = w1 := hw1.symm; clear hW')
    | (go_at_call 32; refine HC.out.mono ?_; rintro _ w2 ⟨b2, k2, h2, rfl, ht2, htop2, hk1, hk2, hd2, hc2⟩; replace ht2 := hide ht2; replace htop2 := hide htop2; replace hc2 := hide hc2))
  go_ret2
  obtain ⟨s2, hn2, hs⟩ := htop2.out
  refine ⟨rfl, h2, k2, ⟨b2, ht2.out, s2, hn2.mono (fun y _ e => .inl e), hs⟩, hk1, hk2, (Chg.of_up HU.out).trans hc2.out (fun y hy h => ?_)⟩
  rcases h with h | h
  · exact h
  · have h' : y = w.heap.size := h
    omega
set_option maxHeartbeats 2000000 in
/-- The function that SetAt hands over. -/
theorem doSetI (T vb : Nat) (v : Int) (w0 : World) (xs : List Int) (i : Nat) (hv : w0.cell? ⟨vb, 0, none⟩ = some ((Value.int .i64) v)) :
    DoIsI T (fun _ => False) 37 #[.pointer (some ⟨vb, 0, none⟩)] true (setL v) (fun _ => True) w0 xs i := by
  intro W es a b j ve hc _ _ hok h8 hown
  have hv' := hc.cell hv
  have hj : j < es.length := hok.2 rfl
  have hl : es ≠ [] := fun e => by rw [e] at hj; exact absurd hj (Nat.not_lt_zero _)
  obtain ⟨g, cap, cur, rfl, hbg, hg, h1, h2, h3, h4⟩ := hown.block hl
  obtain ⟨n1, hn1⟩ : ∃ n1, n1 = es.length := ⟨_, rfl⟩
  rw [← hn1] at h1 h4 ⊢
  have hcl : j < cur.size := by omega
  have c1 : W.cell? ⟨g, j, none⟩ = some cur[j] := by rw [cell_of hg, Array.getElem?_eq_getElem hcl]
  have f1 : W.frozen? ⟨g, j, none⟩ = false := by simp [World.frozen?, hg]
  have HO : Hid (Own 3 (Value.int .i64) (W.setCell ⟨g, j, none⟩ ((Value.int .i64) v)) 0 (.slice (some ⟨g, 0, none⟩) n1 cap) (setL v es j)) := by
    refine Own.mk (e := 3) (enc := (Value.int .i64)) (base := 0) (Nat.zero_le _) (cur := cur.setIfInBounds j ((Value.int .i64) v)) (heap_setCell_same W g j cur _ _ hg) (by rw [setL_len]; exact hn1.symm) h1 h2 (by simpa using h3) ?_
    rw [Array.toList_setIfInBounds, List.take_set, h4]
    unfold setL
    rw [List.map_set]
  have s1 := hide ((Chg.refl (fun y => y = g) W).set (C := fun y => y = g) (p := ⟨g, j, none⟩) (fun _ => rfl) ((Value.int .i64) v))
  have j0 : (0 : Int) ≤ (j : Int) := by omega
  have j1 : (j : Int) < (n1 : Int) := by omega
  obtain ⟨y, hy⟩ : ∃ y, y = cur[j] := ⟨_, rfl⟩
  rw [← hy] at c1
  clear hown hg h3 h4 hl hbg hv hc hok h8 hn1 hy hcl
  go_enter Try.func37, Try.ntmps37
  go_wp2
  go_ret
  exact ⟨.slice (some ⟨g, 0, none⟩) n1 cap, rfl, HO.out, fun g hg => .inl hg, s1.out.mono (fun y _ e => .inr (by rw [show y = g from e]; rfl)), trivial⟩
set_option maxHeartbeats 2000000 in
theorem setAtI_not (T h n : Nat) (i : Int) (v : Int) (xs : List Int) (w : World) (t : TrI w T xs h n) (hi : i < 0 ∨ (xs.length : Int) ≤ i) :
    Calls Try.prog 14 #[.pointer (some ⟨T, 0, none⟩), .int .i64 i, (Value.int .i64) v] w fun e w' => e = .returned (.int .i64 73) ∧ Up w w' := by
  have HT := hide t
  have HU : Hid (Up w (w.alloc (.cells #[(Value.int .i64) v] 3))) := (Up.refl _).alloc _
  have HI := hide hi
  clear t hi
  go_enter Try.func14, Try.ntmps14
  go_wp2_with (first
    | (go_at_call 18; refine (tlenI_calls T h n xs _ (HT.out.up HU.out)).mono ?_; rintro _ w1 ⟨rfl, hw1⟩; subst hw1)
    | (go_at_call 32; refine (changeI_not T i _ _ _ HI.out).mono ?_; rintro _ w2 ⟨rfl, hu2⟩; replace hu2 := hide hu2))
  go_ret
  exact ⟨rfl, HU.out.trans hu2.out⟩
set_option maxHeartbeats 2000000 in
theorem setAtI_ok (T h n i : Nat) (v : Int) (xs : List Int) (w : World) (t : TrI w T xs h n) (hi : i < xs.length) (hx : xs.length ≤ 100000) (hn : n ≤ 10000000) :
    Calls Try.prog 14 #[.pointer (some ⟨T, 0, none⟩), .int .i64 i, (Value.int .i64) v] w fun e w' => e = .returned (.int .i64 0) ∧ TrDoneI T n h (setL v xs i) w w' := by
  have HT := hide t
  have hTl := t.lt
  have HU : Hid (Up w (w.alloc (.cells #[(Value.int .i64) v] 3))) := (Up.refl _).alloc _
  obtain ⟨b, hb, s, hnd, hs8, hs2⟩ := t.top
  have HC : Hid (Calls Try.prog 32 #[.pointer (some ⟨T, 0, none⟩), .int .i64 i, .int .i64 (xs.length : Int), .func (.func 37) #[] #[.pointer (some ⟨w.heap.size, 0, none⟩)]] (w.alloc (.cells #[(Value.int .i64) v] 3)) fun e w' => ChangeDoneI T (fun _ => False) n h (setL v xs i) (fun _ => True) (w.alloc (.cells #[(Value.int .i64) v] 3)) e w') := by
    refine changeI_calls T n h (fun _ => False) _ _ true (setL v) (fun _ => True) _ xs i _ b (local_set v) (enters_of Try.func37 (by kernel_rfl) rfl) (doSetI T w.heap.size v _ xs i (by rw [cell_of (heap_alloc_new _ _)]; rfl)) (fun _ _ _ _ => trivial) (fun h => h) (fun y hy => ?_) hx (hb.up HU.out) hn ⟨s, ?_, hs8, hs2⟩ ⟨by omega, fun _ => hi⟩ (by omega)
    · rcases hy with rfl | hy
      · simp; omega
      · exact hy.elim
    · exact (hnd.mono (fun y _ hy => hy.elim id False.elim)).chg (Chg.of_up HU.out)
  clear t hb hnd
  go_enter Try.func14, Try.ntmps14
  go_wp2_with (first
    | (go_at_call 18; refine (tlenI_calls T h n xs _ (HT.out.up HU.out)).mono ?_; rintro _ w1 ⟨rfl, hw1⟩; subst hw1)
    | (go_at_call 32; refine HC.out.mono ?_; rintro _ w2 ⟨b2, k2, h2, rfl, ht2, htop2, hk1, hk2, -, hc2⟩; replace ht2 := hide ht2; replace htop2 := hide htop2; replace hc2 := hide hc2))
  go_ret
  obtain ⟨s2, hn2, hs⟩ := htop2.out
  exact ⟨rfl, h2, k2, ⟨b2, ht2.out, s2, hn2.mono (fun y _ e => .inl e), hs⟩, hk1, hk2, (Chg.of_up HU.out).trans hc2.out (fun y _ h => h.elim id False.elim)⟩
end Go.Proofs.Ytcaccbjolgjmkaa
