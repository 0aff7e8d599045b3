/-
  SetAt of a counted tree of numbers none of whose nodes lies in blocks that others write into (Y), as its text runs.
-/
import Derived.Test.YtbnkddnjfkagkaaTrModL
namespace Go.Proofs.Ytbnkddnjfkagkaa
open Go.ChangeShapes Go.WideShapes Go.ChangeAt Go.RowKit
set_option linter.unusedVariables false
set_option maxRecDepth 100000
attribute [local go_sem ↓] Go.wp_at_zero Go.wp_at_succ

set_option maxHeartbeats 2000000 in
/-- The function that SetAt hands over. -/
theorem doSetM (Y : Nat → Prop) (T vb : Nat) (v : Int) (w0 : World) (xs : List Int) (i : Nat) (hv : w0.cell? ⟨vb, 0, none⟩ = some ((Value.int .i64) v)) :
    DoIsL T Y 86 #[.pointer (some ⟨vb, 0, none⟩)] true (setL v) (fun W => Same Y w0 W ∧ w0.heap.size ≤ W.heap.size) w0 xs i := by
  intro W es a b j ve hc _ _ hok h8 hown
  have hv' := hc.cell hv
  have hj : j < es.length := hok.2 rfl
  have hl : es ≠ [] := fun e => by rw [e] at hj; exact absurd hj (Nat.not_lt_zero _)
  have HOL := hide (hown.lt)
  obtain ⟨g, cap, cur, rfl, hbg, hg, h1, h2, h3, h4⟩ := hown.block hl
  have hgl := (HOL.out g rfl).1
  obtain ⟨n1, hn1⟩ : ∃ n1, n1 = es.length := ⟨_, rfl⟩
  rw [← hn1] at h1 h4 ⊢
  have hcl : j < cur.size := by omega
  have c1 : W.cell? ⟨g, j, none⟩ = some cur[j] := by rw [cell_of hg, Array.getElem?_eq_getElem hcl]
  have f1 : W.frozen? ⟨g, j, none⟩ = false := by simp [World.frozen?, hg]
  have HO : Hid (Own 2 (Value.int .i64) (W.setCell ⟨g, j, none⟩ ((Value.int .i64) v)) 0 (.slice (some ⟨g, 0, none⟩) n1 cap) (setL v es j)) := by
    refine Own.mk (e := 2) (enc := (Value.int .i64)) (base := 0) (Nat.zero_le _) (cur := cur.setIfInBounds j ((Value.int .i64) v)) (heap_setCell_same W g j cur _ _ hg) (by rw [setL_len]; exact hn1.symm) h1 h2 (by simpa using h3) ?_
    rw [Array.toList_setIfInBounds, List.take_set, h4]
    unfold setL
    rw [List.map_set]
  have s1 := hide ((Chg.refl (fun y => y = g) W).set (C := fun y => y = g) (p := ⟨g, j, none⟩) (fun _ => rfl) ((Value.int .i64) v))
  have HSM : Hid (Same Y w0 (W.setCell ⟨g, j, none⟩ ((Value.int .i64) v)) ∧ w0.heap.size ≤ (W.setCell ⟨g, j, none⟩ ((Value.int .i64) v)).heap.size) :=
    ⟨(Same.up hc).chg hc.size s1.out (fun y _ hl e => by have e' : y = g := e; omega), Nat.le_trans hc.size s1.out.size⟩
  have j0 : (0 : Int) ≤ (j : Int) := by omega
  have j1 : (j : Int) < (n1 : Int) := by omega
  obtain ⟨y, hy⟩ : ∃ y, y = cur[j] := ⟨_, rfl⟩
  rw [← hy] at c1
  clear hown hg h3 h4 hl hbg hv hc hok h8 hn1 hy hcl HOL hgl
  go_enter Try.func86, Try.ntmps86
  go_wp2
  go_ret
  exact ⟨.slice (some ⟨g, 0, none⟩) n1 cap, rfl, HO.out, fun g hg => .inl hg, s1.out.mono (fun y _ e => .inr (by rw [show y = g from e]; rfl)), HSM.out⟩
set_option maxHeartbeats 2000000 in
theorem setAtM_ok (Y : Nat → Prop) (T h n i : Nat) (v : Int) (xs : List Int) (w : World) (hYT : ¬ Y T) (hYl : ∀ y, Y y → y < w.heap.size) (tm : TrM Y w T xs h n) (hi : i < xs.length) (hx : xs.length ≤ 100000) (hn : n ≤ 10000000) :
    Calls Try.prog 73 #[.pointer (some ⟨T, 0, none⟩), .int .i64 i, (Value.int .i64) v] w fun e w' => e = .returned (.int .i64 0) ∧ TrDoneM Y T n h (setL v xs i) w w' := by
  have t := tm.tr
  have HT := hide t
  have hTl := t.lt
  have HU : Hid (Up w (w.alloc (.cells #[(Value.int .i64) v] 2))) := (Up.refl _).alloc _
  obtain ⟨b, hb, s, hnd, hs8, hs2⟩ := tm
  have HC : Hid (Calls Try.prog 74 #[.pointer (some ⟨T, 0, none⟩), .int .i64 i, .int .i64 (xs.length : Int), .func (.func 86) #[] #[.pointer (some ⟨w.heap.size, 0, none⟩)]] (w.alloc (.cells #[(Value.int .i64) v] 2)) fun e w' => ChangeDoneL T Y n h (setL v xs i) (fun V => Same Y (w.alloc (.cells #[(Value.int .i64) v] 2)) V ∧ (w.alloc (.cells #[(Value.int .i64) v] 2)).heap.size ≤ V.heap.size) (w.alloc (.cells #[(Value.int .i64) v] 2)) e w') := by
    refine changeL_calls T n h Y _ _ true (setL v) _ _ xs i _ b (local_set v) (enters_of Try.func86 (by kernel_rfl) rfl) (doSetM Y T w.heap.size v _ xs i (by rw [cell_of (heap_alloc_new _ _)]; rfl)) (fun W W' hd hc => ⟨hd.1.chg hd.2 hc (fun y hy _ h => h hy), Nat.le_trans hd.2 hc.size⟩) hYT (fun y hy => ?_) hx (hb.up HU.out) hn ⟨s, ?_, hs8, hs2⟩ ⟨by omega, fun _ => hi⟩ (by omega)
    · rcases hy with rfl | hy
      · simp; omega
      · have := hYl y hy; simp; omega
    · exact hnd.chg (Chg.of_up HU.out)
  clear t hb hnd hYl hYT
  go_enter Try.func73, Try.ntmps73
  go_wp2_with (first
    | (go_at_call 67; refine (tlenL_calls T h n xs _ (HT.out.up HU.out)).mono ?_; rintro _ w1 ⟨rfl, hw1⟩; subst hw1)
    | (go_at_call 74; refine HC.out.mono ?_; rintro _ w2 ⟨b2, k2, h2, rfl, ht2, htop2, hk1, hk2, ⟨hd2, -⟩, hc2⟩; replace hd2 := hide hd2; replace ht2 := hide ht2; replace htop2 := hide htop2; replace hc2 := hide hc2))
  go_ret
  obtain ⟨s2, hn2, hs⟩ := htop2.out
  exact ⟨rfl, h2, k2, ⟨b2, ht2.out, s2, hn2, hs⟩, hk1, hk2, (Chg.of_up HU.out).trans (chg_same (C := fun y => y = T) hc2.out hd2.out) (fun y _ h => h)⟩
end Go.Proofs.Ytbnkddnjfkagkaa
