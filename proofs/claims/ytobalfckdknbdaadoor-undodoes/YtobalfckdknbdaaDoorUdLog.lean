/-
  Package undo's log in memory, and what New, Add, Len, Mark, has, take, Keep and Back do with it: Back by what each back does.
-/
import Derived.Test.YtobalfckdknbdaaDoorChecked
import Derived.Test.YtobalfckdknbdaaDoorChgs
import Derived.ProofKit
import Derived.IntWalk
import Derived.Deep.DrawnRows
import Derived.Deep.RegionHeld3
namespace Go.Proofs.YtobalfckdknbdaaDoor
open Go.RowKit
set_option linter.unusedVariables false
set_option maxRecDepth 20000
attribute [local go_sem ↓] Go.wp_at_zero Go.wp_at_succ

/-- A step of a log: its block, the function in it and what that captured. -/
structure Bk where
  blk : Nat
  fn : FuncId
  cap : Array Value
def Bk.val (b : Bk) : Value := .func (.func b.fn) #[] b.cap
/-- A chain of steps from a pointer on. -/
def Stk (w : World) : Option Addr → List Bk → Prop
  | o, [] => o = none
  | o, k :: l => o = some ⟨k.blk, 0, none⟩ ∧ w.cell? ⟨k.blk, 0, none⟩ = some (.func (.func k.fn) #[] k.cap) ∧ ∃ o', w.cell? ⟨k.blk, 1, none⟩ = some (.pointer o') ∧ Stk w o' l
/-- The log in block T. -/
structure LogAt (T : Nat) (l : List Bk) (w : World) : Prop where
  top : ∃ o, w.cell? ⟨T, 0, none⟩ = some (.pointer o) ∧ Stk w o l
  len : w.cell? ⟨T, 1, none⟩ = some (.int .i64 l.length)
  f0 : w.frozen? ⟨T, 0, none⟩ = false
  f1 : w.frozen? ⟨T, 1, none⟩ = false
  apart : ∀ p ∈ l, p.blk ≠ T
  few : l.length < 1000000

theorem Stk.chg {C : Nat → Prop} {w w' : World} (hc : Chg C w w') : ∀ {l : List Bk} {o : Option Addr}, Stk w o l → (∀ p ∈ l, ¬ C p.blk) → Stk w' o l
  | [], _, h, _ => h
  | k :: l, v, h, hn => by
    obtain ⟨h1, h2, v', h3, h4⟩ := h
    have hb : ¬ C k.blk := hn k (List.mem_cons_self ..)
    exact ⟨h1, hc.cell (p := ⟨k.blk, 0, none⟩) h2 hb, v', hc.cell (p := ⟨k.blk, 1, none⟩) h3 hb, Stk.chg hc h4 (fun p hp => hn p (List.mem_cons_of_mem _ hp))⟩
theorem Stk.old {w : World} : ∀ {l : List Bk} {o : Option Addr}, Stk w o l → ∀ p ∈ l, p.blk < w.heap.size
  | [], _, _, _, hp => by cases hp
  | k :: l, v, h, p, hp => by
    obtain ⟨h1, h2, v', h3, h4⟩ := h
    rcases List.mem_cons.1 hp with rfl | hp
    · exact World.block_lt_of_cell? w ⟨p.blk, 0, none⟩ h2
    · exact Stk.old h4 p hp
theorem LogAt.old {T : Nat} {l : List Bk} {w : World} (h : LogAt T l w) : T < w.heap.size ∧ ∀ p ∈ l, p.blk < w.heap.size := by
  obtain ⟨v, h1, h2⟩ := h.top
  exact ⟨World.block_lt_of_cell? w ⟨T, 1, none⟩ h.len, h2.old⟩
theorem LogAt.chg {C : Nat → Prop} {T : Nat} {l : List Bk} {w w' : World} (h : LogAt T l w) (hc : Chg C w w') (hT : ¬ C T) (hl : ∀ p ∈ l, ¬ C p.blk) : LogAt T l w' := by
  obtain ⟨v, h1, h2⟩ := h.top
  exact ⟨⟨v, hc.cell (p := ⟨T, 0, none⟩) h1 hT, h2.chg hc hl⟩, hc.cell (p := ⟨T, 1, none⟩) h.len hT, (hc.frozen (p := ⟨T, 0, none⟩) h.old.1 hT).trans h.f0, (hc.frozen (p := ⟨T, 1, none⟩) h.old.1 hT).trans h.f1, h.apart, h.few⟩
theorem LogAt.up {T : Nat} {l : List Bk} {w w' : World} (h : LogAt T l w) (hu : Up w w') : LogAt T l w' :=
  h.chg (C := fun _ => False) (Chg.of_up hu) id (fun _ _ => id)
/-- Where T's two cells are written and no step's block is. -/
theorem LogAt.make {T : Nat} {l l' : List Bk} {w w' : World} (h : LogAt T l w) (hc : Chg (fun y => y = T) w w') {o : Option Addr} (h0 : w'.cell? ⟨T, 0, none⟩ = some (.pointer o)) (h1 : w'.cell? ⟨T, 1, none⟩ = some (.int .i64 l'.length)) (hs : Stk w' o l') (ha : ∀ p ∈ l', p.blk ≠ T) (hf : l'.length < 1000000)
    (f0 : w'.frozen? ⟨T, 0, none⟩ = w.frozen? ⟨T, 0, none⟩) (f1 : w'.frozen? ⟨T, 1, none⟩ = w.frozen? ⟨T, 1, none⟩) : LogAt T l' w' :=
  ⟨⟨o, h0, hs⟩, h1, f0.trans h.f0, f1.trans h.f1, ha, hf⟩

theorem Chg.chT {T : Nat} {a b : World} (h : Chg (fun y => y = T) a b) (i : Nat) (v : Value) : Chg (fun y => y = T) a (b.setCell ⟨T, i, none⟩ v) := h.set (fun _ => rfl) v

theorem udNew_calls (w : World) : Calls Tryd.prog 5 #[] w fun e w' => e = .returned (.pointer (some ⟨w.heap.size, 0, none⟩)) ∧ LogAt w.heap.size [] w' ∧ Up w w' := by
  go_enter Tryd.func5, Tryd.ntmps5
  go_wp2
  go_ret
  refine ⟨rfl, ⟨⟨none, by go_simp, rfl⟩, by go_simp, by simp, by simp, fun p hp => (by cases hp), by decide⟩, (Up.refl _).alloc _⟩

set_option maxHeartbeats 1600000 in
theorem udAdd_calls (T : Nat) (l : List Bk) (G : FuncId) (cap : Array Value) (w : World) (h : LogAt T l w) (hn : l.length + 1 < 1000000) :
    Calls Tryd.prog 6 #[.pointer (some ⟨T, 0, none⟩), .func (.func G) #[] cap] w fun e w' => e = .returned (.tuple #[]) ∧ LogAt T (⟨w.heap.size, G, cap⟩ :: l) w' ∧ Chg (fun y => y = T) w w' ∧ w'.heap.size = w.heap.size + 1 := by
  have H := hide h
  obtain ⟨v, h0, hs⟩ := h.top
  have h1 := h.len
  have f0 := h.f0
  have f1 := h.f1
  have HS := hide hs
  have hTs := h.old.1
  have hne : ¬ T = w.heap.size := Nat.ne_of_lt hTs
  have hne' : ¬ w.heap.size = T := fun e => hne e.symm
  have hw : wrap64 ((l.length : Int) + 1) = (l.length : Int) + 1 := IntWalk.wrap64_in _ (by omega)
  clear h hs
  go_enter Tryd.func6, Tryd.ntmps6
  go_wp2
  go_end0
  have hch : Chg (fun y => y = T) w (((w.setCell ⟨T, 0, none⟩ (.pointer (some ⟨w.heap.size, 0, none⟩))).setCell ⟨T, 1, none⟩ (.int .i64 ((l.length : Int) + 1))).alloc (.cells #[.func (.func G) #[] cap, .pointer v] 41)) :=
    (((Chg.refl _ w).chT 0 _).chT 1 _).alloc _
  refine ⟨rfl, ?_, hch, by simp⟩
  refine H.out.make hch (o := some ⟨w.heap.size, 0, none⟩) (by go_simp) (by go_simp) ⟨rfl, by go_simp, v, by go_simp, HS.out.chg hch (fun p hp => H.out.apart p hp)⟩ ?_ hn (((Up.refl _).alloc _).frozen (p := ⟨T, 0, none⟩) (by simpa using hTs) |>.trans (by simp)) (((Up.refl _).alloc _).frozen (p := ⟨T, 1, none⟩) (by simpa using hTs) |>.trans (by simp))
  intro p hp
  rcases List.mem_cons.1 hp with rfl | hp
  · exact hne'
  · exact H.out.apart p hp

theorem udLen_calls (T : Nat) (l : List Bk) (w : World) (h : LogAt T l w) :
    Calls Tryd.prog 11 #[.pointer (some ⟨T, 0, none⟩)] w fun e w' => e = .returned (.int .i64 l.length) ∧ w' = w := by
  have h1 := h.len
  clear h
  go_enter Tryd.func11, Tryd.ntmps11
  go_wp2
  go_ret
  exact ⟨rfl, rfl⟩

theorem udMark_calls (T : Nat) (l : List Bk) (w : World) (h : LogAt T l w) :
    Calls Tryd.prog 15 #[.pointer (some ⟨T, 0, none⟩)] w fun e w' => e = .returned (.int .i64 l.length) ∧ w' = w := by
  have h1 := h.len
  clear h
  go_enter Tryd.func15, Tryd.ntmps15
  go_wp2
  go_ret
  exact ⟨rfl, rfl⟩

theorem udHas_calls (T : Nat) (l : List Bk) (m : Int) (b : Bool) (w : World) (h : LogAt T l w) (hb : b = decide (0 ≤ m ∧ m ≤ l.length)) :
    Calls Tryd.prog 20 #[.pointer (some ⟨T, 0, none⟩), .int .i64 m] w fun e w' => e = .returned (.bool b) ∧ w' = w := by
  have h1 := h.len
  clear h
  by_cases k0 : 0 ≤ m
  · go_enter Tryd.func20, Tryd.ntmps20
    go_wp2
    go_ret
    subst hb
    refine ⟨?_, rfl⟩
    simp [k0]
  · go_enter Tryd.func20, Tryd.ntmps20
    go_wp2
    go_ret
    subst hb
    refine ⟨?_, rfl⟩
    simp; omega

set_option maxHeartbeats 1600000 in
theorem udTake_calls (T : Nat) (k : Bk) (l : List Bk) (w : World) (h : LogAt T (k :: l) w) :
    Calls Tryd.prog 21 #[.pointer (some ⟨T, 0, none⟩)] w fun e w' => e = .returned (.func (.func k.fn) #[] k.cap) ∧ LogAt T l w' ∧ Chg (fun y => y = T) w w' ∧ w'.heap.size = w.heap.size := by
  have H := hide h
  obtain ⟨v, h0, hs⟩ := h.top
  obtain ⟨rfl, hk0, o', hk1, hs'⟩ := hs
  have h1 := h.len
  have f0 := h.f0
  have f1 := h.f1
  have HS := hide hs'
  have hTs := h.old.1
  have hne : ¬ k.blk = T := h.apart k (List.mem_cons_self ..)
  have hne' : ¬ T = k.blk := fun e => hne e.symm
  have hw : wrap64 (((l.length + 1 : Nat) : Int) + -1) = (l.length : Int) := by
    have hf : l.length + 1 < 1000000 := h.few
    rw [IntWalk.wrap64_in _ (by omega)]; omega
  rw [List.length_cons] at h1
  clear h hs'
  go_enter Tryd.func21, Tryd.ntmps21
  go_wp2
  go_ret
  have hch : Chg (fun y => y = T) w ((w.setCell ⟨T, 0, none⟩ (.pointer o')).setCell ⟨T, 1, none⟩ (.int .i64 (wrap64 (l.length : Int)))) :=
    ((Chg.refl _ w).chT 0 _).chT 1 _
  have hf : l.length + 1 < 1000000 := H.out.few
  have hl : wrap64 (l.length : Int) = (l.length : Int) := IntWalk.wrap64_in _ (by omega)
  refine ⟨rfl, ?_, hch, by simp⟩
  exact H.out.make hch (o := o') (by go_simp) (by rw [hl]; go_simp) (HS.out.chg hch (fun p hp => H.out.apart p (List.mem_cons_of_mem _ hp))) (fun p hp => H.out.apart p (List.mem_cons_of_mem _ hp)) (by omega) (by simp [f0]) (by simp [f1])

/-- The length that stands in a log. -/
def lenIn (T : Nat) (w : World) : Nat := (intOf ((w.cell? ⟨T, 1, none⟩).getD undef)).toNat
theorem LogAt.lenIn {T : Nat} {l : List Bk} {w : World} (h : LogAt T l w) : lenIn T w = l.length := by
  unfold Go.Proofs.YtobalfckdknbdaaDoor.lenIn; rw [h.len]; rfl

theorem udBack_not (T : Nat) (l : List Bk) (m : Int) (w : World) (h : LogAt T l w) (hm : ¬ (0 ≤ m ∧ m ≤ l.length)) :
    Calls Tryd.prog 16 #[.pointer (some ⟨T, 0, none⟩), .int .i64 m] w fun e w' => e = .returned (.bool false) ∧ w' = w := by
  have hc := udHas_calls T l m false w h (by simpa using hm)
  have HC := hide hc
  clear hc h hm
  go_enter Tryd.func16, Tryd.ntmps16
  go_wp2_with (go_at_call 20; refine HC.out.mono ?_; rintro _ w1 ⟨rfl, hw1⟩; obtain rfl : w = w1 := hw1.symm)
  go_ret
  exact ⟨rfl, rfl⟩

set_option maxHeartbeats 1600000 in
/-- Back: what holds while the steps are taken back one by one (J), kept by each. -/
theorem udBack_ok (T : Nat) (l : List Bk) (m : Nat) (J : List Bk → World → Prop) (w : World) (h : LogAt T l w) (hm : m ≤ l.length)
    (hE : ∀ k ∈ l, ∀ w', (callFunc k.fn k.cap).run Tryd.prog w' = .ok (.enter k.fn k.cap) w')
    (hJ : ∀ r W W', J r W → Chg (fun y => y = T) W W' → W'.heap.size = W.heap.size → J r W')
    (hS : ∀ k r W, (∃ p, l = p ++ k :: r) → m ≤ r.length → LogAt T r W → J (k :: r) W → Calls Tryd.prog k.fn k.cap W fun e W' => e = .returned (.tuple #[]) ∧ LogAt T r W' ∧ J r W')
    (h0 : J l w) :
    Calls Tryd.prog 16 #[.pointer (some ⟨T, 0, none⟩), .int .i64 m] w fun e w' => e = .returned (.bool true) ∧ LogAt T (l.drop (l.length - m)) w' ∧ J (l.drop (l.length - m)) w' := by
  have hc := udHas_calls T l m true w h (by simp; omega)
  have HC := hide hc
  have HM := hide hm
  have H := hide h
  have HE := hide hE
  have HJ := hide hJ
  have HS := hide hS
  have H0 := hide h0
  clear hc h hm hE hJ hS h0
  go_enter Tryd.func16, Tryd.ntmps16
  go_wp2_with (go_at_call 20; refine HC.out.mono ?_; rintro _ w1 ⟨rfl, hw1⟩; obtain rfl : w = w1 := hw1.symm)
  go_loopw [] (fun wr => ∃ r, Hid (LogAt T r wr ∧ (∃ p, l = p ++ r) ∧ m ≤ r.length ∧ J r wr)) (fun wr => lenIn T wr)
  case atStart => exact ⟨l, hide ⟨H.out, ⟨[], rfl⟩, HM.out, H0.out⟩⟩
  case round =>
    obtain ⟨r, hr⟩ := hrel
    have hc1 := hr.out.1.len
    by_cases hlt : m < r.length
    · obtain ⟨k, r', rfl⟩ : ∃ k r', r = k :: r' := by
        cases r with
        | nil => exact absurd hlt (Nat.not_lt_zero m)
        | cons k r' => exact ⟨k, r', rfl⟩
      have z1 : (m : Int) < (r'.length : Int) + 1 := by rw [List.length_cons] at hlt; omega
      have he : ∀ w', (callFunc k.fn k.cap).run Tryd.prog w' = .ok (.enter k.fn k.cap) w' := HE.out k (by
        obtain ⟨h1, ⟨p, h2⟩, h3⟩ := hr.out
        rw [h2]; exact List.mem_append_right _ (List.mem_cons_self ..))
      go_wp2_with fail
      go_at_call 21
      refine (udTake_calls T k r' wr hr.out.1).mono ?_
      rintro _ w2 ⟨rfl, hl2, hc2, hs2⟩
      have hcall : Hid (Calls Tryd.prog k.fn k.cap w2 fun e W' => e = .returned (.tuple #[]) ∧ LogAt T r' W' ∧ J r' W') := by
        obtain ⟨h1, ⟨p, h2⟩, h3, h4⟩ := hr.out
        exact hide (HS.out k r' w2 ⟨p, h2⟩ (Nat.le_of_lt_succ hlt) hl2 (HJ.out _ _ _ h4 hc2 hs2))
      clear hl2 hc2 hs2
      go_wp2_with fail
      refine hcall.out.mono ?_
      rintro _ w3 ⟨rfl, hl3, hj3⟩
      have hmeas : lenIn T w3 < lenIn T wr := by rw [hl3.lenIn, hr.out.1.lenIn]; exact Nat.lt_succ_self _
      have hrel2 : Hid (LogAt T r' w3 ∧ (∃ p, l = p ++ r') ∧ m ≤ r'.length ∧ J r' w3) := by
        obtain ⟨h1, ⟨p, h2⟩, h3, h4⟩ := hr.out
        exact hide ⟨hl3, ⟨p ++ [k], by rw [h2]; simp⟩, Nat.le_of_lt_succ hlt, hj3⟩
      clear hl3 hj3
      go_wp2
      go_roundw
      case rel => exact ⟨r', hrel2⟩
      case measure => exact hmeas
    · have z1 : ¬ (m : Int) < (r.length : Int) := by omega
      obtain ⟨h1, ⟨p, h2⟩, h3, h4⟩ := hr.out
      have hd : l.drop (l.length - m) = r := by
        have e : l.length - m = p.length := by rw [h2, List.length_append]; omega
        rw [e, h2, List.drop_left]
      clear hr
      have H1 := hide h1
      have H4 := hide h4
      have HD := hide hd
      clear h1 h4 h2 hd
      go_wp2
      go_ret
      exact ⟨rfl, by rw [HD.out]; exact H1.out, by rw [HD.out]; exact H4.out⟩

end Go.Proofs.YtobalfckdknbdaaDoor
