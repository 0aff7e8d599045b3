/-
  num and known of the laws on hash indexes, as their text runs.
-/
import Derived.Test.YtofpakpbbpcalaaHaAsk
namespace Go.Proofs.Ytofpakpbbpcalaa
open Go.ChangeShapes Go.WideShapes Go.ChangeAt Go.RowKit
set_option linter.unusedVariables false
set_option maxRecDepth 100000
attribute [local go_sem ↓] Go.wp_at_zero Go.wp_at_succ
attribute [local go_sem] run_store_float

theorem Up.thenChg {C : Nat → Prop} {a b c : World} (h : Up a b) (k : Chg C b c) (hC : ∀ x, x < a.heap.size → ¬ C x) : Up a c := ((Chg.of_up (C := C) h).trans k (fun _ _ h => h)).up hC
/-- An index that is new since a world. -/
def Ix (p : Nat) (w wr : World) (u : Bool) (T : Tab) (len c : Nat) : Prop := Up w wr ∧ ∃ O, Idx p O wr u T (len : Int) c ∧ ∀ x, O x → w.heap.size ≤ x
theorem Ix.up {p : Nat} {w wr w' : World} {u : Bool} {T : Tab} {len c : Nat} (h : Ix p w wr u T len c) (hu : Up wr w') : Ix p w w' u T len c := by
  obtain ⟨h1, O, h2, h3⟩ := h
  exact ⟨h1.trans hu, O, h2.up hu, h3⟩
theorem Ix.then {p : Nat} {w wr w' : World} {u : Bool} {T' : Tab} {len' c' : Nat} {O : Nat → Prop} (h1 : Up w wr) (h2 : ∀ x, O x → w.heap.size ≤ x) (hc : Chg O wr w') (hi : Idx p (fun y => O y ∨ (wr.heap.size ≤ y ∧ y < w'.heap.size)) w' u T' (len' : Int) c') : Ix p w w' u T' len' c' :=
  ⟨h1.thenChg hc (fun x hx e => by have := h2 x e; omega), _, hi, fun x hx => hx.elim (h2 x) (fun h => Nat.le_trans h1.size h.1)⟩
theorem newX_calls (u : Bool) (w0 w : World) (h0 : Up w0 w) : Calls Try.prog 8 #[.bool u] w fun e w' => ∃ p, e = .returned (.pointer (some ⟨p, 0, none⟩)) ∧ Ix p w0 w' u (fun _ => []) 0 0 := by
  refine (new_calls u w).mono ?_
  rintro e w' ⟨p, rfl, hp, hi, hu⟩
  exact ⟨p, rfl, h0.trans hu, _, hi, fun x hx => Nat.le_trans h0.size hx.1⟩
theorem insX_new {p : Nat} {w0 w : World} {u : Bool} {T : Tab} {len c : Nat} (h : Ix p w0 w u T len c) (a : Option Addr) (n cp : Nat) (m : List VT) (x : Int) (hm : GoodK m) (hv : Vals w a n m) (hT : T m = []) (hl : len ≤ 100000) (hc : c ≤ 100000) :
    Calls Try.prog 11 #[.pointer (some ⟨p, 0, none⟩), .slice a n cp, .int .i64 x] w fun e w' => e = .returned (.int .i64 0) ∧ Ix p w0 w' u (setT T m [x]) (len + 1) (c + 1) := by
  obtain ⟨h1, O, h2, h3⟩ := h
  refine (insert_new p O u T len c a n cp m x w h2 hm hv hT hl hc).mono ?_
  rintro e w' ⟨rfl, hc, hi⟩
  exact ⟨rfl, Ix.then h1 h3 hc hi⟩
theorem insX_not {p : Nat} {w0 w : World} {u : Bool} {T : Tab} {len c : Nat} (h : Ix p w0 w u T len c) (a : Option Addr) (n cp : Nat) (m : List VT) (x : Int) (hm : GoodK m) (hv : Vals w a n m) (hx : x ∈ T m ∨ (x ∉ T m ∧ T m ≠ [] ∧ u = true)) :
    Calls Try.prog 11 #[.pointer (some ⟨p, 0, none⟩), .slice a n cp, .int .i64 x] w fun e w' => e = .returned (.int .i64 (if x ∈ T m then 72 else 80)) ∧ Up w w' := by
  obtain ⟨h1, O, h2, h3⟩ := h
  exact insert_not p O u T len c a n cp m x w h2 hm hv hx
theorem eraX_not {p : Nat} {w0 w : World} {u : Bool} {T : Tab} {len c : Nat} (h : Ix p w0 w u T len c) (a : Option Addr) (n cp : Nat) (m : List VT) (x : Int) (hm : GoodK m) (hv : Vals w a n m) (hx : x ∉ T m) :
    Calls Try.prog 14 #[.pointer (some ⟨p, 0, none⟩), .slice a n cp, .int .i64 x] w fun e w' => e = .returned (.int .i64 71) ∧ Up w w' := by
  obtain ⟨h1, O, h2, h3⟩ := h
  exact erase_not p O u T len c a n cp m x w h2 hm hv hx
theorem findX_calls {p : Nat} {w0 w : World} {u : Bool} {T : Tab} {len c : Nat} (h : Ix p w0 w u T len c) (a : Option Addr) (n cp : Nat) (m : List VT) (hm : GoodK m) (hv : Vals w a n m) :
    Calls Try.prog 16 #[.pointer (some ⟨p, 0, none⟩), .slice a n cp] w fun e w' => ∃ v', e = .returned v' ∧ OwnJ w' w.heap.size v' (T m) ∧ Up w w' := by
  obtain ⟨h1, O, h2, h3⟩ := h
  exact find_calls p O u T len c a n cp m w h2 hm hv

theorem good_one {v : VT} (h : Fits v) (hs : v.2.2.1.size ≤ 200) : GoodK [v] := ⟨by simp, fun i => by
  cases i with
  | zero => exact hs
  | succ i => simp [zeroT], fun i => by
  cases i with
  | zero => exact h
  | succ i => simpa using fits_zero⟩
theorem good_int {n : Int} (h1 : -9223372036854775808 ≤ n) (h2 : n ≤ 9223372036854775807) : GoodK [intT n] := good_one (fits_int ⟨by simpa [IntKind.min, IntKind.bits, IntKind.signed] using h1, by simpa [IntKind.max, IntKind.bits, IntKind.signed] using h2⟩) (by simp [intT, ByteArray.size])

set_option maxHeartbeats 4000000 in
theorem num_calls (n : Int) (w : World) (h1 : -9223372036854775808 ≤ n) (h2 : n ≤ 9223372036854775807) :
    Calls Try.prog 22 #[.int .i64 n] w fun e w' => ∃ a, e = .returned (.slice a 1 1) ∧ Vals w' a 1 [intT n] ∧ Up w w' := by
  have HF := hide (good_int h1 h2).2.2
  clear h1 h2
  go_enter Try.func22, Try.ntmps22
  go_wp2
  go_ret
  refine ⟨_, rfl, ⟨rfl, HF.out, .inr ⟨w.heap.size, 0, rfl, fun i hi => ?_⟩⟩, (Up.refl _).alloc _⟩
  obtain rfl : i = 0 := by omega
  exact ⟨by go_simp; rfl, by go_simp; rfl, by go_simp; rfl, by go_simp; rfl⟩

set_option maxHeartbeats 8000000 in
theorem known_calls (w : World) : Calls Try.prog 7 #[] w fun e w' => e = .returned (.bool true) ∧ Up w w' := by
  have g5 : GoodK [intT 5] := good_int (by decide) (by decide)
  have G5 := hide g5
  clear g5
  go_enter Try.func7, Try.ntmps7
  go_wp2_with fail
  go_at_call 8
  refine (newX_calls true w _ (Up.refl w)).mono ?_
  rintro _ w1 ⟨p, rfl, hi1⟩
  have I1 := hide hi1
  clear hi1
  go_wp2_with fail
  go_at_call 22
  refine (num_calls 5 _ (by decide) (by decide)).mono ?_
  rintro _ w2 ⟨a2, rfl, hv2, hu2⟩
  have I2 := hide (I1.out.up hu2)
  have V2 := hide hv2
  clear hv2 hu2 I1
  go_wp2_with fail
  go_at_call 11
  refine (insX_new I2.out a2 1 1 [intT 5] 1 G5.out V2.out rfl (by omega) (by omega)).mono ?_
  rintro _ w3 ⟨rfl, hi3⟩
  obtain ⟨T3, hT3⟩ : ∃ T3, T3 = setT (fun _ => []) [intT 5] [1] := ⟨_, rfl⟩
  rw [← hT3] at hi3
  have t3 : Hid (T3 [intT 5] = [1]) := by show _ = _; rw [hT3]; exact setT_same _ _ _
  have I3 := hide hi3
  clear hi3 I2 V2 hT3
  go_wp2_with fail
  go_at_call 22
  refine (num_calls 5 _ (by decide) (by decide)).mono ?_
  rintro _ w4 ⟨a4, rfl, hv4, hu4⟩
  have I4 := hide (I3.out.up hu4)
  have V4 := hide hv4
  clear hv4 hu4 I3
  go_wp2_with fail
  go_at_call 11
  refine (insX_not I4.out a4 1 1 [intT 5] 2 G5.out V4.out (.inr (by rw [t3.out]; decide))).mono ?_
  rintro _ w5 ⟨rfl, hu5⟩
  rw [if_neg (by rw [t3.out]; decide)]
  have I5 := hide (I4.out.up hu5)
  clear hu5 I4 V4
  go_wp2_with fail
  go_at_call 22
  refine (num_calls 5 _ (by decide) (by decide)).mono ?_
  rintro _ w6 ⟨a6, rfl, hv6, hu6⟩
  have I6 := hide (I5.out.up hu6)
  have V6 := hide hv6
  clear hv6 hu6 I5
  go_wp2_with fail
  go_at_call 11
  refine (insX_not I6.out a6 1 1 [intT 5] 1 G5.out V6.out (.inl (by rw [t3.out]; decide))).mono ?_
  rintro _ w7 ⟨rfl, hu7⟩
  rw [if_pos (by rw [t3.out]; decide)]
  have I7 := hide (I6.out.up hu7)
  clear hu7 I6 V6
  go_wp2_with fail
  go_at_call 22
  refine (num_calls 5 _ (by decide) (by decide)).mono ?_
  rintro _ w8 ⟨a8, rfl, hv8, hu8⟩
  have I8 := hide (I7.out.up hu8)
  have V8 := hide hv8
  clear hv8 hu8 I7
  go_wp2_with fail
  go_at_call 14
  refine (eraX_not I8.out a8 1 1 [intT 5] 2 G5.out V8.out (by rw [t3.out]; decide)).mono ?_
  rintro _ w9 ⟨rfl, hu9⟩
  have I9 := hide (I8.out.up hu9)
  clear hu9 I8 V8
  go_wp2_with fail
  go_at_call 22
  refine (num_calls 5 _ (by decide) (by decide)).mono ?_
  rintro _ w10 ⟨a10, rfl, hv10, hu10⟩
  have I10 := hide (I9.out.up hu10)
  have V10 := hide hv10
  clear hv10 hu10 I9
  go_wp2_with fail
  go_at_call 16
  refine (findX_calls I10.out a10 1 1 [intT 5] G5.out V10.out).mono ?_
  rintro _ w11 ⟨v11, rfl, ho11, hu11⟩
  rw [t3.out] at ho11
  have U11 := hide (I10.out.1.trans hu11)
  have O11 := hide ho11
  clear hu11 I10 V10 ho11
  go_wp2_with fail
  go_at_call 15
  refine (ids_calls _ _ [1] [1] _ (OwnJ.rd (OwnG.alloc O11.out _)) ⟨_, 1, rfl, by simp, by unfold maxLen; omega, .inr ⟨_, 0, rfl, fun i hi => ?_⟩⟩ (by simp)).mono ?_
  · obtain rfl : i = 0 := by simpa using hi
    go_simp
  · rintro _ w12 ⟨rfl, hu12⟩
    have U12 := hide ((U11.out.alloc _).trans hu12)
    rw [show decide (([1] : List Int) = [1]) = true from rfl]
    clear hu12
    go_wp2
    go_ret
    exact ⟨rfl, U12.out⟩

end Go.Proofs.Ytofpakpbbpcalaa
