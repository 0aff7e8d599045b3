/-
  What the document's own Def (package rialtoref5) answers of every shape and definition, as its text runs.
-/
import Derived.Test.YteigjboelhcaiaaRefSchC
import Derived.Test.YteigjboelhcaiaaSchFns
namespace Go.Proofs.Yteigjboelhcaiaa
open Go.ChangeShapes Go.WideShapes Go.ChangeAt Go.RowKit
attribute [local go_sem ↓] Go.wp_at_zero Go.wp_at_succ

theorem rdef_schema (a : Option Addr) (n c : Nat) (l : List FT) (s : ByteArray) (k : Int) (a1 : Option Addr) (n1 c1 : Nat) (P : List PT) (m : Int) (a2 : Option Addr) (n2 c2 : Nat) (E : List Bool) (a3 : Option Addr) (n3 c3 : Nat) (C : List Bool) (w : World)
    (hn : n ≤ maxLen) (hv : Flds w a n l) (hP : Prts w a1 n1 P) (hE : Blns w a2 n2 E) (hC : Blns w a3 n3 C) (hb : isF l = false) :
    Calls Try.prog 19 #[.slice a n c, .agg #[.string s, .int .i64 k, .slice a1 n1 c1, .int .i64 m], .slice a2 n2 c2, .slice a3 n3 c3] w fun e w' => e = .returned (.int .i64 (defN l s k P m E C)) ∧ Up w w' := by
  go_enter Try.func19, Try.ntmps19
  go_wp2_with fail
  have hua : Up w (w.alloc (.cells #[.string s, .int .i64 k, .slice a1 n1 c1, .int .i64 m] 26)) := (Up.refl _).alloc _
  go_at_call 14
  refine (rsis_calls _ _ _ l _ hn (hv.up hua)).mono ?_
  rintro _ w1 ⟨rfl, hu1⟩
  have d0 : w1.cell? ⟨w.heap.size, 0, none⟩ = some (.string s) := hu1.cell (by go_simp)
  have d1 : w1.cell? ⟨w.heap.size, 1, none⟩ = some (.int .i64 k) := hu1.cell (by go_simp)
  have d2 : w1.cell? ⟨w.heap.size, 2, none⟩ = some (.slice a1 n1 c1) := hu1.cell (by go_simp)
  have d3 : w1.cell? ⟨w.heap.size, 3, none⟩ = some (.int .i64 m) := hu1.cell (by go_simp)
  replace hu1 := hua.trans hu1
  clear hua
  have HL := hide (hv.up hu1)
  have HP := hide (hP.up hu1)
  have HE := hide (hE.up hu1)
  have HC := hide (hC.up hu1)
  have hlen := hide hP.1
  have hll := hide hv.1
  have hle := hide hE.1
  have hlc := hide hC.1
  have hu := hide hu1
  clear hv hP hE hC hu1
  have e := hide (defN_schema (s := s) (k := k) (P := P) (c := m) (E := E) (C := C) hb)
  go_wp2
  go_ret
  exact ⟨ret_int e.out, hu.out⟩

theorem rdef_name (a : Option Addr) (n c : Nat) (l : List FT) (s : ByteArray) (k : Int) (a1 : Option Addr) (n1 c1 : Nat) (P : List PT) (m : Int) (a2 : Option Addr) (n2 c2 : Nat) (E : List Bool) (a3 : Option Addr) (n3 c3 : Nat) (C : List Bool) (w : World)
    (hn : n ≤ maxLen) (hs : s.size ≤ maxLen) (hv : Flds w a n l) (hP : Prts w a1 n1 P) (hE : Blns w a2 n2 E) (hC : Blns w a3 n3 C) (hb : isF l = true) (g1 : nameB s = false) :
    Calls Try.prog 19 #[.slice a n c, .agg #[.string s, .int .i64 k, .slice a1 n1 c1, .int .i64 m], .slice a2 n2 c2, .slice a3 n3 c3] w fun e w' => e = .returned (.int .i64 (defN l s k P m E C)) ∧ Up w w' := by
  go_enter Try.func19, Try.ntmps19
  go_wp2_with fail
  have hua : Up w (w.alloc (.cells #[.string s, .int .i64 k, .slice a1 n1 c1, .int .i64 m] 26)) := (Up.refl _).alloc _
  go_at_call 14
  refine (rsis_calls _ _ _ l _ hn (hv.up hua)).mono ?_
  rintro _ w1 ⟨rfl, hu1⟩
  have d0 : w1.cell? ⟨w.heap.size, 0, none⟩ = some (.string s) := hu1.cell (by go_simp)
  have d1 : w1.cell? ⟨w.heap.size, 1, none⟩ = some (.int .i64 k) := hu1.cell (by go_simp)
  have d2 : w1.cell? ⟨w.heap.size, 2, none⟩ = some (.slice a1 n1 c1) := hu1.cell (by go_simp)
  have d3 : w1.cell? ⟨w.heap.size, 3, none⟩ = some (.int .i64 m) := hu1.cell (by go_simp)
  replace hu1 := hua.trans hu1
  clear hua
  have HL := hide (hv.up hu1)
  have HP := hide (hP.up hu1)
  have HE := hide (hE.up hu1)
  have HC := hide (hC.up hu1)
  have hlen := hide hP.1
  have hll := hide hv.1
  have hle := hide hE.1
  have hlc := hide hC.1
  have hu := hide hu1
  clear hv hP hE hC hu1
  have e := hide (defN_name (k := k) (P := P) (c := m) (E := E) (C := C) hb g1)
  go_wp2_with (go_at_call 25; refine (rname_calls _ (by with_reducible assumption) _).mono ?_; rintro _ w2 ⟨rfl, hw2⟩; obtain rfl : w1 = w2 := hw2.symm)
  go_ret
  exact ⟨ret_int e.out, hu.out⟩

set_option maxRecDepth 20000 in
set_option maxHeartbeats 4000000 in
theorem rdef_kind (a : Option Addr) (n c : Nat) (l : List FT) (s : ByteArray) (k : Int) (a1 : Option Addr) (n1 c1 : Nat) (P : List PT) (m : Int) (a2 : Option Addr) (n2 c2 : Nat) (E : List Bool) (a3 : Option Addr) (n3 c3 : Nat) (C : List Bool) (w : World)
    (hn : n ≤ maxLen) (hs : s.size ≤ maxLen) (hv : Flds w a n l) (hP : Prts w a1 n1 P) (hE : Blns w a2 n2 E) (hC : Blns w a3 n3 C) (hb : isF l = true) (g1 : nameB s = true) (e : defN l s k P m E C = 82) (B1 B2 B3 : Bool) (q1 : decide (k < 1) = B1) (q2 : decide (7 < k) = B2) (q3 : decide ((3 : Int) < n1) = B3) (hB : (B1 || B2 || B3) = true) :
    Calls Try.prog 19 #[.slice a n c, .agg #[.string s, .int .i64 k, .slice a1 n1 c1, .int .i64 m], .slice a2 n2 c2, .slice a3 n3 c3] w fun e w' => e = .returned (.int .i64 (defN l s k P m E C)) ∧ Up w w' := by
  go_enter Try.func19, Try.ntmps19
  go_wp2_with fail
  have hua : Up w (w.alloc (.cells #[.string s, .int .i64 k, .slice a1 n1 c1, .int .i64 m] 26)) := (Up.refl _).alloc _
  go_at_call 14
  refine (rsis_calls _ _ _ l _ hn (hv.up hua)).mono ?_
  rintro _ w1 ⟨rfl, hu1⟩
  have d0 : w1.cell? ⟨w.heap.size, 0, none⟩ = some (.string s) := hu1.cell (by go_simp)
  have d1 : w1.cell? ⟨w.heap.size, 1, none⟩ = some (.int .i64 k) := hu1.cell (by go_simp)
  have d2 : w1.cell? ⟨w.heap.size, 2, none⟩ = some (.slice a1 n1 c1) := hu1.cell (by go_simp)
  have d3 : w1.cell? ⟨w.heap.size, 3, none⟩ = some (.int .i64 m) := hu1.cell (by go_simp)
  replace hu1 := hua.trans hu1
  clear hua
  have HL := hide (hv.up hu1)
  have HP := hide (hP.up hu1)
  have HE := hide (hE.up hu1)
  have HC := hide (hC.up hu1)
  have hlen := hide hP.1
  have hll := hide hv.1
  have hle := hide hE.1
  have hlc := hide hC.1
  have hu := hide hu1
  clear hv hP hE hC hu1
  replace e := hide e
  cases B1 with
  | true =>
    go_wp2_with (go_at_call 25; refine (rname_calls _ (by with_reducible assumption) _).mono ?_; rintro _ w2 ⟨rfl, hw2⟩; obtain rfl : w1 = w2 := hw2.symm)
    go_ret
    exact ⟨ret_int e.out, hu.out⟩
  | false =>
    cases B2 with
    | true =>
      go_wp2_with (go_at_call 25; refine (rname_calls _ (by with_reducible assumption) _).mono ?_; rintro _ w2 ⟨rfl, hw2⟩; obtain rfl : w1 = w2 := hw2.symm)
      go_ret
      exact ⟨ret_int e.out, hu.out⟩
    | false =>
      obtain rfl : B3 = true := hB
      go_wp2_with (go_at_call 25; refine (rname_calls _ (by with_reducible assumption) _).mono ?_; rintro _ w2 ⟨rfl, hw2⟩; obtain rfl : w1 = w2 := hw2.symm)
      go_ret
      exact ⟨ret_int e.out, hu.out⟩

set_option maxRecDepth 20000 in
set_option maxHeartbeats 4000000 in
theorem rdef_many (a : Option Addr) (n c : Nat) (l : List FT) (s : ByteArray) (k : Int) (a1 : Option Addr) (n1 c1 : Nat) (P : List PT) (m : Int) (a2 : Option Addr) (n2 c2 : Nat) (E : List Bool) (a3 : Option Addr) (n3 c3 : Nat) (C : List Bool) (w : World)
    (hn : n ≤ maxLen) (hs : s.size ≤ maxLen) (hv : Flds w a n l) (hP : Prts w a1 n1 P) (hE : Blns w a2 n2 E) (hC : Blns w a3 n3 C) (hb : isF l = true) (g1 : nameB s = true) (e : defN l s k P m E C = 82) (B5 B6 B7 B0 B9 : Bool) (q1 : decide (k < 1) = false) (q2 : decide (7 < k) = false) (q3 : decide ((3 : Int) < n1) = false)
    (e5 : (k == 5) = B5) (e6 : (k == 6) = B6) (e7 : (k == 7) = B7) (b0 : ((n1 : Int) == 0) = B0) (b1 : ((n1 : Int) != 1) = B9) (hB : ((B5 || B6) != B0 || B7 && B9) = true) :
    Calls Try.prog 19 #[.slice a n c, .agg #[.string s, .int .i64 k, .slice a1 n1 c1, .int .i64 m], .slice a2 n2 c2, .slice a3 n3 c3] w fun e w' => e = .returned (.int .i64 (defN l s k P m E C)) ∧ Up w w' := by
  go_enter Try.func19, Try.ntmps19
  go_wp2_with fail
  have hua : Up w (w.alloc (.cells #[.string s, .int .i64 k, .slice a1 n1 c1, .int .i64 m] 26)) := (Up.refl _).alloc _
  go_at_call 14
  refine (rsis_calls _ _ _ l _ hn (hv.up hua)).mono ?_
  rintro _ w1 ⟨rfl, hu1⟩
  have d0 : w1.cell? ⟨w.heap.size, 0, none⟩ = some (.string s) := hu1.cell (by go_simp)
  have d1 : w1.cell? ⟨w.heap.size, 1, none⟩ = some (.int .i64 k) := hu1.cell (by go_simp)
  have d2 : w1.cell? ⟨w.heap.size, 2, none⟩ = some (.slice a1 n1 c1) := hu1.cell (by go_simp)
  have d3 : w1.cell? ⟨w.heap.size, 3, none⟩ = some (.int .i64 m) := hu1.cell (by go_simp)
  replace hu1 := hua.trans hu1
  clear hua
  have HL := hide (hv.up hu1)
  have HP := hide (hP.up hu1)
  have HE := hide (hE.up hu1)
  have HC := hide (hC.up hu1)
  have hlen := hide hP.1
  have hll := hide hv.1
  have hle := hide hE.1
  have hlc := hide hC.1
  have hu := hide hu1
  clear hv hP hE hC hu1
  replace e := hide e
  by_cases hx : (B5 || B6) = B0
  · obtain ⟨rfl, rfl⟩ : B7 = true ∧ B9 = true := by
      rw [hx] at hB
      simpa using hB
    subst hx
    clear hB
    cases B5 <;> cases B6 <;> (
      go_wp2_with (go_at_call 25; refine (rname_calls _ (by with_reducible assumption) _).mono ?_; rintro _ w2 ⟨rfl, hw2⟩; obtain rfl : w1 = w2 := hw2.symm)
      go_ret
      exact ⟨ret_int e.out, hu.out⟩)
  · clear hB
    cases B5 <;> cases B6 <;> cases B0 <;> first
      | exact absurd rfl hx
      | (go_wp2_with (go_at_call 25; refine (rname_calls _ (by with_reducible assumption) _).mono ?_; rintro _ w2 ⟨rfl, hw2⟩; obtain rfl : w1 = w2 := hw2.symm)
         go_ret
         exact ⟨ret_int e.out, hu.out⟩
         done)

end Go.Proofs.Yteigjboelhcaiaa
