/-
  What the library's and the program's comparisons of whole numbers, strings and values answer, for every argument, as their text runs: contracts, from the leaves up.
-/
import Derived.Test.YtofpakpbbpcalaaRefs
import Derived.Deep.RegionHeld3
import Derived.Deep.DrawnRows
import Derived.Lib.Bytealg
namespace Go.Proofs.Ytofpakpbbpcalaa
open Go.ChangeShapes Go.WideShapes Go.ChangeAt Go.RowKit
attribute [local go_sem ↓] Go.wp_at_zero Go.wp_at_succ

/-- How two whole numbers stand. -/
def cmpI (x y : Int) : Int := if x < y then -1 else if y < x then 1 else 0
/-- How two strings stand, byte by byte. -/
def cmpS (s t : ByteArray) : Int := Lib.compareBytes s.data.toList t.data.toList
/-- The first that isn't nought. -/
def orI (a b c d : Int) : Int := if a = 0 then if b = 0 then if c = 0 then d else c else b else a

theorem cmpInt_calls (x y : Int) (w : World) :
    Calls Try.prog 57 #[.int .i64 x, .int .i64 y] w fun e w' => e = .returned (.int .i64 (cmpI x y)) ∧ w' = w := by
  by_cases h1 : x < y
  · rw [show cmpI x y = -1 from if_pos h1]
    go_enter Try.func57, Try.ntmps57
    go_wp2
    go_ret
    exact ⟨rfl, rfl⟩
  · by_cases h2 : y < x
    · rw [show cmpI x y = 1 from by unfold cmpI; rw [if_neg h1, if_pos h2]]
      go_enter Try.func57, Try.ntmps57
      go_wp2
      go_ret
      exact ⟨rfl, rfl⟩
    · rw [show cmpI x y = 0 from by unfold cmpI; rw [if_neg h1, if_neg h2]]
      go_enter Try.func57, Try.ntmps57
      go_wp2
      go_ret
      exact ⟨rfl, rfl⟩

theorem cmpInt64_calls (x y : Int) (w : World) :
    Calls Try.prog 75 #[.int .i64 x, .int .i64 y] w fun e w' => e = .returned (.int .i64 (cmpI x y)) ∧ w' = w := by
  by_cases h1 : x < y
  · rw [show cmpI x y = -1 from if_pos h1]
    go_enter Try.func75, Try.ntmps75
    go_wp2
    go_ret
    exact ⟨rfl, rfl⟩
  · by_cases h2 : y < x
    · rw [show cmpI x y = 1 from by unfold cmpI; rw [if_neg h1, if_pos h2]]
      go_enter Try.func75, Try.ntmps75
      go_wp2
      go_ret
      exact ⟨rfl, rfl⟩
    · rw [show cmpI x y = 0 from by unfold cmpI; rw [if_neg h1, if_neg h2]]
      go_enter Try.func75, Try.ntmps75
      go_wp2
      go_ret
      exact ⟨rfl, rfl⟩

theorem run_cmpstring (s t : ByteArray) (w : World) : (callFunc 86 #[.string s, .string t]).run Try.prog w = .ok (.value (.int .i64 (cmpS s t))) w := by
  rw [run_callFunc_extern Try.func86 (by kernel_rfl) (by kernel_rfl) (by kernel_rfl) (e := Extern.BytealgCompare.compare) (by kernel_rfl), Lib.run_compareString]
  rfl

theorem cmpStr_calls (s t : ByteArray) (w : World) :
    Calls Try.prog 76 #[.string s, .string t] w fun e w' => e = .returned (.int .i64 (cmpS s t)) ∧ w' = w := by
  have hr := run_cmpstring
  go_enter Try.func76, Try.ntmps76
  go_wp2
  go_ret
  exact ⟨rfl, rfl⟩

theorem or_calls (b : Nat) (c0 c1 c2 c3 : Int) (w : World) (h0 : w.cell? ⟨b, 0, none⟩ = some (.int .i64 c0)) (h1 : w.cell? ⟨b, 1, none⟩ = some (.int .i64 c1))
    (h2 : w.cell? ⟨b, 2, none⟩ = some (.int .i64 c2)) (h3 : w.cell? ⟨b, 3, none⟩ = some (.int .i64 c3)) :
    Calls Try.prog 74 #[.slice (some ⟨b, 0, none⟩) 4 4] w fun e w' => e = .returned (.int .i64 (orI c0 c1 c2 c3)) ∧ w' = w := by
  by_cases z0 : c0 = 0
  · subst z0
    by_cases z1 : c1 = 0
    · subst z1
      by_cases z2 : c2 = 0
      · subst z2
        by_cases z3 : c3 = 0
        · subst z3
          rw [show orI 0 0 0 0 = 0 from rfl]
          go_enter Try.func74, Try.ntmps74
          go_wp2
          refine wp_loop_rounds 5 ?_
          repeat (rw [rounds_succ]; go_wp2)
          go_ret
          exact ⟨rfl, rfl⟩
        · have t : (c3 != 0) = true := by simpa using z3
          rw [show orI 0 0 0 c3 = c3 from rfl]
          go_enter Try.func74, Try.ntmps74
          go_wp2
          refine wp_loop_rounds 5 ?_
          repeat (rw [rounds_succ]; go_wp2)
          go_ret
          exact ⟨rfl, rfl⟩
      · have t : (c2 != 0) = true := by simpa using z2
        rw [show orI 0 0 c2 c3 = c2 from if_neg z2]
        go_enter Try.func74, Try.ntmps74
        go_wp2
        refine wp_loop_rounds 5 ?_
        repeat (rw [rounds_succ]; go_wp2)
        go_ret
        exact ⟨rfl, rfl⟩
    · have t : (c1 != 0) = true := by simpa using z1
      rw [show orI 0 c1 c2 c3 = c1 from if_neg z1]
      go_enter Try.func74, Try.ntmps74
      go_wp2
      refine wp_loop_rounds 5 ?_
      repeat (rw [rounds_succ]; go_wp2)
      go_ret
      exact ⟨rfl, rfl⟩
  · have t : (c0 != 0) = true := by simpa using z0
    rw [show orI c0 c1 c2 c3 = c0 from if_neg z0]
    go_enter Try.func74, Try.ntmps74
    go_wp2
    refine wp_loop_rounds 5 ?_
    repeat (rw [rounds_succ]; go_wp2)
    go_ret
    exact ⟨rfl, rfl⟩

end Go.Proofs.Ytofpakpbbpcalaa
