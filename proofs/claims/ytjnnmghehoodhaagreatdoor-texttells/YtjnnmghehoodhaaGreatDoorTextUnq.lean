/-
  What strconv.UnquoteChar answers behind a quote, as the library's text runs: of what Print tells just what it should, of all else that it returns.
-/
import Derived.Test.YtjnnmghehoodhaaGreatDoorTabs
import Derived.Test.YtjnnmghehoodhaaGreatDoorTextOrd
import Derived.Test.YtjnnmghehoodhaaGreatDoorBytes
import Derived.Lib.QuoteLoop
import Derived.Lib.RuneCount
import Derived.Laws.RangeAny
import Derived.Lib.Hide
import Derived.Deep.RegionHeld3
import Derived.BigQuiet
namespace Go.Proofs.YtjnnmghehoodhaaGreatDoor
open Go.ChangeShapes Go.WideShapes Go.ChangeAt Go.RowKit
attribute [local go_sem ↓] Go.wp_at_zero Go.wp_at_succ
set_option linter.unusedVariables false
set_option maxRecDepth 100000

/-- An error's value. -/
def ErrV (e : Value) : Prop := e = .nilIface ∨ ∃ te pe, e = .iface te pe
/-- What UnquoteChar is asked for, at least. -/
def UcPost (t : ByteArray) (w : World) (e : Ending) (w' : World) : Prop :=
  Up w w' ∧ ∃ (r : Int) (mb : Bool) (tail : ByteArray) (err : Value), e = .returned (.tuple #[.int .i32 r, .bool mb, .string tail, err]) ∧ (mb = true → 0 ≤ r ∧ r ≤ 2147483647)
    ∧ ((err = .nilIface ∧ tail.size < t.size) ∨ ∃ te pe, err = .iface te pe)

theorem results_tmp4 {fn : Func} {t u v x : Tmp} (h : fn.results = #[.tmp t, .tmp u, .tmp v, .tmp x]) (tmps : Array Value) (P : Program) (w : World) :
    (results fn tmps).run P w = .ok (.tuple #[tmps.getD t undef, tmps.getD u undef, tmps.getD v undef, tmps.getD x undef]) w := by
  simp [results, h]
theorem u_ne {c : UInt8} {n : Nat} (hn : n < 256) (h : ¬ c = UInt8.ofNat n) : ((c.toNat : Int) == (n : Int)) = false := by
  refine beq_eq_false_iff_ne.2 fun e => h ?_
  have : c.toNat = n := by omega
  rw [← this, UInt8.ofNat_toNat]
theorem wrap32 (c : UInt8) : IntKind.i32.wrap (c.toNat : Int) = (c.toNat : Int) := by
  have := c.toNat_lt
  simp [IntKind.wrap, IntKind.signed, IntKind.bits]
  omega
theorem hexD_nat : ∀ n, n < 16 → (hexD n).toNat = if n < 10 then 48 + n else 87 + n := by decide
theorem ext_size (t : ByteArray) (j : Nat) : (t.extract j t.size).size = t.size - j := by
  simp [ByteArray.size_extract]

set_option maxHeartbeats 4000000 in
theorem uc_plain (t : ByteArray) (h : 0 < t.size) (hm : t.size ≤ 1000000) (h1 : t[0].toNat < 128) (h2 : t[0] ≠ 34) (h3 : t[0] ≠ 92) (w : World) :
    Calls Tryz.prog 84 #[.string t, .int .u8 34] w fun e w' => e = .returned (.tuple #[.int .i32 (t[0].toNat : Int), .bool false, .string (t.extract 1 t.size), .nilIface]) ∧ Up w w' := by
  obtain ⟨c, hc⟩ : ∃ c, t[0] = c := ⟨_, rfl⟩
  rw [hc] at h1 h2 h3 ⊢
  have p0 : ((t.size : Int) == 0) = false := by rw [beq_eq_false_iff_ne]; omega
  have p1 : ((c.toNat : Int) == 34) = false := u_ne (n := 34) (by omega) h2
  have p2 : ((c.toNat : Int) == 92) = false := u_ne (n := 92) (by omega) h3
  have p3 : (c.toNat : Int) < 128 := by omega
  have hwr := wrap32 c
  have q1 : (1 : Int) ≤ (t.size : Int) := by omega
  clear h2 h3 h1
  go_enter Tryz.func84, Tryz.ntmps84
  go_wp2_with fail
  go_region_held3 (fun w' => Up w w') (first | exact (Up.refl _).drew | exact Up.drew (by assumption) | assumption) (fail)
  all_goals (have HU := hide (show Up w _ by assumption))
  all_goals go_wp2
  all_goals refine bodyPost_ret (results_tmp4 Tryz.results84 _ _ _) rfl ?_
  all_goals exact ⟨rfl, HU.out⟩

/-- A sign behind a backslash that stands for itself. -/
theorem uc_sign (t : ByteArray) (h : 1 < t.size) (hm : t.size ≤ 1000000) (h1 : t[0] = 92) (h2 : t[1] = 34 ∨ t[1] = 92) (w : World) :
    Calls Tryz.prog 84 #[.string t, .int .u8 34] w fun e w' => e = .returned (.tuple #[.int .i32 (t[1].toNat : Int), .bool false, .string (t.extract 2 t.size), .nilIface]) ∧ Up w w' := by
  have p0 : ((t.size : Int) == 0) = false := by rw [beq_eq_false_iff_ne]; omega
  have q1 : (1 : Int) < (t.size : Int) := by omega
  have q2 : (2 : Int) ≤ (t.size : Int) := by omega
  rcases h2 with h2 | h2
  all_goals
    rw [h2]
    go_enter Tryz.func84, Tryz.ntmps84
    go_wp2
    refine bodyPost_ret (results_tmp4 Tryz.results84 _ _ _) rfl ?_
    exact ⟨rfl, Up.refl _⟩

def UhPost (c : UInt8) (w : World) (e : Ending) (w' : World) : Prop := ∃ (x : Int) (b : Bool), e = .returned (.tuple #[.int .i32 x, .bool b]) ∧ w' = w ∧ (∀ n, n < 16 → c = hexD n → b = true ∧ x = (n : Int)) ∧ 0 ≤ x ∧ x < 16

set_option maxHeartbeats 4000000 in
theorem unhex_calls (c : UInt8) (w : World) : Calls Tryz.prog 97 #[.int .u8 (c.toNat : Int)] w fun e w' => UhPost c w e w' := by
  have hwr := wrap32 c
  have hc := c.toNat_lt
  go_enter Tryz.func97, Tryz.ntmps97
  go_wp2
  all_goals go_ret2
  all_goals refine ⟨_, _, rfl, rfl, ?_, ?_, ?_⟩
  all_goals first
    | (intro n hn he; have := hexD_nat n hn; rw [← he] at this; split at this <;> first | (exfalso; omega) | (refine ⟨rfl, ?_⟩; omega))
    | omega
    | skip
  all_goals trace_state

end Go.Proofs.YtjnnmghehoodhaaGreatDoor
