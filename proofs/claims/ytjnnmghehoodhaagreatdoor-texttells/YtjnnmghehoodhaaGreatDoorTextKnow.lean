/-
  Package text whole: Print, Parse, Row, Read.
  What the statements' own example answers (known of rialtolaw4), as its text runs.
-/
import Derived.Test.YtjnnmghehoodhaaGreatDoorTextPrints
import Derived.Test.YtjnnmghehoodhaaGreatDoorTextGuess
import Derived.Test.YtjnnmghehoodhaaGreatDoorTextRow
import Derived.Test.YtjnnmghehoodhaaGreatDoorTextReads
namespace Go.Proofs.YtjnnmghehoodhaaGreatDoor
open Go.ChangeShapes Go.WideShapes Go.ChangeAt Go.RowKit
attribute [local go_sem ↓] Go.wp_at_zero Go.wp_at_succ
attribute [local go_sem] run_store_float

def one64 : Nat := 4607182418800017408
def oneS : ByteArray := ⟨#[102, 51, 102, 102, 48, 48, 48, 48, 48, 48, 48, 48, 48, 48, 48, 48, 48]⟩
def rowS : ByteArray := ⟨#[40, 49, 44, 32, 34, 97, 44, 32, 98, 34, 44, 32, 116, 114, 117, 101, 41]⟩
theorem one_order : FloatKind.f64.format.order one64 4607182418800017408 = some Ordering.eq := by decide +kernel
theorem one_fits : Fits (5, 0, ⟨#[]⟩, one64) :=
  ⟨(by decide : IntKind.i64.min ≤ 5), (by decide : (5 : Int) ≤ IntKind.i64.max), (by decide : IntKind.i64.min ≤ 0), (by decide : (0 : Int) ≤ IntKind.i64.max), Nat.zero_le _, (by decide : one64 < whole)⟩
theorem one_prn : prnV (5, 0, ⟨#[]⟩, one64) = oneS.data.toList := by decide +kernel
theorem one_par : parT oneS.data.toList = some (5, 0, ⟨#[]⟩, one64) := (parT_iff _ _).2 ⟨t_float _, one_fits, one_prn⟩
theorem five_par : parT [48, 53] = none := by
  have h := par_nought 5
  rw [decI, if_neg (by decide), decN_small (by decide)] at h
  exact h
def rowV : List VT := [(1, 1, ⟨#[]⟩, 0), (3, 0, ⟨#[97, 44, 32, 98]⟩, 0), (2, 1, ⟨#[]⟩, 0)]
theorem row_red : redT rowS.data.toList = some rowV := by
  refine (redT_iff _ _).2 ⟨?_, by decide +kernel⟩
  intro v hv
  simp only [rowV, List.mem_cons, List.not_mem_nil, or_false] at hv
  rcases hv with rfl | rfl | rfl
  · exact ⟨by decide +kernel, by refine ⟨by decide, by decide, by decide, by decide, by decide, by decide⟩⟩
  · exact ⟨by decide +kernel, by refine ⟨by decide, by decide, by decide, by decide, by decide, by decide⟩⟩
  · exact ⟨by decide +kernel, by refine ⟨by decide, by decide, by decide, by decide, by decide, by decide⟩⟩

theorem parse_one (w : World) (hT : Tabs w) : Calls Tryz.prog 10 #[.string ⟨#[102, 51, 102, 102, 48, 48, 48, 48, 48, 48, 48, 48, 48, 48, 48, 48, 48]⟩] w fun e w' => e = .returned (.tuple #[.agg #[.int .i64 5, .int .i64 0, .string ⟨#[]⟩, .float .f64 one64], .int .i64 0]) ∧ Up w w' := by
  refine (tparse_calls oneS (by decide) w hT).mono ?_
  rintro e w' ⟨hu, ⟨v, hv, rfl⟩ | ⟨hv, _⟩⟩
  · rw [one_par] at hv
    obtain rfl := Option.some.inj hv
    exact ⟨rfl, hu⟩
  · rw [one_par] at hv; cases hv
theorem parse_five (w : World) (hT : Tabs w) : Calls Tryz.prog 10 #[.string ⟨#[48, 53]⟩] w fun e w' => e = .returned (.tuple #[.agg #[.int .i64 0, .int .i64 0, .string ⟨#[]⟩, .float .f64 0], .int .i64 30]) ∧ Up w w' := by
  refine (tparse_calls ⟨#[48, 53]⟩ (by decide) w hT).mono ?_
  rintro e w' ⟨hu, ⟨v, hv, rfl⟩ | ⟨_, rfl⟩⟩
  · rw [show (⟨#[48, 53]⟩ : ByteArray).data.toList = [48, 53] from rfl, five_par] at hv; cases hv
  · exact ⟨rfl, hu⟩
theorem read_row (w : World) (hT : Tabs w) : Calls Tryz.prog 12 #[.string ⟨#[40, 49, 44, 32, 34, 97, 44, 32, 98, 34, 44, 32, 116, 114, 117, 101, 41]⟩] w fun e w' => ∃ a c, e = .returned (.tuple #[.slice a 3 c, .int .i64 0]) ∧ Up w w' := by
  refine (treads_calls rowS (by decide) w hT).mono ?_
  rintro e w' ⟨hu, ⟨m, v, hm, _, rfl, ho⟩ | ⟨hm, _⟩⟩
  · rw [row_red] at hm
    obtain rfl := Option.some.inj hm
    rcases ho.2 with ⟨_, h0⟩ | ⟨g, cap, cur, rfl, _⟩
    · cases h0
    · exact ⟨_, _, rfl, hu⟩
  · rw [row_red] at hm; cases hm
theorem print_one (w : World) (hT : Tabs w) : Calls Tryz.prog 6 #[.agg #[.int .i64 5, .int .i64 0, .string ⟨#[]⟩, .float .f64 one64]] w fun e w' => e = .returned (.string ⟨#[102, 51, 102, 102, 48, 48, 48, 48, 48, 48, 48, 48, 48, 48, 48, 48, 48]⟩) ∧ Up w w' := by
  refine (tprint_calls 5 0 ⟨#[]⟩ one64 w one_fits hT).mono ?_
  rintro e w' ⟨rfl, hu⟩
  exact ⟨by rw [one_prn]; rfl, hu⟩
theorem row_none (w : World) (hT : Tabs w) : Calls Tryz.prog 8 #[.slice none 0 0] w fun e w' => e = .returned (.string ⟨#[40, 41]⟩) ∧ Up w w' :=
  trow_calls none 0 0 [] w (by omega) ⟨rfl, fun i => by simpa using fits_zero, .inl rfl⟩ hT

set_option maxHeartbeats 4000000 in
theorem known4_calls (w : World) (hT : Tabs w) : Calls Tryz.prog 4 #[] w fun e w' => e = .returned (.bool true) ∧ Up w w' := by
  have HT := hide hT
  clear hT
  go_enter Tryz.func4, Tryz.ntmps4
  go_wp2_with fail
  go_at_call 10
  refine (parse_one _ HT.out).mono ?_
  rintro _ w1 ⟨rfl, hu1⟩
  have m1 : (w1.alloc (.cells #[.int .i64 5, .int .i64 0, .string ⟨#[]⟩, .float .f64 one64] 24)).heap[w1.heap.size]? = some (.cells #[.int .i64 5, .int .i64 0, .string ⟨#[]⟩, .float .f64 one64] 24 (0, 0)) := heap_alloc_new _ _
  have M1 := hide m1
  have HU := hide (hu1.alloc (.cells #[.int .i64 5, .int .i64 0, .string ⟨#[]⟩, .float .f64 one64] 24))
  clear m1 hu1
  go_wp2_with fail
  go_at_call 10
  refine (parse_five _ (HT.out.up HU.out)).mono ?_
  rintro _ w2 ⟨rfl, hu2⟩
  have M2 := hide (((Up.refl w2).alloc (.cells #[.int .i64 0, .int .i64 0, .string ⟨#[]⟩, .float .f64 0] 24)).heap (hu2.heap M1.out))
  replace HU := hide ((HU.out.trans hu2).alloc (.cells #[.int .i64 0, .int .i64 0, .string ⟨#[]⟩, .float .f64 0] 24))
  clear M1 hu2
  go_wp2_with fail
  go_at_call 12
  refine (read_row _ (HT.out.up HU.out)).mono ?_
  rintro _ w3 ⟨a, c, rfl, hu3⟩
  have M3 := hide (hu3.heap M2.out)
  replace HU := hide (HU.out.trans hu3)
  have c0 : w3.cell? ⟨w1.heap.size, 0, none⟩ = some (.int .i64 5) := t_cell M3.out rfl
  have c1 : w3.cell? ⟨w1.heap.size, 1, none⟩ = some (.int .i64 0) := t_cell M3.out rfl
  have c2 : w3.cell? ⟨w1.heap.size, 2, none⟩ = some (.string ⟨#[]⟩) := t_cell M3.out rfl
  have c3 : w3.cell? ⟨w1.heap.size, 3, none⟩ = some (.float .f64 one64) := t_cell M3.out rfl
  have hord := one_order
  clear M2 hu3
  go_wp2_with fail
  go_at_call 6
  refine (print_one _ (HT.out.up HU.out)).mono ?_
  rintro _ w4 ⟨rfl, hu4⟩
  replace HU := hide (HU.out.trans hu4)
  clear hu4 M3 c0 c1 c2 c3
  go_wp2_with fail
  go_at_call 8
  refine (row_none _ (HT.out.up HU.out)).mono ?_
  rintro _ w5 ⟨rfl, hu5⟩
  replace HU := hide (HU.out.trans hu5)
  clear hu5
  go_wp2
  go_ret
  exact ⟨rfl, HU.out⟩

end Go.Proofs.YtjnnmghehoodhaaGreatDoor
