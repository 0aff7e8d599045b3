/-
  For every integer and every byte the law TextInts returns true: an integer is read from its digits, and from these alone; no condition.
-/
import Derived.Test.YtjnnmghehoodhaaDoorCards
import Derived.Test.YtjnnmghehoodhaaDoorTie
import Derived.Test.YtjnnmghehoodhaaDoorTextLaid
import Derived.WalkKit
import Derived.ProofKit
import Derived.OpenShut
import Derived.ShutString
import Derived.ChangeOld
import Derived.Below
import Derived.Carry
import Derived.Deep.DeepHandedRow
import Derived.Deep.DeepWitnessRowRef
import Derived.SevenTiedAt
import Derived.Test.YtjnnmghehoodhaaDoorTextKnow
namespace Go.Proofs.YtjnnmghehoodhaaDoor
open Go.ChangeShapes Go.WideShapes Go.ChangeAt Go.RowKit
open Go.ChangeMaps (open_string shut_string)
set_option linter.unusedVariables false
attribute [local go_sem ↓] Go.wp_at_zero Go.wp_at_succ
attribute [local go_sem] run_store_float

theorem int_fits {n : Int} (h : IntKind.i64.min ≤ n ∧ n ≤ IntKind.i64.max) : Fits (1, n, ⟨#[]⟩, 0) :=
  ⟨(by decide : IntKind.i64.min ≤ 1), (by decide : (1 : Int) ≤ IntKind.i64.max), h.1, h.2, Nat.zero_le _, (by decide : 0 < whole)⟩
theorem decI_len {n : Int} (h : IntKind.i64.min ≤ n ∧ n ≤ IntKind.i64.max) : (decI n).length ≤ 21 := by
  have h1 := natAbs_lt h
  have h2 := decN_len 19 n.natAbs (by omega)
  unfold decI
  split
  · rw [List.length_cons]; omega
  · omega
/-- Parse of what is none. -/
theorem parse_none {s : ByteArray} (hs : s.size ≤ 1000000) (h : parT s.data.toList = none) (w : World) (hT : Tabs w) : Calls Tryd.prog 9 #[.string s] w fun e w' => e = .returned (.tuple #[.agg #[.int .i64 0, .int .i64 0, .string ⟨#[]⟩, .float .f64 0], .int .i64 30]) ∧ Up w w' := by
  refine (tparse_calls s hs w hT).mono ?_
  rintro e w' ⟨hu, ⟨v, hv, rfl⟩ | ⟨_, rfl⟩⟩
  · rw [h] at hv; cases hv
  · exact ⟨rfl, hu⟩
theorem parse_minus (w : World) (hT : Tabs w) : Calls Tryd.prog 9 #[.string ⟨#[45, 48]⟩] w fun e w' => e = .returned (.tuple #[.agg #[.int .i64 0, .int .i64 0, .string ⟨#[]⟩, .float .f64 0], .int .i64 30]) ∧ Up w w' :=
  parse_none (s := ⟨#[45, 48]⟩) (by decide) par_minus w hT

theorem same_nought (w : World) : (Op.equalIn 9999 25 (.float .f64 0) (.float .f64 0)).run Tryd.prog w = .ok true w := by
  have e : Op.floatEq .f64 0 0 = true := by decide +kernel
  unfold Op.equalIn
  simp [run_underlying Tryd.underlying25, e]

/-- Each of the five spoilt texts is none. -/
theorem bad_at (S : ByteArray) (n : Int) (hl : S.data.toList = decI n) (hz : S.size ≤ 21) (i : Nat) (h : i < 5) :
    ∃ T : ByteArray, ([Value.string (⟨#[48]⟩ ++ S), Value.string (⟨#[43]⟩ ++ S), Value.string (⟨#[32]⟩ ++ S), Value.string (S ++ ⟨#[32]⟩), Value.string (S ++ ⟨#[46]⟩)][i]'h) = .string T ∧ T.size ≤ 1000000 ∧ parT T.data.toList = none := by
  have z1 : ∀ c : UInt8, (⟨#[c]⟩ ++ S : ByteArray).size ≤ 1000000 := fun c => by rw [ByteArray.size_append]; show 1 + S.size ≤ _; omega
  have z2 : ∀ c : UInt8, (S ++ ⟨#[c]⟩ : ByteArray).size ≤ 1000000 := fun c => by rw [ByteArray.size_append]; show S.size + 1 ≤ _; omega
  have l1 : ∀ c : UInt8, (⟨#[c]⟩ ++ S : ByteArray).data.toList = c :: decI n := fun c => by rw [ByteArray.data_append, Array.toList_append, hl]; rfl
  have l2 : ∀ c : UInt8, (S ++ ⟨#[c]⟩ : ByteArray).data.toList = decI n ++ [c] := fun c => by rw [ByteArray.data_append, Array.toList_append, hl]
  match i, h with
  | 0, _ => exact ⟨_, rfl, z1 48, by rw [l1]; exact par_nought n⟩
  | 1, _ => exact ⟨_, rfl, z1 43, by rw [l1]; exact par_sign (.inl rfl) _⟩
  | 2, _ => exact ⟨_, rfl, z1 32, by rw [l1]; exact par_sign (.inr rfl) _⟩
  | 3, _ => exact ⟨_, rfl, z2 32, by rw [l2]; exact par_behind n (.inl rfl)⟩
  | 4, _ => exact ⟨_, rfl, z2 46, by rw [l2]; exact par_behind n (.inr rfl)⟩


theorem textInts_own : ownKnob Tryd.prog.godebug = none := by kernel_rfl
theorem textInts_laidOut : laidOutB Tryd.prog = true := by kernel_rfl

set_option maxHeartbeats 4000000 in
theorem textInts_walk (a0 : Int) (a1 : Int) (w : World) (w0 : (Lit.int .i64 a0).wf = true) (w1 : (Lit.int .u8 a1).wf = true) (hT : Tabs w) :
    Calls Tryd.prog 4 #[.int .i64 a0, .int .u8 a1] w fun e w' => e = .returned (.bool true) ∧ Up w w' := by
  have HT := hide hT
  clear hT
  have h1 : (0 : Int) ≤ a1 ∧ a1 ≤ 255 := by simpa [Lit.wf, IntKind.min, IntKind.max, IntKind.signed, IntKind.bits] using w1
  have ht0 : (0 : Int) ≤ a1.tmod 5 := Int.tmod_nonneg _ h1.1
  have ht5 : a1.tmod 5 < 5 := Int.tmod_lt_of_pos _ (by decide)
  clear h1
  have hn : IntKind.i64.min ≤ a0 ∧ a0 ≤ IntKind.i64.max := by simpa [Lit.wf] using w0
  have hdl := decI_len hn
  obtain ⟨S, hS⟩ : ∃ S : ByteArray, S = ⟨(decI a0).toArray⟩ := ⟨_, rfl⟩
  have hSl : S.data.toList = decI a0 := by rw [hS]
  have hSz : S.size ≤ 21 := by rw [hS, str_size]; exact hdl
  have hD := fun W => rdigits_calls a0 hn W
  rw [← hS] at hD
  have Q1 := fun W (h : Tabs W) => tparse_calls S (by omega) W h
  unfold ParsePost at Q1
  rw [hSl, par_int a0 hn] at Q1
  have hP := fun W (h : Tabs W) => tprint_calls 1 a0 ⟨#[]⟩ 0 W (int_fits hn) h
  rw [prn_int, ← hS] at hP
  have hself : (S.toList == S.toList) = true := by simp
  have hselfi : (a0 == a0) = true := by simp
  have HSL := hide hSl
  clear w0 hdl hn hS hSl
  go_enter Tryd.func4, Tryd.ntmps4
  go_wp2_with fail
  go_at_call 7
  refine (known4_calls _ HT.out).mono ?_
  rintro _ w2 ⟨rfl, hu⟩
  replace hu := hide hu
  go_wp2_with fail
  go_at_call 16
  refine (hD _).mono ?_
  rintro _ w3 ⟨rfl, hu3⟩
  replace hu := hide (hu.out.trans hu3)
  clear hu3 hD
  go_wp2_with fail
  go_at_call 9
  refine (Q1 _ (HT.out.up hu.out)).mono ?_
  rintro _ w4 ⟨hu4, ⟨v, hv, rfl⟩ | ⟨hv, _⟩⟩
  case inr => cases hv
  obtain rfl := Option.some.inj hv
  have HM := hide (heap_alloc_new w4 (.cells #[.int .i64 1, .int .i64 a0, .string ⟨#[]⟩, .float .f64 0] 27 (0, 0)))
  replace hu := hide ((hu.out.trans hu4).alloc (.cells #[.int .i64 1, .int .i64 a0, .string ⟨#[]⟩, .float .f64 0] 27))
  have hsn := same_nought
  clear hu4 Q1 hv
  simp only
  go_wp2_with fail
  go_at_call 10
  refine (hP _ (HT.out.up hu.out)).mono ?_
  rintro _ w5 ⟨rfl, hu5⟩
  replace hu := hide (hu.out.trans hu5)
  clear hu5 hP HM hsn
  have HB := hide (bad_at S a0 HSL.out hSz)
  go_wp2_with fail
  obtain ⟨T, hT, hTz, hTn⟩ := HB.out (a1.tmod 5).toNat (by omega)
  rw [hT]
  go_at_call 9
  refine (parse_none hTz hTn _ (HT.out.up (hu.out.alloc _))).mono ?_
  rintro _ w6 ⟨rfl, hu6⟩
  have HU := hide ((hu.out.alloc _).trans hu6)
  clear hu6 HB hT hTz hTn hu
  go_wp2_with fail
  go_at_call 9
  refine (parse_minus _ (HT.out.up HU.out)).mono ?_
  rintro _ w7 ⟨rfl, hu7⟩
  replace HU := hide (HU.out.trans hu7)
  clear hu7
  go_wp2
  go_ret
  exact ⟨rfl, HU.out.alloc _⟩

theorem textInts_reads (os : Os) (H : Type) (enc : TypeId × Value → H) : ∃ ds places, DataW.whole enc Tryd.prog ((laidPut (World.settled Tryd.prog os).heap.size (World.holding Tryd.prog os laidTwo)).forCall (fun _ _ => 0) ⟨#[], #[.int .i64 0, .int .u8 0], []⟩).memory Tryd.f4.params.toList Rows.textIntsSpec.vars false (#[.int .i64 0, .int .u8 0] : Array Value).toList 8 = some (ds, [], places) :=
  ⟨[.lit (.int .i64 0), .lit (.int .u8 0)], [], by kernel_rfl⟩

set_option maxRecDepth 100000 in
theorem textInts_lifted (os : Os) (started : os.Started) (H : Type) (enc : TypeId × Value → H) (I : Stop.Interp) :
    ReturnsInHanded {} Tryd.checked os 4 .any ((OpenSpec.ofChange Rows.textIntsSpec).preRow enc Tryd.prog Tryd.f4 Rows.textIntsRow.domain false Rows.textIntsRow.laid) (((OpenSpec.ofChange Rows.textIntsSpec).at I).post enc Tryd.prog Tryd.f4 false true false false) := by
  obtain ⟨ds, places, hx⟩ := textInts_reads os H enc
  refine returnsInHanded_of_row (C := Tryd.checked) (s := OpenSpec.ofChange Rows.textIntsSpec) textInts_own started (by kernel_rfl) Tryd.func4
    (witness_row_atRef (enc := enc) (C := Tryd.checked) false (laidPut (World.settled Tryd.prog os).heap.size (World.holding Tryd.prog os laidTwo)) #[.int .i64 0, .int .u8 0] rfl (by kernel_rfl) (by kernel_rfl) (by kernel_rfl)
      (OpenSpec.preRow_of_cond 8 hx (by kernel_rfl) (fun k hk => by cases hk) (by kernel_rfl) (laid_met os _))) ?_
  clear hx
  intro W base args ds gs before hval0 hW _ _ _ hL hS _
  have hT : Tabs W := tabs_of_laid hL hS
  have hval : ∀ (j : Nat) t v, Tryd.f4.params[j]? = some t → args[j]? = some v → Value.okWide Tryd.prog W .any base t v := hval0
  have hW' := hW
  obtain ⟨p, q, hA0, hV, rfl, hfz, hnd⟩ := hW
  have hA : DataW.TrodAll enc Tryd.prog W 0 (fun _ => true) true Tryd.f4.params.toList args.toList ds p := hA0
  rw [Tryd.params4] at hA hval
  obtain ⟨v0, vs0, d0, ds0, p0, q0, hargs, rfl, rfl, h0, r0⟩ := trodAll_cons hA
  obtain ⟨v1, vs1, d1, ds1, p1, q1, rfl, rfl, rfl, h1, r1⟩ := trodAll_cons r0
  obtain ⟨rfl, rfl, rfl⟩ := trodAll_nil r1
  obtain rfl : args = #[v0, v1] := by cases args; simp_all
  obtain ⟨rfl, rfl⟩ := trodVars_none hV
  have y0 := h0
  have lt0 : ∀ x ∈ p0, x.block < W.heap.size := by obtain ⟨m, hm⟩ := y0; exact DataW.trod_lt m _ _ _ hm
  have y1 := h1
  have lt1 : ∀ x ∈ p1, x.block < W.heap.size := by obtain ⟨m, hm⟩ := y1; exact DataW.trod_lt m _ _ _ hm
  obtain ⟨a0, rfl, _, _, w0⟩ := open_int Tryd.underlying2 (hval 0 2 v0 rfl rfl) h0
  obtain ⟨a1, rfl, _, _, w1⟩ := open_int Tryd.underlying5 (hval 1 5 v1 rfl rfl) h1
  clear hA0 hval0
  refine (textInts_walk a0 a1 W w0 w1 hT).mono fun e W' ⟨he, bel⟩ => ?_
  subst he
  exact ⟨_, rfl, _, _, _, [], _, [], hW', trodAll_mk1 (shut_bool Tryd.underlying4 _), (trodAll_cons_mk (Below.trod textInts_laidOut (by kernel_rfl) (of_decide_eq_true (by kernel_rfl)) y0 bel.below lt0) (trodAll_cons_mk (Below.trod textInts_laidOut (by kernel_rfl) (of_decide_eq_true (by kernel_rfl)) y1 bel.below lt1) trodAll_mk0)), rfl, bel.below.frame _, fun h => by cases h⟩

theorem textInts_said : Rows.TextIntsSaid :=
  OpenClaim.holds_of_cond 4 Tryd.f4 rfl rfl rfl rfl rfl rfl rfl ⟨rfl, rfl, rfl, rfl, rfl⟩ rfl rfl rfl rfl rfl (by kernel_rfl) Tryd.func4 (by kernel_rfl)
    (of_decide_eq_true (by kernel_rfl)) (by unfold Func.isWrapper; first | (rw [if_pos (by decide +kernel)]; kernel_rfl) | (rw [if_neg (by decide +kernel)]; exact ⟨rfl, rfl⟩))
    (fun os started H enc _ I => by rw [OpenClaim.pre_eq_preRow]; exact textInts_lifted os started H enc I)

theorem textInts_plain (f : FuncId) (fn : Func) (hf : Tryd.pinned.checked.prog.funcNamed "rialto/rialtolaw4.TextInts" = some f) (hfn : Tryd.pinned.checked.prog.funcs[f]? = some fn) :
    true = Tryd.pinned.checked.prog.looks [] ∧ ∀ (j : Nat) t, fn.params[j]? = some t → Tryd.pinned.checked.prog.wantsStandIn t = false := by
  obtain rfl : f = 4 := Option.some.inj ((show Tryd.prog.funcNamed "rialto/rialtolaw4.TextInts" = some 4 by kernel_rfl).symm.trans hf) |>.symm
  obtain rfl : fn = Tryd.f4 := (Option.some.inj (Tryd.func4.symm.trans hfn)).symm
  refine ⟨by kernel_rfl, fun j t ht => ?_⟩
  rw [Tryd.params4] at ht
  have hm := Array.mem_of_getElem? ht
  simp only [List.mem_toArray, List.mem_cons, List.not_mem_nil, or_false] at hm
  rcases hm with rfl | rfl
  · exact (show Tryd.prog.wantsStandIn 2 = false by kernel_rfl)
  · exact (show Tryd.prog.wantsStandIn 5 = false by kernel_rfl)

theorem textInts_proved : Rows.TextIntsCardSaid :=
  Claim7.holds_tied_plain_at .later [] _ _ _ _ textInts_said (fun _ h => by cases h) (by kernel_rfl) (fun _ h => by cases h) textInts_row_tie rfl ⟨rfl, rfl⟩ (by kernel_rfl) rfl textInts_plain (by kernel_rfl)
#print axioms textInts_proved
end Go.Proofs.YtjnnmghehoodhaaDoor
