/-
  For every string the law TextQuotes returns true: its text can be printed and is read as it, and neither with a sign behind it nor without its last one; no condition.
-/
import Derived.Test.YtjnnmghehoodhaaDoorCards
import Derived.Test.YtjnnmghehoodhaaDoorTie
import Derived.Test.YtjnnmghehoodhaaDoorTextLaid
import Derived.WalkKit
import Derived.ProofKit
import Derived.OpenShut
import Derived.ShutString
import Derived.ChangeOld
import Derived.Below
import Derived.Carry
import Derived.Deep.DeepHandedRow
import Derived.Deep.DeepWitnessRowRef
import Derived.SevenTiedAt
import Derived.Test.YtjnnmghehoodhaaDoorTextKnow
namespace Go.Proofs.YtjnnmghehoodhaaDoor
open Go.ChangeShapes Go.WideShapes Go.ChangeAt Go.RowKit
open Go.ChangeMaps (open_string shut_string)
set_option linter.unusedVariables false
attribute [local go_sem ↓] Go.wp_at_zero Go.wp_at_succ
attribute [local go_sem] run_store_float

theorem str_fits {s : ByteArray} (h : s.size ≤ maxLen) : Fits (3, 0, s, 0) :=
  ⟨(by decide : IntKind.i64.min ≤ 3), (by decide : (3 : Int) ≤ IntKind.i64.max), (by decide : IntKind.i64.min ≤ 0), (by decide : (0 : Int) ≤ IntKind.i64.max), h, (by decide : 0 < whole)⟩
theorem long_none {s : ByteArray} (h : ¬ s.size ≤ 60) : prnV (3, 0, s, 0) = [63] := by
  rw [prnV, if_neg]
  intro hb
  rcases t_cases hb with ⟨e, _⟩ | ⟨e, _⟩ | ⟨_, _, hs, _⟩ | ⟨e, _⟩
  · exact absurd e (by decide)
  · exact absurd e (by decide)
  · exact h hs
  · exact absurd e (by decide)
theorem quoS_len (l : List UInt8) (h : l.length ≤ 60) : (quoS l).length ≤ 242 ∧ 2 ≤ (quoS l).length := by
  have := quoL_length l
  unfold quoS
  simp only [List.length_cons, List.length_append, List.length_nil]
  omega
theorem quoS_cut (l : List UInt8) : (quoS l).take ((quoS l).length - 1) = 34 :: quoL l := by
  unfold quoS
  rw [← List.cons_append, ← List.dropLast_eq_take, List.dropLast_concat]
theorem seen_at (X : ByteArray) (l : List UInt8) (hX : X = ⟨(quoS l).toArray⟩) (k : Nat) (h : k < X.size) : 32 ≤ X[k].toNat ∧ X[k].toNat ≤ 126 := by
  subst hX
  refine quoS_seen l _ ?_
  show (quoS l)[k] ∈ quoS l
  exact List.getElem_mem _


theorem textQuotes_own : ownKnob Tryd.prog.godebug = none := by kernel_rfl
theorem textQuotes_laidOut : laidOutB Tryd.prog = true := by kernel_rfl

set_option maxHeartbeats 4000000 in
theorem textQuotes_walk (s0 : ByteArray) (w : World) (w0 : s0.size ≤ maxLen) (hT : Tabs w) :
    Calls Tryd.prog 6 #[.string s0] w fun e w' => e = .returned (.bool true) ∧ Up w w' := by
  have HT := hide hT
  clear hT
  have hp := fun W (h : Tabs W) => tprint_calls 3 0 s0 0 W (str_fits w0) h
  by_cases h60 : s0.size ≤ 60
  · rw [prn_str h60] at hp
    have h60i : ¬ (60 : Int) < (s0.size : Int) := by omega
    have hsl : s0.data.toList.length = s0.size := by simp
    obtain ⟨hq1, hq2⟩ := quoS_len s0.data.toList (by omega)
    obtain ⟨X, hX⟩ : ∃ X : ByteArray, X = ⟨(quoS s0.data.toList).toArray⟩ := ⟨_, rfl⟩
    have hXl : X.data.toList = quoS s0.data.toList := by rw [hX]
    have hXz : X.size = (quoS s0.data.toList).length := by rw [hX, str_size]
    have hz1 : X.size ≤ 242 := by omega
    have hz2 : 2 ≤ X.size := by omega
    have hseen := hide (seen_at X s0.data.toList hX)
    have Q1 := fun W (h : Tabs W) => tparse_calls X (by omega) W h
    have Q2 := fun W (h : Tabs W) => tparse_calls (X ++ ⟨#[120]⟩) (by rw [ByteArray.size_append]; show X.size + 1 ≤ _; omega) W h
    have Q3 := fun W (h : Tabs W) => tparse_calls (X.extract 0 (X.size - 1)) (by rw [ByteArray.size_extract]; omega) W h
    have e2 : (X ++ ⟨#[120]⟩ : ByteArray).data.toList = quoS s0.data.toList ++ [120] := by rw [ByteArray.data_append, Array.toList_append, hXl]
    have e3 : (X.extract 0 (X.size - 1)).data.toList = 34 :: quoL s0.data.toList := by rw [ex_list, List.drop_zero, Nat.sub_zero, hXl, hXz, quoS_cut]
    have e1 : parT (quoS s0.data.toList) = some (3, 0, s0, 0) := by rw [← prn_str h60]; exact parT_prn (t_str (.inl rfl) h60) (str_fits w0)
    unfold ParsePost at Q1 Q2 Q3
    rw [hXl, e1] at Q1
    rw [e2, par_more] at Q2
    rw [e3, par_less] at Q3
    rw [← hX] at hp
    have hself : (s0.toList == s0.toList) = true := by simp
    have i1 : IntKind.i64.wrap ((X.size : Int) - 1) = (X.size : Int) - 1 := wrap_small (by omega) (by omega)
    have i2 : ((X.size : Int) - 1).toNat = X.size - 1 := by omega
    clear hX hXl hXz e1 e2 e3 hq1 hq2 hsl w0
    go_enter Tryd.func6, Tryd.ntmps6
    go_wp2_with fail
    go_at_call 7
    refine (known4_calls _ HT.out).mono ?_
    rintro _ w1 ⟨rfl, hu⟩
    replace hu := hide hu
    go_wp2_with fail
    go_at_call 10
    refine (hp _ (HT.out.up hu.out)).mono ?_
    rintro _ w2 ⟨rfl, hu2⟩
    replace hu := hide (hu.out.trans hu2)
    clear hu2 hp
    go_wp2_with fail
    go_loop [4] (fun i => ∃ k : Nat, k ≤ X.size ∧ i = .int .i64 (k : Int)) (fun i => X.size - (intOf i).toNat)
    case atStart => exact ⟨0, Nat.zero_le _, rfl⟩
    case round =>
      obtain ⟨k, hk, rfl⟩ := hrel
      by_cases hlt : k < X.size
      · obtain ⟨v1, v2⟩ := hseen.out k hlt
        have t1 : decide ((X[k].toNat : Int) < 32) = false := decide_eq_false (by omega)
        have t2 : decide ((126 : Int) < (X[k].toNat : Int)) = false := decide_eq_false (by omega)
        go_wp2
        go_round
        case rel => exact ⟨k + 1, by omega, by go_num⟩
        case measure => simp [intOf]; omega
      · obtain rfl : k = X.size := by omega
        clear hseen
        go_wp2_with fail
        go_at_call 9
        refine (Q1 _ (HT.out.up hu.out)).mono ?_
        rintro _ w3 ⟨hu3, ⟨v, hv, rfl⟩ | ⟨hv, _⟩⟩
        case inr => cases hv
        obtain rfl := Option.some.inj hv
        have HM := hide (heap_alloc_new w3 (.cells #[.int .i64 3, .int .i64 0, .string s0, .float .f64 0] 27 (0, 0)))
        replace hu := hide ((hu.out.trans hu3).alloc (.cells #[.int .i64 3, .int .i64 0, .string s0, .float .f64 0] 27))
        clear hu3 Q1 hv
        simp only
        go_wp2_with fail
        go_at_call 9
        refine (Q2 _ (HT.out.up hu.out)).mono ?_
        rintro _ w4 ⟨hu4, ⟨v, hv, _⟩ | ⟨hv, rfl⟩⟩
        case inl => cases hv
        have HM2 := hide (((Up.refl w4).alloc (.cells #[.int .i64 0, .int .i64 0, .string ⟨#[]⟩, .float .f64 0] 27)).heap (hu4.heap HM.out))
        replace hu := hide ((hu.out.trans hu4).alloc (.cells #[.int .i64 0, .int .i64 0, .string ⟨#[]⟩, .float .f64 0] 27))
        clear hu4 Q2 hv HM
        go_wp2_with fail
        go_at_call 9
        refine (Q3 _ (HT.out.up hu.out)).mono ?_
        rintro _ w5 ⟨hu5, ⟨v, hv, _⟩ | ⟨hv, rfl⟩⟩
        case inl => cases hv
        have HM3 := hide (hu5.heap HM2.out)
        replace hu := hide (hu.out.trans hu5)
        have c0 : w5.cell? ⟨w3.heap.size, 0, none⟩ = some (.int .i64 3) := t_cell HM3.out rfl
        have c2 : w5.cell? ⟨w3.heap.size, 2, none⟩ = some (.string s0) := t_cell HM3.out rfl
        have hlt5 : w3.heap.size < w5.heap.size := World.block_lt_of_cell? w5 ⟨w3.heap.size, 0, none⟩ c0
        have hne5 : ¬ w3.heap.size = w5.heap.size := by omega
        clear hu5 Q3 hv HM2 HM3
        go_wp2
        go_ret
        exact ⟨rfl, hu.out.alloc _⟩
  · rw [long_none h60] at hp
    have h60i : (60 : Int) < (s0.size : Int) := by omega
    clear w0 h60
    go_enter Tryd.func6, Tryd.ntmps6
    go_wp2_with fail
    go_at_call 7
    refine (known4_calls _ HT.out).mono ?_
    rintro _ w1 ⟨rfl, hu⟩
    replace hu := hide hu
    go_wp2_with fail
    go_at_call 10
    refine (hp _ (HT.out.up hu.out)).mono ?_
    rintro _ w2 ⟨rfl, hu2⟩
    replace hu := hide (hu.out.trans hu2)
    clear hu2
    go_wp2
    go_ret
    exact ⟨rfl, hu.out⟩

theorem textQuotes_reads (os : Os) (H : Type) (enc : TypeId × Value → H) : ∃ ds places, DataW.whole enc Tryd.prog ((laidPut (World.settled Tryd.prog os).heap.size (World.holding Tryd.prog os laidTwo)).forCall (fun _ _ => 0) ⟨#[], #[.string ⟨#[]⟩], []⟩).memory Tryd.f6.params.toList Rows.textQuotesSpec.vars false (#[.string ⟨#[]⟩] : Array Value).toList 8 = some (ds, [], places) :=
  ⟨[.lit (.string [])], [], by kernel_rfl⟩

set_option maxRecDepth 100000 in
theorem textQuotes_lifted (os : Os) (started : os.Started) (H : Type) (enc : TypeId × Value → H) (I : Stop.Interp) :
    ReturnsInHanded {} Tryd.checked os 6 .any ((OpenSpec.ofChange Rows.textQuotesSpec).preRow enc Tryd.prog Tryd.f6 Rows.textQuotesRow.domain false Rows.textQuotesRow.laid) (((OpenSpec.ofChange Rows.textQuotesSpec).at I).post enc Tryd.prog Tryd.f6 false true false false) := by
  obtain ⟨ds, places, hx⟩ := textQuotes_reads os H enc
  refine returnsInHanded_of_row (C := Tryd.checked) (s := OpenSpec.ofChange Rows.textQuotesSpec) textQuotes_own started (by kernel_rfl) Tryd.func6
    (witness_row_atRef (enc := enc) (C := Tryd.checked) false (laidPut (World.settled Tryd.prog os).heap.size (World.holding Tryd.prog os laidTwo)) #[.string ⟨#[]⟩] rfl (by kernel_rfl) (by kernel_rfl) (by kernel_rfl)
      (OpenSpec.preRow_of_cond 8 hx (by kernel_rfl) (fun k hk => by cases hk) (by kernel_rfl) (laid_met os _))) ?_
  clear hx
  intro W base args ds gs before hval0 hW _ _ _ hL hS _
  have hT : Tabs W := tabs_of_laid hL hS
  have hval : ∀ (j : Nat) t v, Tryd.f6.params[j]? = some t → args[j]? = some v → Value.okWide Tryd.prog W .any base t v := hval0
  have hW' := hW
  obtain ⟨p, q, hA0, hV, rfl, hfz, hnd⟩ := hW
  have hA : DataW.TrodAll enc Tryd.prog W 0 (fun _ => true) true Tryd.f6.params.toList args.toList ds p := hA0
  rw [Tryd.params6] at hA hval
  obtain ⟨v0, vs0, d0, ds0, p0, q0, hargs, rfl, rfl, h0, r0⟩ := trodAll_cons hA
  obtain ⟨rfl, rfl, rfl⟩ := trodAll_nil r0
  obtain rfl : args = #[v0] := by cases args; simp_all
  obtain ⟨rfl, rfl⟩ := trodVars_none hV
  have y0 := h0
  have lt0 : ∀ x ∈ p0, x.block < W.heap.size := by obtain ⟨m, hm⟩ := y0; exact DataW.trod_lt m _ _ _ hm
  obtain ⟨s0, rfl, _, _, w0⟩ := open_string Tryd.underlying9 (hval 0 9 v0 rfl rfl) h0
  clear hA0 hval0
  refine (textQuotes_walk s0 W w0 hT).mono fun e W' ⟨he, bel⟩ => ?_
  subst he
  exact ⟨_, rfl, _, _, _, [], _, [], hW', trodAll_mk1 (shut_bool Tryd.underlying4 _), (trodAll_cons_mk (Below.trod textQuotes_laidOut (by kernel_rfl) (of_decide_eq_true (by kernel_rfl)) y0 bel.below lt0) trodAll_mk0), rfl, bel.below.frame _, fun h => by cases h⟩

theorem textQuotes_said : Rows.TextQuotesSaid :=
  OpenClaim.holds_of_cond 6 Tryd.f6 rfl rfl rfl rfl rfl rfl rfl ⟨rfl, rfl, rfl, rfl, rfl⟩ rfl rfl rfl rfl rfl (by kernel_rfl) Tryd.func6 (by kernel_rfl)
    (of_decide_eq_true (by kernel_rfl)) (by unfold Func.isWrapper; first | (rw [if_pos (by decide +kernel)]; kernel_rfl) | (rw [if_neg (by decide +kernel)]; exact ⟨rfl, rfl⟩))
    (fun os started H enc _ I => by rw [OpenClaim.pre_eq_preRow]; exact textQuotes_lifted os started H enc I)

theorem textQuotes_plain (f : FuncId) (fn : Func) (hf : Tryd.pinned.checked.prog.funcNamed "rialto/rialtolaw4.TextQuotes" = some f) (hfn : Tryd.pinned.checked.prog.funcs[f]? = some fn) :
    true = Tryd.pinned.checked.prog.looks [] ∧ ∀ (j : Nat) t, fn.params[j]? = some t → Tryd.pinned.checked.prog.wantsStandIn t = false := by
  obtain rfl : f = 6 := Option.some.inj ((show Tryd.prog.funcNamed "rialto/rialtolaw4.TextQuotes" = some 6 by kernel_rfl).symm.trans hf) |>.symm
  obtain rfl : fn = Tryd.f6 := (Option.some.inj (Tryd.func6.symm.trans hfn)).symm
  refine ⟨by kernel_rfl, fun j t ht => ?_⟩
  rw [Tryd.params6] at ht
  have hm := Array.mem_of_getElem? ht
  simp only [List.mem_toArray, List.mem_cons, List.not_mem_nil, or_false] at hm
  rcases hm with rfl
  · exact (show Tryd.prog.wantsStandIn 9 = false by kernel_rfl)

theorem textQuotes_proved : Rows.TextQuotesCardSaid :=
  Claim7.holds_tied_plain_at .later [] _ _ _ _ textQuotes_said (fun _ h => by cases h) (by kernel_rfl) (fun _ h => by cases h) textQuotes_row_tie rfl ⟨rfl, rfl⟩ (by kernel_rfl) rfl textQuotes_plain (by kernel_rfl)
#print axioms textQuotes_proved
end Go.Proofs.YtjnnmghehoodhaaDoor
