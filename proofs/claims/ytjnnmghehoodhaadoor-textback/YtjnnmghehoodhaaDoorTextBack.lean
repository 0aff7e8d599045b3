/-
  For every row of values the law TextBack returns true: what is printed is read as the same, value by value and as a row; no condition.
-/
import Derived.Test.YtjnnmghehoodhaaDoorCards
import Derived.Test.YtjnnmghehoodhaaDoorTie
import Derived.Test.YtjnnmghehoodhaaDoorTextLaid
import Derived.WalkKit
import Derived.ProofKit
import Derived.OpenShut
import Derived.ShutString
import Derived.ChangeOld
import Derived.Below
import Derived.Carry
import Derived.Deep.DeepHandedRow
import Derived.Deep.DeepWitnessRowRef
import Derived.SevenTiedAt
import Derived.Test.YtjnnmghehoodhaaDoorTextKnow
import Derived.Test.YtjnnmghehoodhaaDoorValHelp
import Derived.Test.YtjnnmghehoodhaaDoorCodeApp
import Derived.Test.YtjnnmghehoodhaaDoorOpens
namespace Go.Proofs.YtjnnmghehoodhaaDoor
open Go.ChangeShapes Go.WideShapes Go.ChangeAt Go.RowKit
open Go.ChangeMaps (open_string shut_string)
set_option linter.unusedVariables false
attribute [local go_sem ↓] Go.wp_at_zero Go.wp_at_succ
attribute [local go_sem] run_store_float

theorem prn_bad {v : VT} (h : isB v = false) : prnV v = [63] := by
  rw [prnV, if_neg (by rw [h]; simp)]
theorem allV_of {l : List VT} (hf : ∀ i, Fits (l.getD i zeroT)) (hb : ∀ j, j < l.length → isB (l.getD j zeroT) = true) : AllV l := by
  intro v hv
  obtain ⟨i, hi, rfl⟩ := List.getElem_of_mem hv
  have e : l.getD i zeroT = l[i] := by rw [List.getD_eq_getElem?_getD, List.getElem?_eq_getElem hi]; rfl
  rw [← e]
  exact ⟨hb i hi, hf i⟩
theorem rowT_len {l : List VT} (hf : ∀ i, Fits (l.getD i zeroT)) : (rowT l).length ≤ 2 + 252 * l.length := by
  have h := rowB_len l (fits_mem hf)
  unfold rowB at h
  unfold rowT
  simp only [List.length_cons, List.length_append, List.length_nil] at h ⊢
  omega


theorem textBack_own : ownKnob Tryd.prog.godebug = none := by kernel_rfl
theorem textBack_laidOut : laidOutB Tryd.prog = true := by kernel_rfl

set_option maxHeartbeats 4000000 in
theorem textBack_walk (a0 : Option Addr) (len0 cap0 : Nat) (l0 : List VT) (w : World) (w0 : len0 ≤ maxLen ∧ len0 ≤ cap0 ∧ cap0 ≤ maxLen ∧ Vals w a0 len0 l0) (hT : Tabs w) :
    Calls Tryd.prog 3 #[.slice a0 len0 cap0] w fun e w' => e = .returned (.bool true) ∧ Up w w' := by
  have HT := hide hT
  clear hT
  obtain ⟨hmax0, _, _, hv0⟩ := w0
  have V0 := hide hv0
  have FL0 := hide hv0.2.1
  have NL0 := hide hv0.1
  clear hv0
  go_enter Tryd.func3, Tryd.ntmps3
  go_wp2_with fail
  go_at_call 7
  refine (known4_calls _ HT.out).mono ?_
  rintro _ w1 ⟨rfl, hu⟩
  replace hu := hide hu
  replace V0 := hide (V0.out.up hu.out)
  cases hfew0 : fewB l0 12
  · go_wp2_with (go_at_call 8; refine (few_calls _ _ _ l0 _ _ hmax0 V0.out).mono ?_; rintro _ w2 ⟨rfl, hw2⟩; obtain rfl : w1 = w2 := hw2.symm)
    go_ret
    exact ⟨rfl, hu.out⟩
  have ht0 : len0 ≤ 12 := by
    have hf := hfew0
    unfold fewB at hf
    rw [Bool.and_eq_true, decide_eq_true_eq, NL0.out] at hf
    omega
  go_wp2_with fail
  go_at_call 8
  refine (few_calls _ _ _ l0 _ _ hmax0 V0.out).mono ?_
  rintro _ w2 ⟨rfl, hw2⟩
  obtain rfl : w1 = w2 := hw2.symm
  clear hmax0
  go_wp2_with fail
  go_loopw [3] (fun i wr => ∃ k : Nat, k ≤ len0 ∧ i = .int .i64 (k : Int) ∧ Up w1 wr ∧ Hid (∀ j, j < k → isB (l0.getD j zeroT) = true)) (fun i _ => len0 - (intOf i).toNat)
  case atStart => exact ⟨0, Nat.zero_le _, rfl, Up.refl _, fun j hj => absurd hj (Nat.not_lt_zero j)⟩
  case round =>
    obtain ⟨k, hk, rfl, hur, hg⟩ := hrel
    by_cases hlt : k < len0
    · obtain ⟨b0, o0, rfl, hat⟩ : ∃ b off, a0 = some ⟨b, off, none⟩ ∧ At wr b (off + k * 4) (l0.getD k zeroT) := by
        rcases V0.out.2.2 with h | ⟨b, off, rfl, hx⟩
        · omega
        · exact ⟨b, off, rfl, (hx k hlt).up hur⟩
      obtain ⟨c0, c1, c2, c3⟩ := hat
      have hf := FL0.out k
      obtain ⟨⟨q, n, s, f⟩, hx⟩ : ∃ x, x = l0.getD k zeroT := ⟨_, rfl⟩
      rw [← hx] at c0 c1 c2 c3 hf
      replace hx := hide hx
      simp only at c0 c1 c2 c3
      have i0 : (0 : Int) ≤ (k : Int) := by omega
      have i1 : (k : Int) < (len0 : Int) := by omega
      have hpl := prn_len _ hf
      have hpc := fun W (h : Tabs W) => tprint_calls q n s f W hf h
      obtain ⟨P, hP⟩ : ∃ P : ByteArray, P = ⟨(prnV (q, n, s, f)).toArray⟩ := ⟨_, rfl⟩
      have hPl : P.data.toList = prnV (q, n, s, f) := by rw [hP]
      have hPz : P.size ≤ 250 := by rw [hP, str_size]; exact hpl
      rw [← hP] at hpc
      have Q := fun W (h : Tabs W) => tparse_calls P (by omega) W h
      unfold ParsePost at Q
      rw [hPl] at Q
      have HU := hide (hu.out.trans hur)
      replace hur := hide hur
      have HF := hide hf
      have HP := hide hP
      clear hpl hP hPl hf
      cases hb : isB (q, n, s, f) with
      | false =>
        rw [prn_bad hb, parT_ask] at Q
        have hask : (P.toList == [63]) = true := by rw [HP.out, Go.Lib.toList_data, prn_bad hb]; rfl
        go_wp2_with fail
        go_at_call 10
        refine (hpc _ (HT.out.up HU.out)).mono ?_
        rintro _ w2 ⟨rfl, hu2⟩
        replace c0 := hu2.cell c0
        replace c1 := hu2.cell c1
        replace c2 := hu2.cell c2
        replace c3 := hu2.cell c3
        replace HU := hide (HU.out.trans hu2)
        replace hur := hide (hur.out.trans hu2)
        clear hu2
        go_wp2_with fail
        go_at_call 9
        refine (Q _ (HT.out.up HU.out)).mono ?_
        rintro _ w3 ⟨hu3, ⟨v, hv, _⟩ | ⟨hv, rfl⟩⟩
        case inl => cases hv
        have HN := hide (heap_alloc_new w3 (.cells #[.int .i64 0, .int .i64 0, .string ⟨#[]⟩, .float .f64 0] 27 (0, 0)))
        replace c0 := ((Up.refl w3).alloc (.cells #[.int .i64 0, .int .i64 0, .string ⟨#[]⟩, .float .f64 0] 27)).cell (hu3.cell c0)
        replace c1 := ((Up.refl w3).alloc (.cells #[.int .i64 0, .int .i64 0, .string ⟨#[]⟩, .float .f64 0] 27)).cell (hu3.cell c1)
        replace c2 := ((Up.refl w3).alloc (.cells #[.int .i64 0, .int .i64 0, .string ⟨#[]⟩, .float .f64 0] 27)).cell (hu3.cell c2)
        replace c3 := ((Up.refl w3).alloc (.cells #[.int .i64 0, .int .i64 0, .string ⟨#[]⟩, .float .f64 0] 27)).cell (hu3.cell c3)
        replace HU := hide ((HU.out.trans hu3).alloc (.cells #[.int .i64 0, .int .i64 0, .string ⟨#[]⟩, .float .f64 0] 27))
        replace hur := hide ((hur.out.trans hu3).alloc (.cells #[.int .i64 0, .int .i64 0, .string ⟨#[]⟩, .float .f64 0] 27))
        clear hu3 Q hv
        go_wp2_with fail
        go_at_call 11
        refine (ris_calls _ _ _ _ _).mono ?_
        rintro _ w4 ⟨rfl, hu4⟩
        replace c0 := hu4.cell c0
        replace c1 := hu4.cell c1
        replace c2 := hu4.cell c2
        replace c3 := hu4.cell c3
        have HN4 := hide (hu4.heap HN.out)
        replace HU := hide (HU.out.trans hu4)
        replace hur := hide (hur.out.trans hu4)
        clear hu4 HN
        rw [hb]
        go_wp2_with fail
        go_at_call 10
        refine (hpc _ (HT.out.up HU.out)).mono ?_
        rintro _ w5 ⟨rfl, hu5⟩
        replace HU := hide (HU.out.trans hu5)
        clear hu5 hpc c0 c1 c2 c3
        go_wp2
        go_ret
        exact ⟨rfl, HU.out⟩
      | true =>
        rw [parT_prn hb HF.out] at Q
        have hcs : (cmpV (q, n, s, f) (q, n, s, f) == 0) = true := by rw [cmpV_self]; rfl
        go_wp2_with fail
        go_at_call 10
        refine (hpc _ (HT.out.up HU.out)).mono ?_
        rintro _ w2 ⟨rfl, hu2⟩
        replace c0 := hu2.cell c0
        replace c1 := hu2.cell c1
        replace c2 := hu2.cell c2
        replace c3 := hu2.cell c3
        replace HU := hide (HU.out.trans hu2)
        replace hur := hide (hur.out.trans hu2)
        clear hu2
        go_wp2_with fail
        go_at_call 9
        refine (Q _ (HT.out.up HU.out)).mono ?_
        rintro _ w3 ⟨hu3, ⟨v, hv, rfl⟩ | ⟨hv, _⟩⟩
        case inr => cases hv
        obtain rfl := Option.some.inj hv
        simp only
        have HN := hide (heap_alloc_new w3 (.cells #[.int .i64 q, .int .i64 n, .string s, .float .f64 f] 27 (0, 0)))
        replace c0 := ((Up.refl w3).alloc (.cells #[.int .i64 q, .int .i64 n, .string s, .float .f64 f] 27)).cell (hu3.cell c0)
        replace c1 := ((Up.refl w3).alloc (.cells #[.int .i64 q, .int .i64 n, .string s, .float .f64 f] 27)).cell (hu3.cell c1)
        replace c2 := ((Up.refl w3).alloc (.cells #[.int .i64 q, .int .i64 n, .string s, .float .f64 f] 27)).cell (hu3.cell c2)
        replace c3 := ((Up.refl w3).alloc (.cells #[.int .i64 q, .int .i64 n, .string s, .float .f64 f] 27)).cell (hu3.cell c3)
        replace HU := hide ((HU.out.trans hu3).alloc (.cells #[.int .i64 q, .int .i64 n, .string s, .float .f64 f] 27))
        replace hur := hide ((hur.out.trans hu3).alloc (.cells #[.int .i64 q, .int .i64 n, .string s, .float .f64 f] 27))
        clear hu3 Q hv
        go_wp2_with fail
        go_at_call 11
        refine (ris_calls _ _ _ _ _).mono ?_
        rintro _ w4 ⟨rfl, hu4⟩
        replace c0 := hu4.cell c0
        replace c1 := hu4.cell c1
        replace c2 := hu4.cell c2
        replace c3 := hu4.cell c3
        have HN4 := hide (hu4.heap HN.out)
        replace HU := hide (HU.out.trans hu4)
        replace hur := hide (hur.out.trans hu4)
        clear hu4 HN
        rw [hb]
        have d0 : w4.cell? ⟨w3.heap.size, 0, none⟩ = some (.int .i64 q) := t_cell HN4.out rfl
        have d1 : w4.cell? ⟨w3.heap.size, 1, none⟩ = some (.int .i64 n) := t_cell HN4.out rfl
        have d2 : w4.cell? ⟨w3.heap.size, 2, none⟩ = some (.string s) := t_cell HN4.out rfl
        have d3 : w4.cell? ⟨w3.heap.size, 3, none⟩ = some (.float .f64 f) := t_cell HN4.out rfl
        have hfw := HF.out.2.2.2.2.2
        simp only at hfw
        go_wp2_with fail
        go_region_held3 (fun w' => w'.cell? ⟨b0, o0 + k * 4, none⟩ = some (.int .i64 q) ∧ w'.cell? ⟨b0, o0 + k * 4 + 1, none⟩ = some (.int .i64 n) ∧ w'.cell? ⟨b0, o0 + k * 4 + 2, none⟩ = some (.string s) ∧ w'.cell? ⟨b0, o0 + k * 4 + 3, none⟩ = some (.float .f64 f)
            ∧ w'.cell? ⟨w3.heap.size, 0, none⟩ = some (.int .i64 q) ∧ w'.cell? ⟨w3.heap.size, 1, none⟩ = some (.int .i64 n) ∧ w'.cell? ⟨w3.heap.size, 2, none⟩ = some (.string s) ∧ w'.cell? ⟨w3.heap.size, 3, none⟩ = some (.float .f64 f)) (first | go_keep | exact ⟨hu5.cell c0, hu5.cell c1, hu5.cell c2, hu5.cell c3, hu5.cell d0, hu5.cell d1, hu5.cell d2, hu5.cell d3⟩)
          (first | (go_at_call 12; refine (rvsame_calls _ _ _ _ _ _ _ _ (by with_reducible assumption) (by with_reducible assumption) _).mono ?_; rintro _ w5 ⟨rfl, hu5⟩))
        replace hur := hide (hur.out.drew.trans hu5)
        clear hu5 c0 c1 c2 c3 d0 d1 d2 d3 HN4 HU hpc
        go_wp2
        go_roundw
        case rel =>
          refine ⟨k + 1, by omega, by go_num, hur.out, fun j hj => ?_⟩
          by_cases hjk : j < k
          · exact hg.out j hjk
          · obtain rfl : j = k := by omega
            rw [← hx.out]; exact hb
        case measure => simp [intOf]; omega
    · obtain rfl : k = len0 := by omega
      have hall : AllV l0 := allV_of FL0.out (by rw [NL0.out]; exact hg.out)
      have hrl := rowT_len FL0.out
      rw [NL0.out] at hrl
      obtain ⟨R, hR⟩ : ∃ R : ByteArray, R = ⟨(rowT l0).toArray⟩ := ⟨_, rfl⟩
      have hRl : R.data.toList = rowT l0 := by rw [hR]
      have hRz : R.size ≤ 1000000 := by rw [hR, str_size]; omega
      have V1 := hide (V0.out.up hur)
      have hpr := fun W (h : Vals W a0 k l0) (ht : Tabs W) => trow_calls a0 k cap0 l0 W (by omega) h ht
      rw [← hR] at hpr
      have Q := fun W (h : Tabs W) => treads_calls R hRz W h
      unfold ReadsPost at Q
      rw [hRl, redT_row hall] at Q
      have HU := hide (hu.out.trans hur)
      clear hR hRl hrl hall hur V0
      go_wp2_with fail
      go_at_call 14
      refine (hpr _ V1.out (HT.out.up HU.out)).mono ?_
      rintro _ w2 ⟨rfl, hu2⟩
      replace V1 := hide (V1.out.up hu2)
      replace HU := hide (HU.out.trans hu2)
      clear hu2 hpr
      go_wp2_with fail
      go_at_call 13
      refine (Q _ (HT.out.up HU.out)).mono ?_
      rintro _ w3 ⟨hu3, ⟨m, v, hm, _, rfl, ho⟩ | ⟨hm, _⟩⟩
      case inr => cases hm
      obtain rfl := Option.some.inj hm
      obtain ⟨a3, cap3, rfl, _, _, _, hv3, _⟩ := owns_vals ho FL0.out
      replace V1 := hide (V1.out.up hu3)
      replace HU := hide (HU.out.trans hu3)
      rw [NL0.out] at hv3 ⊢
      have V3 := hide hv3
      clear hu3 Q hm ho hv3
      go_wp2_with fail
      go_at_call 15
      refine (same_calls' _ _ k _ _ l0 _ (by unfold maxLen; omega) V1.out V3.out).mono ?_
      rintro _ w4 ⟨rfl, hu4⟩
      replace HU := hide (HU.out.trans hu4)
      clear hu4
      go_wp2
      go_ret
      exact ⟨rfl, HU.out⟩

theorem textBack_reads (os : Os) (H : Type) (enc : TypeId × Value → H) : ∃ ds places, DataW.whole enc Tryd.prog ((laidPut (World.settled Tryd.prog os).heap.size (World.holding Tryd.prog os laidTwo)).forCall (fun _ _ => 0) ⟨#[], #[.slice none 0 0], []⟩).memory Tryd.f3.params.toList Rows.textBackSpec.vars false (#[.slice none 0 0] : Array Value).toList 8 = some (ds, [], places) :=
  ⟨[.nil], [], by kernel_rfl⟩

set_option maxRecDepth 100000 in
theorem textBack_lifted (os : Os) (started : os.Started) (H : Type) (enc : TypeId × Value → H) (I : Stop.Interp) :
    ReturnsInHanded {} Tryd.checked os 3 .any ((OpenSpec.ofChange Rows.textBackSpec).preRow enc Tryd.prog Tryd.f3 Rows.textBackRow.domain false Rows.textBackRow.laid) (((OpenSpec.ofChange Rows.textBackSpec).at I).post enc Tryd.prog Tryd.f3 false true false false) := by
  obtain ⟨ds, places, hx⟩ := textBack_reads os H enc
  refine returnsInHanded_of_row (C := Tryd.checked) (s := OpenSpec.ofChange Rows.textBackSpec) textBack_own started (by kernel_rfl) Tryd.func3
    (witness_row_atRef (enc := enc) (C := Tryd.checked) false (laidPut (World.settled Tryd.prog os).heap.size (World.holding Tryd.prog os laidTwo)) #[.slice none 0 0] rfl (by kernel_rfl) (by kernel_rfl) (by kernel_rfl)
      (OpenSpec.preRow_of_cond 8 hx (by kernel_rfl) (fun k hk => by cases hk) (by kernel_rfl) (laid_met os _))) ?_
  clear hx
  intro W base args ds gs before hval0 hW _ _ _ hL hS _
  have hT : Tabs W := tabs_of_laid hL hS
  have hval : ∀ (j : Nat) t v, Tryd.f3.params[j]? = some t → args[j]? = some v → Value.okWide Tryd.prog W .any base t v := hval0
  have hW' := hW
  obtain ⟨p, q, hA0, hV, rfl, hfz, hnd⟩ := hW
  have hA : DataW.TrodAll enc Tryd.prog W 0 (fun _ => true) true Tryd.f3.params.toList args.toList ds p := hA0
  rw [Tryd.params3] at hA hval
  obtain ⟨v0, vs0, d0, ds0, p0, q0, hargs, rfl, rfl, h0, r0⟩ := trodAll_cons hA
  obtain ⟨rfl, rfl, rfl⟩ := trodAll_nil r0
  obtain rfl : args = #[v0] := by cases args; simp_all
  obtain ⟨rfl, rfl⟩ := trodVars_none hV
  have y0 := h0
  have lt0 : ∀ x ∈ p0, x.block < W.heap.size := by obtain ⟨m, hm⟩ := y0; exact DataW.trod_lt m _ _ _ hm
  obtain ⟨a0, len0, cap0, rfl⟩ := okWide_slice Tryd.underlying22 (hval 0 22 v0 rfl rfl)
  obtain ⟨l0, w0⟩ := open_values h0
  clear hA0 hval0
  refine (textBack_walk a0 len0 cap0 l0 W w0 hT).mono fun e W' ⟨he, bel⟩ => ?_
  subst he
  exact ⟨_, rfl, _, _, _, [], _, [], hW', trodAll_mk1 (shut_bool Tryd.underlying4 _), (trodAll_cons_mk (Below.trod textBack_laidOut (by kernel_rfl) (of_decide_eq_true (by kernel_rfl)) y0 bel.below lt0) trodAll_mk0), rfl, bel.below.frame _, fun h => by cases h⟩

theorem textBack_said : Rows.TextBackSaid :=
  OpenClaim.holds_of_cond 3 Tryd.f3 rfl rfl rfl rfl rfl rfl rfl ⟨rfl, rfl, rfl, rfl, rfl⟩ rfl rfl rfl rfl rfl (by kernel_rfl) Tryd.func3 (by kernel_rfl)
    (of_decide_eq_true (by kernel_rfl)) (by unfold Func.isWrapper; first | (rw [if_pos (by decide +kernel)]; kernel_rfl) | (rw [if_neg (by decide +kernel)]; exact ⟨rfl, rfl⟩))
    (fun os started H enc _ I => by rw [OpenClaim.pre_eq_preRow]; exact textBack_lifted os started H enc I)

theorem textBack_plain (f : FuncId) (fn : Func) (hf : Tryd.pinned.checked.prog.funcNamed "rialto/rialtolaw4.TextBack" = some f) (hfn : Tryd.pinned.checked.prog.funcs[f]? = some fn) :
    true = Tryd.pinned.checked.prog.looks [] ∧ ∀ (j : Nat) t, fn.params[j]? = some t → Tryd.pinned.checked.prog.wantsStandIn t = false := by
  obtain rfl : f = 3 := Option.some.inj ((show Tryd.prog.funcNamed "rialto/rialtolaw4.TextBack" = some 3 by kernel_rfl).symm.trans hf) |>.symm
  obtain rfl : fn = Tryd.f3 := (Option.some.inj (Tryd.func3.symm.trans hfn)).symm
  refine ⟨by kernel_rfl, fun j t ht => ?_⟩
  rw [Tryd.params3] at ht
  have hm := Array.mem_of_getElem? ht
  simp only [List.mem_toArray, List.mem_cons, List.not_mem_nil, or_false] at hm
  rcases hm with rfl
  · exact (show Tryd.prog.wantsStandIn 22 = false by kernel_rfl)

theorem textBack_proved : Rows.TextBackCardSaid :=
  Claim7.holds_tied_plain_at .later [] _ _ _ _ textBack_said (fun _ h => by cases h) (by kernel_rfl) (fun _ h => by cases h) textBack_row_tie rfl ⟨rfl, rfl⟩ (by kernel_rfl) rfl textBack_plain (by kernel_rfl)
#print axioms textBack_proved
end Go.Proofs.YtjnnmghehoodhaaDoor
