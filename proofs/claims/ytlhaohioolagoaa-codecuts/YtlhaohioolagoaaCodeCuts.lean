/-
  For every row of values, and whatever isn't one, and every place the law CodeCuts returns true: bytes that are cut off within a value are none; no condition.
-/
import Derived.Test.YtlhaohioolagoaaRows
import Derived.WalkKit
import Derived.ProofKit
import Derived.OpenShut
import Derived.ShutString
import Derived.ChangeOld
import Derived.Below
import Derived.Carry
import Derived.Test.YtlhaohioolagoaaCodeKnown
import Derived.Test.YtlhaohioolagoaaCodeMath
import Derived.Test.YtlhaohioolagoaaValHelp
import Derived.Test.YtlhaohioolagoaaOpens
namespace Go.Proofs.Ytlhaohioolagoaa
open Go.ChangeShapes Go.WideShapes Go.ChangeAt Go.RowKit
open Go.ChangeMaps (open_string shut_string)
set_option linter.unusedVariables false
attribute [local go_sem ↓] Go.wp_at_zero Go.wp_at_succ
attribute [local go_sem] run_store_float

/-- Whether a value ends there, of the first so many. -/
def endsB (l : List VT) (c : Int) (k : Nat) : Bool := (List.range (k + 1)).any fun i => ((putL (l.take i)).length : Int) == c
theorem endsB_zero (l : List VT) (c : Int) : endsB l c 0 = (c == 0) := by
  simp [endsB, putL]
  exact BEq.comm
theorem endsB_succ (l : List VT) (c : Int) (k : Nat) : endsB l c (k + 1) = (endsB l c k || ((putL (l.take (k + 1))).length : Int) == c) := by
  unfold endsB
  rw [List.range_succ, List.any_append]
  simp
theorem endsB_iff (l : List VT) (c : Nat) (hf : ∀ i, Fits (l.getD i zeroT)) (hg : l.all isB = true) (hc : c ≤ (putL l).length) : endsB l c l.length = (getL ((putL l).take c)).isSome := by
  rw [Bool.eq_iff_iff, getL_cut l hf hg c hc]
  unfold endsB
  rw [List.any_eq_true]
  constructor
  · rintro ⟨i, hi, he⟩
    rw [List.mem_range] at hi
    exact ⟨i, by omega, by have := eq_of_beq he; omega⟩
  · rintro ⟨i, hi, he⟩
    exact ⟨i, List.mem_range.2 (by omega), by rw [he]; simp⟩
theorem sl_take {w : World} {b off n c : Nat} {l : List UInt8} (hl : l.length = n) (hc : n ≤ c) (hm : c ≤ maxLen) (hx : ∀ i, i < n → w.cell? ⟨b, off + i, none⟩ = some (.int .u8 ((l.getD i 0).toNat : Int))) (j : Nat) (hj : j ≤ n) :
    Sl w (.slice (some ⟨b, off, none⟩) j c) (l.take j) := by
  have e : (l.take j).length = j := by rw [List.length_take]; omega
  refine ⟨_, _, by rw [e], by rw [e]; omega, hm, rfl, .inr ⟨b, off, rfl, fun i hi => ?_⟩⟩
  rw [e] at hi
  rw [hx i (by omega), List.getD_eq_getElem?_getD, List.getD_eq_getElem?_getD, List.getElem?_take, if_pos hi]
theorem take_all {l : List VT} (h : l.all isB = true) (k : Nat) : (l.take k).all isB = true := by
  rw [List.all_eq_true] at h ⊢
  exact fun v hv => h v (List.mem_of_mem_take hv)


theorem codeCuts_own : ownKnob Try.prog.godebug = none := by kernel_rfl
theorem codeCuts_laidOut : laidOutB Try.prog = true := by kernel_rfl

set_option maxHeartbeats 4000000 in
theorem codeCuts_walk (a0 : Option Addr) (len0 cap0 : Nat) (l0 : List VT) (a1 : Int) (w : World) (w0 : len0 ≤ maxLen ∧ len0 ≤ cap0 ∧ cap0 ≤ maxLen ∧ Vals w a0 len0 l0) (w1 : (Lit.int .i64 a1).wf = true) :
    Calls Try.prog 7 #[.slice a0 len0 cap0, .int .i64 a1] w fun e w' => e = .returned (.bool true) ∧ Up w w' := by
  obtain ⟨hmax, hlc, hcm, hvals⟩ := w0
  have HV := hide hvals
  clear hvals
  go_enter Try.func7, Try.ntmps7
  go_wp2_with fail
  go_at_call 8
  refine (known_calls _).mono ?_
  rintro _ w1 ⟨rfl, hu⟩
  replace hu := hide hu
  have V1 := hide (HV.out.up hu.out)
  cases hfew : fewB l0 8
  · go_wp2_with (go_at_call 9; refine (few_calls _ _ _ l0 _ _ hmax V1.out).mono ?_; rintro _ w2 ⟨rfl, hw2⟩; obtain rfl : w1 = w2 := hw2.symm)
    go_ret
    exact ⟨rfl, hu.out⟩
  have hten : len0 ≤ 8 := by
    have hf := hfew
    unfold fewB at hf
    rw [Bool.and_eq_true, decide_eq_true_eq, HV.out.1] at hf
    omega
  go_wp2_with (go_at_call 9; refine (few_calls _ _ _ l0 _ _ hmax V1.out).mono ?_; rintro _ w2 ⟨rfl, hw2⟩; obtain rfl : w1 = w2 := hw2.symm)
  go_at_call 10
  refine (put_calls _ _ _ l0 _ (by omega) V1.out).mono ?_
  rintro _ w2 ⟨hu2, ⟨hall, v2, rfl, ho2⟩ | ⟨_, rfl⟩⟩
  · replace hu := hide (hu.out.trans hu2)
    replace ho2 := hide ho2
    have V2 := hide (HV.out.up hu.out)
    have hall2 := hide hall
    clear hu2 hall V1
    have hmany := putL_length l0 (fun j hj => good_get hall2.out hj)
    rw [HV.out.1] at hmany
    obtain ⟨L, hL⟩ : ∃ L, L = putL l0 := ⟨_, rfl⟩
    rw [← hL] at ho2 hmany
    replace hL := hide hL
    have HO := hide ho2.out
    obtain ⟨a2, cap2, rfl, hc2, hm2, hb2⟩ := ho2.out.bts
    by_cases hneg : a1 < 0
    · go_wp2
      go_ret
      exact ⟨rfl, hu.out⟩
    by_cases hbig : (L.length : Int) ≤ a1
    · go_wp2
      go_ret
      exact ⟨rfl, hu.out⟩
    obtain ⟨c, rfl⟩ : ∃ c : Nat, a1 = (c : Int) := ⟨a1.toNat, by omega⟩
    have hpos : 0 < L.length := by omega
    have hn0 : ¬ len0 = 0 := by
      intro e
      have h0 : l0 = [] := List.length_eq_zero_iff.1 (by rw [HV.out.1]; exact e)
      have := hL.out
      rw [h0] at this
      rw [this] at hpos
      simp [putL] at hpos
    obtain ⟨b0, off0, hb0⟩ : ∃ b off, a0 = some ⟨b, off, none⟩ := by
      rcases HV.out.2.2 with h | ⟨b, off, h, _⟩
      · exact absurd h hn0
      · exact ⟨b, off, h⟩
    subst hb0
    obtain ⟨_, hb2⟩ := hb2
    rcases hb2 with hb2 | ⟨b2, off2, rfl, hb2⟩
    · omega
    have HB2 := hide hb2
    have HM2 := hide hm2
    have HC2 := hide hc2
    have hend := endsB_iff l0 c HV.out.2.1 hall2.out (by rw [← hL.out]; omega)
    rw [← hL.out, HV.out.1] at hend
    have HE := hide hend
    have hcl : c ≤ L.length := by omega
    have hcc : (c : Int) ≤ (cap2 : Int) := by omega
    have hcz : (0 : Int) ≤ (c : Int) := by omega
    have HCM := hide hcm
    have hlm : L.length ≤ 1000000 := by omega
    have hd1 : decide ((c : Int) < 0) = false := decide_eq_false (by omega)
    have hd2 : decide (L.length ≤ c) = false := decide_eq_false (by omega)
    clear hb2 hend hm2 hc2 hcm ho2 HO hpos hmany w1
    go_wp2_with fail
    go_loopw [7, 8] (fun x i wr => ∃ k : Nat, k ≤ len0 ∧ i = .int .i64 ((k : Int) + 1) ∧ x = .bool (endsB l0 c k) ∧ Up w2 wr) (fun _ i _ => len0 + 1 - (intOf i).toNat)
    case atStart => exact ⟨0, Nat.zero_le _, rfl, by rw [endsB_zero], Up.refl _⟩
    case round =>
      obtain ⟨k, hk, rfl, rfl, hur⟩ := hrel
      by_cases hlt : k < len0
      · have VR := hide ((V2.out.up hur).take (k + 1) (by omega))
        have hsu := endsB_succ l0 c k
        have hgd := take_all hall2.out (k + 1)
        obtain ⟨M, hM⟩ : ∃ M, M = putL (l0.take (k + 1)) := ⟨_, rfl⟩
        rw [← hM] at hsu
        replace hM := hide hM
        have i0 : (0 : Int) ≤ (k : Int) + 1 := by omega
        have i1 : (k : Int) + 1 ≤ (len0 : Int) := by omega
        have i2 : (k : Int) + 1 ≤ (cap0 : Int) := by omega
        replace hur := hide hur
        go_wp2_with fail
        go_at_call 10
        refine (put_calls _ _ _ (l0.take (k + 1)) _ (by omega) VR.out).mono ?_
        intro e3 w3 h3
        obtain ⟨hu3, v3, rfl, ho3⟩ := putPost_good h3 hgd
        rw [← hM.out] at ho3
        have HU3 := hide (hur.out.trans hu3)
        obtain ⟨a3, cap3, rfl, _⟩ := ho3.bts
        clear h3 hu3 hgd VR ho3
        cases hk1 : endsB l0 c k
        · by_cases hme : (M.length : Int) = (c : Int)
          · have hmt : ((M.length : Int) == (c : Int)) = true := by simpa using hme
            rw [hk1, hmt] at hsu
            replace hsu := hide hsu
            clear hme
            go_wp2
            go_roundw
            case rel => exact ⟨k + 1, by omega, by go_num, by rw [hsu.out]; rfl, HU3.out⟩
            case measure => simp [intOf]; omega
          · have hmt : ((M.length : Int) == (c : Int)) = false := beq_eq_false_iff_ne.2 hme
            rw [hk1, hmt] at hsu
            replace hsu := hide hsu
            clear hme
            go_wp2
            go_roundw
            case rel => exact ⟨k + 1, by omega, by go_num, by rw [hsu.out]; rfl, HU3.out⟩
            case measure => simp [intOf]; omega
        · rw [hk1, Bool.true_or] at hsu
          replace hsu := hide hsu
          go_wp2
          go_roundw
          case rel => exact ⟨k + 1, by omega, by go_num, by rw [hsu.out], HU3.out⟩
          case measure => simp [intOf]; omega
      · obtain rfl : k = len0 := by omega
        have i1 : ¬ (k : Int) + 1 ≤ (k : Int) := by omega
        have S0 := hide ((sl_take (l := L) rfl HC2.out HM2.out HB2.out c hcl).up hur)
        have hlt2 : (L.take c).length ≤ 1000000 := by rw [List.length_take]; omega
        have HLT := hide hlt2
        have hur2 := hide (hu.out.trans hur)
        clear hlt2 hur
        cases hgl : getL (L.take c) with
        | none =>
          have hE : endsB l0 c k = false := by rw [HE.out, hgl]; rfl
          have hS : (getL (L.take c)).isSome = false := by rw [hgl]; rfl
          go_wp2_with fail
          go_at_call 12
          refine (get_calls _ (L.take c) _ HLT.out S0.out).mono ?_
          rintro _ w4 ⟨hu4, ⟨m, v4, hm, _⟩ | ⟨_, rfl⟩⟩
          case inl => rw [hgl] at hm; cases hm
          replace hur2 := hide (hur2.out.trans hu4)
          replace S0 := hide (S0.out.up hu4)
          clear hu4
          go_wp2_with fail
          go_at_call 15
          refine (whole_calls _ (L.take c) _ HLT.out S0.out).mono ?_
          rintro _ w5 ⟨rfl, hu5⟩
          replace hur2 := hide (hur2.out.trans hu5)
          clear hu5
          go_wp2
          go_ret
          exact ⟨rfl, hur2.out⟩
        | some g =>
          have hE : endsB l0 c k = true := by rw [HE.out, hgl]; rfl
          have hS : (getL (L.take c)).isSome = true := by rw [hgl]; rfl
          go_wp2_with fail
          go_at_call 12
          refine (get_calls _ (L.take c) _ HLT.out S0.out).mono ?_
          rintro _ w4 ⟨hu4, ⟨m, v4, _, _, _, rfl, _⟩ | ⟨hm, _⟩⟩
          case inr => rw [hgl] at hm; cases hm
          replace hur2 := hide (hur2.out.trans hu4)
          replace S0 := hide (S0.out.up hu4)
          clear hu4
          go_wp2_with fail
          go_at_call 15
          refine (whole_calls _ (L.take c) _ HLT.out S0.out).mono ?_
          rintro _ w5 ⟨rfl, hu5⟩
          replace hur2 := hide (hur2.out.trans hu5)
          clear hu5
          go_wp2
          go_ret
          exact ⟨rfl, hur2.out⟩
  · replace hu := hide (hu.out.trans hu2)
    clear hu2 V1
    go_wp2
    go_ret
    exact ⟨rfl, hu.out⟩

set_option maxRecDepth 100000 in
theorem codeCuts_lifted (os : Os) (started : os.Started) (H : Type) (enc : TypeId × Value → H) :
    ReturnsInHanded {} Try.checked os 7 .any (Rows.codeCutsSpec.pre6 enc Try.prog Try.f7 Rows.codeCutsRow.domain false) (Rows.codeCutsSpec.post enc Try.prog Try.f7 false true false false) := by
  refine returnsInHanded_of_change (C := Try.checked) codeCuts_own started (by kernel_rfl) Try.func7
    (ChangeSpec.witness6 (enc := enc) (C := Try.checked) false ⟨#[], #[.slice none 0 0, .int .i64 0], []⟩ 8 (by kernel_rfl) (by kernel_rfl) (by kernel_rfl) (by kernel_rfl)) ?_
  intro W base args ds gs before hval0 hW hcnd _
  have hval : ∀ (j : Nat) t v, Try.f7.params[j]? = some t → args[j]? = some v → Value.okWide Try.prog W .any base t v := hval0
  have hW' := hW
  obtain ⟨p, q, hA0, hV, rfl, hfz, hnd⟩ := hW
  have hA : DataW.TrodAll enc Try.prog W 0 (fun _ => true) true Try.f7.params.toList args.toList ds p := hA0
  rw [Try.params7] at hA hval
  obtain ⟨v0, vs0, d0, ds0, p0, q0, hargs, rfl, rfl, h0, r0⟩ := trodAll_cons hA
  obtain ⟨v1, vs1, d1, ds1, p1, q1, rfl, rfl, rfl, h1, r1⟩ := trodAll_cons r0
  obtain ⟨rfl, rfl, rfl⟩ := trodAll_nil r1
  obtain rfl : args = #[v0, v1] := by cases args; simp_all
  obtain ⟨rfl, rfl⟩ := trodVars_none hV
  have y0 := h0
  have lt0 : ∀ x ∈ p0, x.block < W.heap.size := by obtain ⟨m, hm⟩ := y0; exact DataW.trod_lt m _ _ _ hm
  have y1 := h1
  have lt1 : ∀ x ∈ p1, x.block < W.heap.size := by obtain ⟨m, hm⟩ := y1; exact DataW.trod_lt m _ _ _ hm
  obtain ⟨a0, len0, cap0, rfl⟩ := okWide_slice Try.underlying22 (hval 0 22 v0 rfl rfl)
  obtain ⟨l0, w0⟩ := open_values h0
  obtain ⟨a1, rfl, _, _, w1⟩ := open_int Try.underlying3 (hval 1 3 v1 rfl rfl) h1
  clear hA0 hval0
  refine (codeCuts_walk a0 len0 cap0 l0 a1 W w0 w1).mono fun e W' ⟨he, bel⟩ => ?_
  subst he
  exact ⟨_, rfl, _, _, _, [], _, [], hW', trodAll_mk1 (shut_bool Try.underlying4 _), (trodAll_cons_mk (Below.trod codeCuts_laidOut (by kernel_rfl) (of_decide_eq_true (by kernel_rfl)) y0 bel.below lt0) (trodAll_cons_mk (Below.trod codeCuts_laidOut (by kernel_rfl) (of_decide_eq_true (by kernel_rfl)) y1 bel.below lt1) trodAll_mk0)), rfl, bel.below.frame _, fun h => by cases h⟩

theorem codeCuts_over : Rows.codeCutsRow.holds Try.pinned (OpenSpec.ofChange Rows.codeCutsSpec) :=
  OpenClaim.holds_of_wide 7 Try.f7 rfl rfl rfl rfl rfl rfl rfl ⟨rfl, rfl, rfl, rfl, rfl⟩ rfl rfl rfl rfl rfl (by kernel_rfl) Try.func7 (by kernel_rfl)
    (of_decide_eq_true (by kernel_rfl)) (by unfold Func.isWrapper; first | (rw [if_pos (by decide +kernel)]; kernel_rfl) | (rw [if_neg (by decide +kernel)]; exact ⟨rfl, rfl⟩))
    (fun os started H enc _ => codeCuts_lifted os started H enc)

theorem codeCuts_proved : Rows.CodeCutsSaid := codeCuts_over
#print axioms codeCuts_proved
end Go.Proofs.Ytlhaohioolagoaa
