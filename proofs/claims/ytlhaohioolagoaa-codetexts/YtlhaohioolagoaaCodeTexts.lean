/-
  For every two strings the law CodeTexts returns true: a text's bytes come back, stand as the texts do, and no text's bytes begin another's; no condition.
-/
import Derived.Test.YtlhaohioolagoaaRows
import Derived.WalkKit
import Derived.ProofKit
import Derived.OpenShut
import Derived.ShutString
import Derived.ChangeOld
import Derived.Below
import Derived.Carry
import Derived.Test.YtlhaohioolagoaaCodeKnown
import Derived.Test.YtlhaohioolagoaaCodeMath
namespace Go.Proofs.Ytlhaohioolagoaa
open Go.ChangeShapes Go.WideShapes Go.ChangeAt Go.RowKit
open Go.ChangeMaps (open_string shut_string)
set_option linter.unusedVariables false
attribute [local go_sem ↓] Go.wp_at_zero Go.wp_at_succ
attribute [local go_sem] run_store_float

theorem fits_text {s : ByteArray} (h : s.size ≤ 60) : Fits (4, 0, s, 0) :=
  ⟨(by decide : IntKind.i64.min ≤ 4), (by decide : 4 ≤ IntKind.i64.max), (by decide : IntKind.i64.min ≤ 0), (by decide : 0 ≤ IntKind.i64.max), (by unfold maxLen; show s.size ≤ _; omega), (by decide : 0 < whole)⟩
theorem isB_text {s : ByteArray} (h : s.size ≤ 60) : isB (4, 0, s, 0) = true := by
  simp [isB]; omega
theorem is_text {s : ByteArray} (h : s.size ≤ 60) : [((4 : Int), (0 : Int), s, (0 : Nat))].all isB = true := by
  rw [List.all_cons, isB_text h]; rfl
theorem row_text {v : VT} (h : Fits v) (i : Nat) : Fits ([v].getD i zeroT) := by
  cases i with
  | zero => exact h
  | succ i => simpa using fits_zero
theorem less_text {s t : ByteArray} (hs : s.size ≤ 60) (ht : t.size ≤ 60) :
    Op.bytesLess (putL [((4 : Int), (0 : Int), s, (0 : Nat))]) (putL [((4 : Int), (0 : Int), t, (0 : Nat))]) = Op.bytesLess s.toList t.toList := by
  have ho := putL_order [((4 : Int), (0 : Int), s, (0 : Nat))] [((4 : Int), (0 : Int), t, (0 : Nat))] rfl (row_text (fits_text hs)) (row_text (fits_text ht)) (is_text hs) (is_text ht)
  have hr : rowsV [((4 : Int), (0 : Int), s, (0 : Nat))] [((4 : Int), (0 : Int), t, (0 : Nat))] = cmpS s t := by
    show (if cmpV _ _ = 0 then (0 : Int) else cmpV _ _) = _
    have e : cmpV ((4 : Int), (0 : Int), s, (0 : Nat)) ((4 : Int), (0 : Int), t, (0 : Nat)) = cmpS s t := by
      unfold cmpV
      simp only [cmpI_self, cmpN_eq]
      unfold orI
      simp
      exact fun h => h.symm
    rw [e]
    split <;> omega
  rw [hr] at ho
  rw [cmpB_less, ho, Lib.toList_data, Lib.toList_data, cmpB_less]
  rfl
theorem same_text {s t : ByteArray} (h : s.toList = t.toList) : s = t := by
  rw [Lib.toList_data, Lib.toList_data] at h
  have := Array.toList_inj.1 h
  cases s; cases t; simp_all
theorem put_one (v : VT) : putL [v] = putV v := by simp [putL]
theorem begin_text {s t : ByteArray} (hs : s.size ≤ 60) (ht : t.size ≤ 60) :
    (((putL [((4 : Int), (0 : Int), t, (0 : Nat))]).take (putL [((4 : Int), (0 : Int), s, (0 : Nat))]).length) == putL [((4 : Int), (0 : Int), s, (0 : Nat))]) = (s.toList == t.toList) := by
  rw [put_one, put_one]
  by_cases h : s.toList = t.toList
  · obtain rfl := same_text h
    simp
  · rw [beq_eq_false_iff_ne.2 h]
    refine beq_eq_false_iff_ne.2 fun e => h ?_
    have h1 := takeV_putV ((4 : Int), (0 : Int), s, (0 : Nat)) (isB_text hs) (fits_text hs) ((putV ((4 : Int), (0 : Int), t, (0 : Nat))).drop (putV ((4 : Int), (0 : Int), s, (0 : Nat))).length)
    conv at h1 => lhs; arg 1; lhs; rw [← e]
    rw [List.take_append_drop] at h1
    have h2 := takeV_putV ((4 : Int), (0 : Int), t, (0 : Nat)) (isB_text ht) (fits_text ht) []
    rw [List.append_nil, h1] at h2
    simp only [Option.some.injEq, Prod.mk.injEq] at h2
    rw [h2.1.2.2.1]
theorem longer_text {s t : ByteArray} (h : ¬ (putL [((4 : Int), (0 : Int), s, (0 : Nat))]).length ≤ (putL [((4 : Int), (0 : Int), t, (0 : Nat))]).length) : (s.toList == t.toList) = false := by
  refine beq_eq_false_iff_ne.2 fun e => h ?_
  obtain rfl := same_text e
  exact Nat.le_refl _


theorem codeTexts_own : ownKnob Try.prog.godebug = none := by kernel_rfl
theorem codeTexts_laidOut : laidOutB Try.prog = true := by kernel_rfl

set_option maxHeartbeats 4000000 in
theorem codeTexts_walk (s0 : ByteArray) (s1 : ByteArray) (w : World) (w0 : s0.size ≤ maxLen) (w1 : s1.size ≤ maxLen) :
    Calls Try.prog 6 #[.string s0, .string s1] w fun e w' => e = .returned (.bool true) ∧ Up w w' := by
  clear w0 w1
  go_enter Try.func6, Try.ntmps6
  go_wp2_with fail
  go_at_call 8
  refine (known_calls _).mono ?_
  rintro _ w1 ⟨rfl, hu⟩
  replace hu := hide hu
  by_cases h0 : (60 : Int) < (s0.size : Int)
  · go_wp2
    go_ret
    exact ⟨rfl, hu.out⟩
  by_cases h1 : (60 : Int) < (s1.size : Int)
  · go_wp2
    go_ret
    exact ⟨rfl, hu.out⟩
  have z0 : Hid (s0.size ≤ 60) := hide (by omega)
  have z1 : Hid (s1.size ≤ 60) := hide (by omega)
  have hlt := less_text z0.out z1.out
  have hpre := begin_text z0.out z1.out
  have hlong := longer_text (s := s0) (t := s1)
  have hget := getL_putL [((4 : Int), (0 : Int), s0, (0 : Nat))] (row_text (fits_text z0.out)) (is_text z0.out)
  have q0 := putL_length [((4 : Int), (0 : Int), s0, (0 : Nat))] (fun j hj => good_get (is_text z0.out) hj)
  have p1 : 0 < (putL [((4 : Int), (0 : Int), s1, (0 : Nat))]).length := by rw [put_one]; simp [putV]
  have p0 : 0 < (putL [((4 : Int), (0 : Int), s0, (0 : Nat))]).length := by rw [put_one]; simp [putV]
  obtain ⟨L0, hL0⟩ : ∃ L, L = putL [((4 : Int), (0 : Int), s0, (0 : Nat))] := ⟨_, rfl⟩
  obtain ⟨L1, hL1⟩ : ∃ L, L = putL [((4 : Int), (0 : Int), s1, (0 : Nat))] := ⟨_, rfl⟩
  rw [← hL0, ← hL1] at hlt hpre hlong
  rw [← hL0] at hget q0 p0
  rw [← hL1] at p1
  have HG := hide hget
  replace hL0 := hide hL0
  replace hL1 := hide hL1
  have HL := hide hlong
  have HP := hide hpre
  have Q0 : Hid (L0.length ≤ 1000000) := hide (by simp only [List.length_singleton] at q0; omega)
  have P0 := hide p0
  have P1 := hide p1
  clear hget hlong hpre q0 p0 p1
  go_wp2_with fail
  go_at_call 10
  refine (put_calls _ _ _ _ _ (by decide) (vals_new1 w1 4 0 s0 0 _ (fits_text z0.out))).mono ?_
  intro e2 w2 h2
  obtain ⟨hu2, v2, rfl, ho2⟩ := putPost_good h2 (is_text z0.out)
  rw [← hL0.out] at ho2
  replace hu := hide (hu.out.trans (((Up.refl _).alloc _).trans hu2))
  replace ho2 := hide ho2
  clear h2 hu2
  go_wp2_with fail
  go_at_call 10
  refine (put_calls _ _ _ _ _ (by decide) (vals_new1 w2 4 0 s1 0 _ (fits_text z1.out))).mono ?_
  intro e3 w3 h3
  obtain ⟨hu3, v3, rfl, ho3⟩ := putPost_good h3 (is_text z1.out)
  rw [← hL1.out] at ho3
  have hu23 := ((Up.refl w2).alloc _).trans hu3
  replace hu := hide (hu.out.trans hu23)
  replace ho2 := hide (ho2.out.up hu23)
  replace ho3 := hide ho3
  clear h3 hu3 hu23
  go_wp2_with fail
  go_at_call 12
  refine (get_calls _ L0 _ Q0.out ho2.out.sl).mono ?_
  rintro _ w4 ⟨hu4, ⟨m, v4, hm, hfm, _, rfl, ho4⟩ | ⟨hm, _⟩⟩
  case inr => rw [HG.out] at hm; cases hm
  obtain rfl : [((4 : Int), (0 : Int), s0, (0 : Nat))] = m := by rw [HG.out] at hm; exact Option.some.inj hm
  replace hu := hide (hu.out.trans hu4)
  replace ho2 := hide (ho2.out.up hu4)
  replace ho3 := hide (ho3.out.up hu4)
  obtain ⟨a4, cap4, rfl, _, _, _, hv4, _⟩ := owns_vals ho4 hfm
  obtain ⟨_, _, hv4⟩ := hv4
  rcases hv4 with hv4 | ⟨b4, off4, rfl, hv4⟩
  · cases hv4
  have c4 : w4.cell? ⟨b4, off4 + 2, none⟩ = some (.string s0) := (hv4 0 (by simp)).2.2.1
  have cv2 : ∀ n, (convert 23 9 v2).run Try.prog (w4.drewN n) = .ok (.string ⟨L0.toArray⟩) (w4.drewN n) := fun n => (ho2.out.up ((Up.refl _).drewN n)).conv
  have cv3 : ∀ n, (convert 23 9 v3).run Try.prog (w4.drewN n) = .ok (.string ⟨L1.toArray⟩) (w4.drewN n) := fun n => (ho3.out.up ((Up.refl _).drewN n)).conv
  obtain ⟨a2, cap2, rfl, _⟩ := ho2.out.bts
  obtain ⟨a3, cap3, rfl, hc3, hm3, hb3⟩ := ho3.out.bts
  have HB3 := hide hb3
  obtain ⟨_, hb3⟩ := hb3
  rcases hb3 with hb3 | ⟨b3, off3, rfl, hb3⟩
  · have := P1.out; omega
  clear ho4 hfm hv4 hm hu4
  have hself : (s0.toList == s0.toList) = true := by simp
  go_wp2_with fail
  by_cases hle : (L0.length : Int) ≤ (L1.length : Int)
  · have hpre := HP.out
    have cvt : ∀ n, (convert 23 9 (.slice (some ⟨b3, off3, none⟩) L0.length cap3)).run Try.prog (w4.drewN n) = .ok (.string ⟨(L1.take L0.length).toArray⟩) (w4.drewN n) := fun n => by
      refine conv_bts ⟨by rw [List.length_take]; omega, .inr ⟨b3, off3, rfl, fun i hi => ?_⟩⟩ (fun h => by cases h)
      have := hb3 i (by omega)
      rw [World.cell?_drewN, this, List.getD_eq_getElem?_getD, List.getD_eq_getElem?_getD, List.getElem?_take, if_pos hi]
    have hcap : (L0.length : Int) ≤ (cap3 : Int) := by omega
    have hnn : (0 : Int) ≤ (L0.length : Int) := by omega
    go_quiet (fail)
    go_wp2
    go_ret
    exact ⟨rfl, hu.out.drewN _⟩
  · have hno := HL.out (by omega)
    have hle2 : decide ((L0.length : Int) ≤ (L1.length : Int)) = false := decide_eq_false hle
    go_quiet (fail)
    go_wp2
    go_ret
    exact ⟨rfl, hu.out.drewN _⟩

set_option maxRecDepth 100000 in
theorem codeTexts_lifted (os : Os) (started : os.Started) (H : Type) (enc : TypeId × Value → H) :
    ReturnsInHanded {} Try.checked os 6 .any (Rows.codeTextsSpec.pre6 enc Try.prog Try.f6 Rows.codeTextsRow.domain false) (Rows.codeTextsSpec.post enc Try.prog Try.f6 false true false false) := by
  refine returnsInHanded_of_change (C := Try.checked) codeTexts_own started (by kernel_rfl) Try.func6
    (ChangeSpec.witness6 (enc := enc) (C := Try.checked) false ⟨#[], #[.string ⟨#[]⟩, .string ⟨#[]⟩], []⟩ 8 (by kernel_rfl) (by kernel_rfl) (by kernel_rfl) (by kernel_rfl)) ?_
  intro W base args ds gs before hval0 hW hcnd _
  have hval : ∀ (j : Nat) t v, Try.f6.params[j]? = some t → args[j]? = some v → Value.okWide Try.prog W .any base t v := hval0
  have hW' := hW
  obtain ⟨p, q, hA0, hV, rfl, hfz, hnd⟩ := hW
  have hA : DataW.TrodAll enc Try.prog W 0 (fun _ => true) true Try.f6.params.toList args.toList ds p := hA0
  rw [Try.params6] at hA hval
  obtain ⟨v0, vs0, d0, ds0, p0, q0, hargs, rfl, rfl, h0, r0⟩ := trodAll_cons hA
  obtain ⟨v1, vs1, d1, ds1, p1, q1, rfl, rfl, rfl, h1, r1⟩ := trodAll_cons r0
  obtain ⟨rfl, rfl, rfl⟩ := trodAll_nil r1
  obtain rfl : args = #[v0, v1] := by cases args; simp_all
  obtain ⟨rfl, rfl⟩ := trodVars_none hV
  have y0 := h0
  have lt0 : ∀ x ∈ p0, x.block < W.heap.size := by obtain ⟨m, hm⟩ := y0; exact DataW.trod_lt m _ _ _ hm
  have y1 := h1
  have lt1 : ∀ x ∈ p1, x.block < W.heap.size := by obtain ⟨m, hm⟩ := y1; exact DataW.trod_lt m _ _ _ hm
  obtain ⟨s0, rfl, _, _, w0⟩ := open_string Try.underlying9 (hval 0 9 v0 rfl rfl) h0
  obtain ⟨s1, rfl, _, _, w1⟩ := open_string Try.underlying9 (hval 1 9 v1 rfl rfl) h1
  clear hA0 hval0
  refine (codeTexts_walk s0 s1 W w0 w1).mono fun e W' ⟨he, bel⟩ => ?_
  subst he
  exact ⟨_, rfl, _, _, _, [], _, [], hW', trodAll_mk1 (shut_bool Try.underlying4 _), (trodAll_cons_mk (Below.trod codeTexts_laidOut (by kernel_rfl) (of_decide_eq_true (by kernel_rfl)) y0 bel.below lt0) (trodAll_cons_mk (Below.trod codeTexts_laidOut (by kernel_rfl) (of_decide_eq_true (by kernel_rfl)) y1 bel.below lt1) trodAll_mk0)), rfl, bel.below.frame _, fun h => by cases h⟩

theorem codeTexts_over : Rows.codeTextsRow.holds Try.pinned (OpenSpec.ofChange Rows.codeTextsSpec) :=
  OpenClaim.holds_of_wide 6 Try.f6 rfl rfl rfl rfl rfl rfl rfl ⟨rfl, rfl, rfl, rfl, rfl⟩ rfl rfl rfl rfl rfl (by kernel_rfl) Try.func6 (by kernel_rfl)
    (of_decide_eq_true (by kernel_rfl)) (by unfold Func.isWrapper; first | (rw [if_pos (by decide +kernel)]; kernel_rfl) | (rw [if_neg (by decide +kernel)]; exact ⟨rfl, rfl⟩))
    (fun os started H enc _ => codeTexts_lifted os started H enc)

theorem codeTexts_proved : Rows.CodeTextsSaid := codeTexts_over
#print axioms codeTexts_proved
end Go.Proofs.Ytlhaohioolagoaa
