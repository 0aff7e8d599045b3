/-
  For every value, row and string the law TextTells returns true: they are printed and read as the document says; no condition.
-/
import Derived.Test.YtjnnmghehoodhaaGreatDoorCards
import Derived.Test.YtjnnmghehoodhaaGreatDoorTie
import Derived.Test.YtjnnmghehoodhaaGreatDoorTextLaid
import Derived.WalkKit
import Derived.ProofKit
import Derived.OpenShut
import Derived.ShutString
import Derived.ChangeOld
import Derived.Below
import Derived.Carry
import Derived.Deep.DeepHandedRow
import Derived.Deep.DeepWitnessRowRef
import Derived.SevenTiedAt
import Derived.Test.YtjnnmghehoodhaaGreatDoorTextKnow
import Derived.Test.YtjnnmghehoodhaaGreatDoorValHelp
import Derived.Test.YtjnnmghehoodhaaGreatDoorNewVals
import Derived.Test.YtjnnmghehoodhaaGreatDoorCodeApp
import Derived.Test.YtjnnmghehoodhaaGreatDoorOpens
import Derived.Test.YtjnnmghehoodhaaGreatDoorQuietUp
namespace Go.Proofs.YtjnnmghehoodhaaGreatDoor
open Go.ChangeShapes Go.WideShapes Go.ChangeAt Go.RowKit
open Go.ChangeMaps (open_string shut_string)
set_option linter.unusedVariables false
attribute [local go_sem ↓] Go.wp_at_zero Go.wp_at_succ
attribute [local go_sem] run_store_float

/-- What a text is read as, in one form. -/
def parV (s : List UInt8) : VT := (parT s).getD (0, 0, ⟨#[]⟩, 0)
def parE (s : List UInt8) : Int := match parT s with | some _ => 0 | none => 30
def redV (s : List UInt8) : List VT := (redT s).getD []
def redE (s : List UInt8) : Int := match redT s with | some _ => 0 | none => 30
theorem parV_fits (s : List UInt8) : (parV s).2.2.2 < whole := by
  unfold parV
  cases h : parT s with
  | none => exact (by decide : 0 < whole)
  | some v => exact ((parT_iff _ _).1 h).2.1.2.2.2.2.2
theorem redV_fits (s : List UInt8) : ∀ i, Fits ((redV s).getD i zeroT) := by
  unfold redV
  cases h : redT s with
  | none => intro i; simpa using fits_zero
  | some l =>
    intro i
    have ha := ((redT_iff _ _).1 h).1
    show Fits (l.getD i zeroT)
    by_cases hi : i < l.length
    · rw [List.getD_eq_getElem?_getD, List.getElem?_eq_getElem hi]
      exact (ha _ (List.getElem_mem hi)).2
    · rw [List.getD_eq_getElem?_getD, List.getElem?_eq_none (by omega)]
      exact fits_zero
theorem parse_uni {w w' : World} {s : List UInt8} {e : Ending} (h : ParsePost w s e w') : Up w w' ∧ e = .returned (.tuple #[.agg #[.int .i64 (parV s).1, .int .i64 (parV s).2.1, .string (parV s).2.2.1, .float .f64 (parV s).2.2.2], .int .i64 (parE s)]) := by
  refine ⟨h.1, ?_⟩
  rcases h.2 with ⟨v, hv, rfl⟩ | ⟨hv, rfl⟩
  · unfold parV parE; rw [hv]; rfl
  · unfold parV parE; rw [hv]; rfl
theorem reads_uni {w w' : World} {s : List UInt8} {e : Ending} (h : ReadsPost w s e w') : Up w w' ∧ (redV s).length ≤ s.length ∧ ∃ a c, e = .returned (.tuple #[.slice a (redV s).length c, .int .i64 (redE s)]) ∧ Vals w' a (redV s).length (redV s) := by
  have hf := redV_fits s
  refine ⟨h.1, ?_⟩
  rcases h.2 with ⟨m, v, hm, hl, rfl, ho⟩ | ⟨hm, rfl⟩
  · have e1 : redV s = m := by unfold redV; rw [hm]; rfl
    have e2 : redE s = 0 := by unfold redE; rw [hm]
    rw [e1] at hf ⊢
    rw [e2]
    obtain ⟨a, cap, rfl, _, _, _, hv, _⟩ := owns_vals ho hf
    exact ⟨hl, a, cap, rfl, hv⟩
  · have e1 : redV s = [] := by unfold redV; rw [hm]; rfl
    have e2 : redE s = 30 := by unfold redE; rw [hm]
    rw [e1] at hf ⊢
    rw [e2]
    exact ⟨Nat.zero_le _, none, 0, rfl, rfl, hf, .inl rfl⟩


theorem textTells_own : ownKnob Tryz.prog.godebug = none := by kernel_rfl
theorem textTells_laidOut : laidOutB Tryz.prog = true := by kernel_rfl

set_option maxHeartbeats 4000000 in
theorem textTells_walk (k0 n0 : Int) (s0 : ByteArray) (f0 : Nat) (a1 : Option Addr) (len1 cap1 : Nat) (l1 : List VT) (s2 : ByteArray) (w : World) (w0 : Fits (k0, n0, s0, f0)) (w1 : len1 ≤ maxLen ∧ len1 ≤ cap1 ∧ cap1 ≤ maxLen ∧ Vals w a1 len1 l1) (w2 : s2.size ≤ maxLen) (hT : Tabs w) :
    Calls Tryz.prog 3 #[.agg #[.int .i64 k0, .int .i64 n0, .string s0, .float .f64 f0], .slice a1 len1 cap1, .string s2] w fun e w' => e = .returned (.bool true) ∧ Up w w' := by
  have HT := hide hT
  clear hT
  obtain ⟨hmax1, _, _, hv1⟩ := w1
  have F0 := hide w0
  have V1 := hide hv1
  have NL1 := hide hv1.1
  have FL1 := hide hv1.2.1
  have Z2 := hide w2
  clear hv1 w0 w2
  obtain ⟨W, hW⟩ : ∃ W, w.alloc (.cells #[.int .i64 k0, .int .i64 n0, .string s0, .float .f64 f0] 24) = W := ⟨_, rfl⟩
  have c0 : W.cell? ⟨w.heap.size, 0, none⟩ = some (.int .i64 k0) := by subst hW; simp
  have c1 : W.cell? ⟨w.heap.size, 1, none⟩ = some (.int .i64 n0) := by subst hW; simp
  have c2 : W.cell? ⟨w.heap.size, 2, none⟩ = some (.string s0) := by subst hW; simp
  have c3 : W.cell? ⟨w.heap.size, 3, none⟩ = some (.float .f64 f0) := by subst hW; simp
  have hu : Hid (Up w W) := by subst hW; exact (Up.refl _).alloc _
  go_enter Tryz.func3, Tryz.ntmps3
  go_wp2_with fail
  go_at_call 4
  refine (known4_calls _ (HT.out.up hu.out)).mono ?_
  rintro _ w3 ⟨rfl, hu3⟩
  replace c0 := hu3.cell c0
  replace c1 := hu3.cell c1
  replace c2 := hu3.cell c2
  replace c3 := hu3.cell c3
  replace hu := hide (hu.out.trans hu3)
  replace V1 := hide (V1.out.up hu.out)
  clear hu3 hW
  cases hfew0 : fewB [(k0, n0, s0, f0)] 1
  · go_wp2_with fail
    go_at_call 5
    refine (few_calls _ 1 1 [(k0, n0, s0, f0)] _ _ (by decide) (vals_new1 w3 k0 n0 s0 f0 _ F0.out)).mono ?_
    rintro _ w4 ⟨rfl, rfl⟩
    rw [hfew0]
    go_wp2
    go_ret
    exact ⟨rfl, hu.out.alloc _⟩
  cases hfew1 : fewB l1 12
  · go_wp2_with fail
    go_at_call 5
    refine (few_calls _ 1 1 [(k0, n0, s0, f0)] _ _ (by decide) (vals_new1 w3 k0 n0 s0 f0 _ F0.out)).mono ?_
    rintro _ w4 ⟨rfl, rfl⟩
    rw [hfew0]
    go_wp2_with fail
    go_at_call 5
    refine (few_calls _ _ _ l1 _ _ hmax1 (V1.out.up ((Up.refl _).alloc _))).mono ?_
    rintro _ w4 ⟨rfl, rfl⟩
    rw [hfew1]
    go_wp2
    go_ret
    exact ⟨rfl, hu.out.alloc _⟩
  have ht1 : len1 ≤ 12 := by
    have hf := hfew1
    unfold fewB at hf
    rw [Bool.and_eq_true, decide_eq_true_eq, NL1.out] at hf
    omega
  by_cases h1000 : (1000 : Int) < (s2.size : Int)
  · go_wp2_with fail
    go_at_call 5
    refine (few_calls _ 1 1 [(k0, n0, s0, f0)] _ _ (by decide) (vals_new1 w3 k0 n0 s0 f0 _ F0.out)).mono ?_
    rintro _ w4 ⟨rfl, rfl⟩
    rw [hfew0]
    go_wp2_with fail
    go_at_call 5
    refine (few_calls _ _ _ l1 _ _ hmax1 (V1.out.up ((Up.refl _).alloc _))).mono ?_
    rintro _ w4 ⟨rfl, rfl⟩
    rw [hfew1]
    go_wp2
    go_ret
    exact ⟨rfl, hu.out.alloc _⟩
  have hz : s2.size ≤ 1000000 := by omega
  have P1 := fun W (h : Tabs W) => tprint_calls k0 n0 s0 f0 W F0.out h
  have P2 := fun W => rprint_calls k0 n0 s0 f0 W F0.out
  obtain ⟨P, hP⟩ : ∃ P : ByteArray, P = ⟨(prnV (k0, n0, s0, f0)).toArray⟩ := ⟨_, rfl⟩
  rw [← hP] at P1 P2
  have R1 := fun W (h : Vals W a1 len1 l1) (ht : Tabs W) => trow_calls a1 len1 cap1 l1 W (by omega) h ht
  have R2 := fun W (h : Vals W a1 len1 l1) => rrow_calls a1 len1 cap1 l1 W (by omega) h
  obtain ⟨R, hR⟩ : ∃ R : ByteArray, R = ⟨(rowT l1).toArray⟩ := ⟨_, rfl⟩
  rw [← hR] at R1 R2
  have pself : (P.toList == P.toList) = true := by simp
  have rself : (R.toList == R.toList) = true := by simp
  have T1 := fun W (h : Tabs W) => tparse_calls s2 hz W h
  have T2 := rparse_calls s2 hz
  have E1 := fun W (h : Tabs W) => treads_calls s2 hz W h
  have E2 := rreads_calls s2 hz
  have hzl : s2.data.toList.length = s2.size := by simp
  obtain ⟨⟨xk, xn, xs, xf⟩, hx⟩ : ∃ x, x = parV s2.data.toList := ⟨_, rfl⟩
  obtain ⟨er, her⟩ : ∃ er, er = parE s2.data.toList := ⟨_, rfl⟩
  obtain ⟨lr, hlr⟩ : ∃ lr, lr = redV s2.data.toList := ⟨_, rfl⟩
  obtain ⟨nr, hnr⟩ : ∃ nr, nr = lr.length := ⟨_, rfl⟩
  obtain ⟨fr, hfr⟩ : ∃ fr, fr = redE s2.data.toList := ⟨_, rfl⟩
  have hxf := parV_fits s2.data.toList
  rw [← hx] at hxf
  simp only at hxf
  have U1 : ∀ W, Tabs W → Calls Tryz.prog 10 #[.string s2] W fun e w' => Up W w' ∧ e = .returned (.tuple #[.agg #[.int .i64 xk, .int .i64 xn, .string xs, .float .f64 xf], .int .i64 er]) := fun W ht => (T1 W ht).mono fun _ _ h => by
    have h2 := parse_uni h
    rw [← hx, ← her] at h2
    exact h2
  have U2 : ∀ W, Calls Tryz.prog 11 #[.string s2] W fun e w' => Up W w' ∧ e = .returned (.tuple #[.agg #[.int .i64 xk, .int .i64 xn, .string xs, .float .f64 xf], .int .i64 er]) := fun W => (T2 W).mono fun _ _ h => by
    have h2 := parse_uni h
    rw [← hx, ← her] at h2
    exact h2
  have O1 : ∀ W, Tabs W → Calls Tryz.prog 12 #[.string s2] W fun e w' => Up W w' ∧ nr ≤ 1000000 ∧ ∃ a c, e = .returned (.tuple #[.slice a nr c, .int .i64 fr]) ∧ Vals w' a nr lr := fun W ht => (E1 W ht).mono fun _ _ h => by
    have h2 := reads_uni h
    rw [← hlr, ← hfr, ← hnr] at h2
    exact ⟨h2.1, by omega, h2.2.2⟩
  have O2 : ∀ W, Calls Tryz.prog 13 #[.string s2] W fun e w' => Up W w' ∧ nr ≤ 1000000 ∧ ∃ a c, e = .returned (.tuple #[.slice a nr c, .int .i64 fr]) ∧ Vals w' a nr lr := fun W => (E2 W).mono fun _ _ h => by
    have h2 := reads_uni h
    rw [← hlr, ← hfr, ← hnr] at h2
    exact ⟨h2.1, by omega, h2.2.2⟩
  have hxs : (cmpV (xk, xn, xs, xf) (xk, xn, xs, xf) == 0) = true := by rw [cmpV_self]; rfl
  have hes : (er == er) = true := by simp
  have hfs : (fr == fr) = true := by simp
  clear T1 T2 E1 E2 hx her hlr hnr hfr hzl
  clear hP hR Z2
  go_wp2_with fail
  go_at_call 5
  refine (few_calls _ 1 1 [(k0, n0, s0, f0)] _ _ (by decide) (vals_new1 w3 k0 n0 s0 f0 _ F0.out)).mono ?_
  rintro _ w4 ⟨rfl, rfl⟩
  rw [hfew0]
  go_wp2_with fail
  go_at_call 5
  refine (few_calls _ _ _ l1 _ _ hmax1 (V1.out.up ((Up.refl _).alloc _))).mono ?_
  rintro _ w4 ⟨rfl, rfl⟩
  rw [hfew1]
  have ha := (Up.refl w3).alloc (.cells #[.int .i64 k0, .int .i64 n0, .string s0, .float .f64 f0] 24)
  replace c0 := ha.cell c0
  replace c1 := ha.cell c1
  replace c2 := ha.cell c2
  replace c3 := ha.cell c3
  replace V1 := hide (V1.out.up ha)
  replace hu := hide (hu.out.trans ha)
  generalize w3.alloc (.cells #[.int .i64 k0, .int .i64 n0, .string s0, .float .f64 f0] 24) = w4 at c0 c1 c2 c3 V1 hu ⊢
  clear ha hfew0 hfew1 hmax1
  go_wp2_with fail
  refine region_up (by kernel_rfl) (by kernel_rfl) ?_
  repeat (first
    | go_big_quiet_skip
    | (go_big_quiet_want; go_big_quiet_op; go_big_quiet_on)
    | (go_big_quiet_want
       apply Exists.intro
       refine ⟨fun w' hw' => ?_, ?_⟩
       (skip
        have c0 := hw'.cell c0
        have c1 := hw'.cell c1
        have c2 := hw'.cell c2
        have c3 := hw'.cell c3
        go_simp
        first
        | done
        | with_reducible rfl
        | (go_at_call 6; exact quiet_call hw' (P1 _ (HT.out.up (hu.out.trans hw'))))
        | (go_at_call 7; exact quiet_call hw' (P2 _))
        | (go_at_call 8; exact quiet_call hw' (R1 _ (V1.out.up hw') (HT.out.up (hu.out.trans hw'))))
        | (go_at_call 9; exact quiet_call hw' (R2 _ (V1.out.up hw')))
       )
       go_big_quiet_on
       try simp only [Act.put, List.setIfInBounds_toArray, List.set_cons_zero, List.set_cons_succ]))
  refine wpQuiet_nil ?_
  intro w5 hw5
  replace hu := hide (hu.out.trans hw5)
  clear hw5 P1 P2 R1 R2 c0 c1 c2 c3 V1
  go_wp2_with fail
  go_at_call 10
  refine (U1 _ (HT.out.up hu.out)).mono ?_
  rintro _ w6 ⟨hu6, rfl⟩
  have HA := hide (heap_alloc_new w6 (.cells #[.int .i64 xk, .int .i64 xn, .string xs, .float .f64 xf] 24 (0, 0)))
  replace hu := hide ((hu.out.trans hu6).alloc (.cells #[.int .i64 xk, .int .i64 xn, .string xs, .float .f64 xf] 24))
  clear hu6 U1
  go_wp2_with fail
  go_at_call 11
  refine (U2 _).mono ?_
  rintro _ w7 ⟨hu7, rfl⟩
  have HB := hide (heap_alloc_new w7 (.cells #[.int .i64 xk, .int .i64 xn, .string xs, .float .f64 xf] 24 (0, 0)))
  have up7 := hu7.trans ((Up.refl w7).alloc (.cells #[.int .i64 xk, .int .i64 xn, .string xs, .float .f64 xf] 24))
  replace HA := hide (up7.heap HA.out)
  replace hu := hide (hu.out.trans up7)
  clear hu7 U2 up7
  go_wp2_with fail
  go_at_call 12
  refine (O1 _ (HT.out.up hu.out)).mono ?_
  rintro _ w8 ⟨hu8, hnr, a8, c8, rfl, v8⟩
  replace HA := hide (hu8.heap HA.out)
  replace HB := hide (hu8.heap HB.out)
  replace hu := hide (hu.out.trans hu8)
  have V8 := hide v8
  clear hu8 O1 v8
  go_wp2_with fail
  go_at_call 13
  refine (O2 _).mono ?_
  rintro _ w9 ⟨hu9, _, a9, c9, rfl, v9⟩
  replace HA := hide (hu9.heap HA.out)
  replace HB := hide (hu9.heap HB.out)
  replace hu := hide (hu.out.trans hu9)
  replace V8 := hide (V8.out.up hu9)
  have V9 := hide v9
  have M9 : Hid (nr ≤ maxLen) := hide (by unfold maxLen; omega)
  clear hu9 O2 v9
  have x0 : w9.cell? ⟨w6.heap.size, 0, none⟩ = some (.int .i64 xk) := t_cell HA.out rfl
  have x1 : w9.cell? ⟨w6.heap.size, 1, none⟩ = some (.int .i64 xn) := t_cell HA.out rfl
  have x2 : w9.cell? ⟨w6.heap.size, 2, none⟩ = some (.string xs) := t_cell HA.out rfl
  have x3 : w9.cell? ⟨w6.heap.size, 3, none⟩ = some (.float .f64 xf) := t_cell HA.out rfl
  have y0 : w9.cell? ⟨w7.heap.size, 0, none⟩ = some (.int .i64 xk) := t_cell HB.out rfl
  have y1 : w9.cell? ⟨w7.heap.size, 1, none⟩ = some (.int .i64 xn) := t_cell HB.out rfl
  have y2 : w9.cell? ⟨w7.heap.size, 2, none⟩ = some (.string xs) := t_cell HB.out rfl
  have y3 : w9.cell? ⟨w7.heap.size, 3, none⟩ = some (.float .f64 xf) := t_cell HB.out rfl
  clear HA HB
  go_wp2_with fail
  go_at_call 14
  refine (rvsame_calls _ _ _ _ _ _ _ _ hxf hxf _).mono ?_
  rintro _ w10 ⟨rfl, hu10⟩
  replace hu := hide (hu.out.trans hu10)
  replace V8 := hide (V8.out.up hu10)
  replace V9 := hide (V9.out.up hu10)
  clear hu10 x0 x1 x2 x3 y0 y1 y2 y3
  go_wp2_with fail
  go_at_call 15
  refine (same_calls' _ _ nr _ _ lr _ M9.out V8.out V9.out).mono ?_
  rintro _ w11 ⟨rfl, hu11⟩
  replace hu := hide (hu.out.trans hu11)
  clear hu11
  go_wp2
  go_ret
  exact ⟨rfl, hu.out⟩

theorem textTells_reads (os : Os) (H : Type) (enc : TypeId × Value → H) : ∃ ds places, DataW.whole enc Tryz.prog ((laidPut (World.settled Tryz.prog os).heap.size (World.holding Tryz.prog os laidTwo)).forCall (fun _ _ => 0) ⟨#[], #[.agg #[.int .i64 0, .int .i64 0, .string ⟨#[]⟩, .float .f64 0], .slice none 0 0, .string ⟨#[]⟩], []⟩).memory Tryz.f3.params.toList Rows.textTellsSpec.vars false (#[.agg #[.int .i64 0, .int .i64 0, .string ⟨#[]⟩, .float .f64 0], .slice none 0 0, .string ⟨#[]⟩] : Array Value).toList 8 = some (ds, [], places) :=
  ⟨[.agg [.lit (.int .i64 0), .lit (.int .i64 0), .lit (.string []), .lit (.float .f64 0)], .nil, .lit (.string [])], [], by kernel_rfl⟩

set_option maxRecDepth 100000 in
theorem textTells_lifted (os : Os) (started : os.Started) (H : Type) (enc : TypeId × Value → H) (I : Stop.Interp) :
    ReturnsInHanded {} Tryz.checked os 3 .any ((OpenSpec.ofChange Rows.textTellsSpec).preRow enc Tryz.prog Tryz.f3 Rows.textTellsRow.domain false Rows.textTellsRow.laid) (((OpenSpec.ofChange Rows.textTellsSpec).at I).post enc Tryz.prog Tryz.f3 false true false false) := by
  obtain ⟨ds, places, hx⟩ := textTells_reads os H enc
  refine returnsInHanded_of_row (C := Tryz.checked) (s := OpenSpec.ofChange Rows.textTellsSpec) textTells_own started (by kernel_rfl) Tryz.func3
    (witness_row_atRef (enc := enc) (C := Tryz.checked) false (laidPut (World.settled Tryz.prog os).heap.size (World.holding Tryz.prog os laidTwo)) #[.agg #[.int .i64 0, .int .i64 0, .string ⟨#[]⟩, .float .f64 0], .slice none 0 0, .string ⟨#[]⟩] rfl (by kernel_rfl) (by kernel_rfl) (by kernel_rfl)
      (OpenSpec.preRow_of_cond 8 hx (by kernel_rfl) (fun k hk => by cases hk) (by kernel_rfl) (laid_met os _))) ?_
  clear hx
  intro W base args ds gs before hval0 hW _ _ _ hL hS _
  have hT : Tabs W := tabs_of_laid hL hS
  have hval : ∀ (j : Nat) t v, Tryz.f3.params[j]? = some t → args[j]? = some v → Value.okWide Tryz.prog W .any base t v := hval0
  have hW' := hW
  obtain ⟨p, q, hA0, hV, rfl, hfz, hnd⟩ := hW
  have hA : DataW.TrodAll enc Tryz.prog W 0 (fun _ => true) true Tryz.f3.params.toList args.toList ds p := hA0
  rw [Tryz.params3] at hA hval
  obtain ⟨v0, vs0, d0, ds0, p0, q0, hargs, rfl, rfl, h0, r0⟩ := trodAll_cons hA
  obtain ⟨v1, vs1, d1, ds1, p1, q1, rfl, rfl, rfl, h1, r1⟩ := trodAll_cons r0
  obtain ⟨v2, vs2, d2, ds2, p2, q2, rfl, rfl, rfl, h2, r2⟩ := trodAll_cons r1
  obtain ⟨rfl, rfl, rfl⟩ := trodAll_nil r2
  obtain rfl : args = #[v0, v1, v2] := by cases args; simp_all
  obtain ⟨rfl, rfl⟩ := trodVars_none hV
  have y0 := h0
  have lt0 : ∀ x ∈ p0, x.block < W.heap.size := by obtain ⟨m, hm⟩ := y0; exact DataW.trod_lt m _ _ _ hm
  have y1 := h1
  have lt1 : ∀ x ∈ p1, x.block < W.heap.size := by obtain ⟨m, hm⟩ := y1; exact DataW.trod_lt m _ _ _ hm
  have y2 := h2
  have lt2 : ∀ x ∈ p2, x.block < W.heap.size := by obtain ⟨m, hm⟩ := y2; exact DataW.trod_lt m _ _ _ hm
  obtain ⟨k0, n0, s0, f0, rfl, w0⟩ := open_value (hval 0 24 v0 rfl rfl) h0
  obtain ⟨a1, len1, cap1, rfl⟩ := okWide_slice Tryz.underlying25 (hval 1 25 v1 rfl rfl)
  obtain ⟨l1, w1⟩ := open_values h1
  obtain ⟨s2, rfl, _, _, w2⟩ := open_string Tryz.underlying9 (hval 2 9 v2 rfl rfl) h2
  clear hA0 hval0
  refine (textTells_walk k0 n0 s0 f0 a1 len1 cap1 l1 s2 W w0 w1 w2 hT).mono fun e W' ⟨he, bel⟩ => ?_
  subst he
  exact ⟨_, rfl, _, _, _, [], _, [], hW', trodAll_mk1 (shut_bool Tryz.underlying4 _), (trodAll_cons_mk (Below.trod textTells_laidOut (by kernel_rfl) (of_decide_eq_true (by kernel_rfl)) y0 bel.below lt0) (trodAll_cons_mk (Below.trod textTells_laidOut (by kernel_rfl) (of_decide_eq_true (by kernel_rfl)) y1 bel.below lt1) (trodAll_cons_mk (Below.trod textTells_laidOut (by kernel_rfl) (of_decide_eq_true (by kernel_rfl)) y2 bel.below lt2) trodAll_mk0))), rfl, bel.below.frame _, fun h => by cases h⟩

theorem textTells_said : Rows.TextTellsSaid :=
  OpenClaim.holds_of_cond 3 Tryz.f3 rfl rfl rfl rfl rfl rfl rfl ⟨rfl, rfl, rfl, rfl, rfl⟩ rfl rfl rfl rfl rfl (by kernel_rfl) Tryz.func3 (by kernel_rfl)
    (of_decide_eq_true (by kernel_rfl)) (by unfold Func.isWrapper; first | (rw [if_pos (by decide +kernel)]; kernel_rfl) | (rw [if_neg (by decide +kernel)]; exact ⟨rfl, rfl⟩))
    (fun os started H enc _ I => by rw [OpenClaim.pre_eq_preRow]; exact textTells_lifted os started H enc I)

theorem textTells_plain (f : FuncId) (fn : Func) (hf : Tryz.pinned.checked.prog.funcNamed "rialto/rialtolaw4.TextTells" = some f) (hfn : Tryz.pinned.checked.prog.funcs[f]? = some fn) :
    true = Tryz.pinned.checked.prog.looks [] ∧ ∀ (j : Nat) t, fn.params[j]? = some t → Tryz.pinned.checked.prog.wantsStandIn t = false := by
  obtain rfl : f = 3 := Option.some.inj ((show Tryz.prog.funcNamed "rialto/rialtolaw4.TextTells" = some 3 by kernel_rfl).symm.trans hf) |>.symm
  obtain rfl : fn = Tryz.f3 := (Option.some.inj (Tryz.func3.symm.trans hfn)).symm
  refine ⟨by kernel_rfl, fun j t ht => ?_⟩
  rw [Tryz.params3] at ht
  have hm := Array.mem_of_getElem? ht
  simp only [List.mem_toArray, List.mem_cons, List.not_mem_nil, or_false] at hm
  rcases hm with rfl | rfl | rfl
  · exact (show Tryz.prog.wantsStandIn 24 = false by kernel_rfl)
  · exact (show Tryz.prog.wantsStandIn 25 = false by kernel_rfl)
  · exact (show Tryz.prog.wantsStandIn 9 = false by kernel_rfl)

theorem textTells_proved : Rows.TextTellsCardSaid :=
  Claim7.holds_tied_plain_at .later [] _ _ _ _ textTells_said (fun _ h => by cases h) (by kernel_rfl) (fun _ h => by cases h) textTells_row_tie rfl ⟨rfl, rfl⟩ (by kernel_rfl) rfl textTells_plain (by kernel_rfl)
#print axioms textTells_proved
end Go.Proofs.YtjnnmghehoodhaaGreatDoor
