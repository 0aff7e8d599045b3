/-
  For every three small numbers the law SchemaMany returns true: a shape has one to eight fields, a key one to three parts, as the kind of the index says; no condition.
-/
import Derived.Test.YteigjboelhcaiaaRows
import Derived.WalkKit
import Derived.ProofKit
import Derived.OpenShut
import Derived.ShutString
import Derived.ChangeOld
import Derived.Below
import Derived.Carry
import Derived.Test.YteigjboelhcaiaaSchMany
import Derived.Test.YteigjboelhcaiaaOpensF
namespace Go.Proofs.Yteigjboelhcaiaa
open Go.ChangeShapes Go.WideShapes Go.ChangeAt Go.RowKit
open Go.ChangeMaps (open_string shut_string)
set_option linter.unusedVariables false
attribute [local go_sem ↓] Go.wp_at_zero Go.wp_at_succ
attribute [local go_sem] run_store_float

theorem small_mod {a : Int} (m : Nat) (h : (Lit.int IntKind.u8 a).wf = true) (hm : 0 < m) (hm2 : m ≤ 12) : ∃ k : Nat, k < m ∧ wrap64 (a.tmod m) = k := by
  have h := bounds_u8 h
  have h1 : a.tmod m = a % m := Int.tmod_eq_emod_of_nonneg h.1
  have h2 := Int.emod_nonneg a (by omega : (m : Int) ≠ 0)
  have h3 := Int.emod_lt_of_pos a (by omega : (0 : Int) < m)
  refine ⟨(a % m).toNat, by omega, ?_⟩
  rw [h1]
  unfold wrap64
  omega

set_option maxRecDepth 20000 in
set_option maxHeartbeats 8000000 in
theorem schemaMany_core (a0 a1 a2 : Int) (k p q : Nat) (w : World) (hk : k < 12) (hp : p < 6) (hq : q < 7) (ek : wrap64 (a0.tmod 12) = k) (ep : wrap64 (a1.tmod 6) = p) (eq : wrap64 (a2.tmod 7) = q) :
    Calls Try.prog 5 #[.int .u8 a0, .int .u8 a1, .int .u8 a2] w fun e w' => e = .returned (.bool true) ∧ Up w w' := by
  go_enter Try.func5, Try.ntmps5
  go_wp2_with fail
  go_at_call 6
  refine (known_calls _).mono ?_
  rintro _ w1 ⟨rfl, hu1⟩
  replace hu1 := hide hu1
  go_wp2_with fail
  rw [ek, ep]
  go_loopw [9, 10] (fun v i wr => ∃ j : Nat, j ≤ k ∧ i = .int .i64 j ∧ OwnF wr w1.heap.size v (fldsK j) ∧ Up w1 wr) (fun _ i _ => k - (intOf i).toNat)
  case atStart => exact ⟨0, Nat.zero_le _, rfl, OwnG.nil _ _ _ _ _, Up.refl _⟩
  case round =>
    obtain ⟨j, hj, rfl, ho, hu⟩ := hrel
    replace ho := hide ho
    replace hu := hide hu
    by_cases hlt : j < k
    · have t3 : decide ((j : Int) < k) = true := decide_eq_true (by omega)
      have hsl : ∀ W, (Instr.slice 9 (.string ⟨#[97, 98, 99, 100, 101, 102, 103, 104, 105, 106, 107, 108]⟩) (some (.int .i64 (j : Int))) (some (.int .i64 ((j : Int) + 1))) none).run Try.prog W = .ok (.string (letters.extract j (j + 1))) W := fun W => by
        have hz : letters.size = 12 := rfl
        have := run_slice_string (P := Try.prog) W 9 letters .i64 .i64 (j : Int) ((j : Int) + 1) Try.underlying9 (by omega) (by omega) (by omega)
        rw [show ((j : Int) + 1).toNat = j + 1 by omega, Int.toNat_natCast] at this
        exact this
      obtain ⟨x, hx⟩ : ∃ x, x = letters.extract j (j + 1) := ⟨_, rfl⟩
      rw [← hx] at hsl
      replace hx := hide hx
      have hbs := hu.out.size
      go_wp2_with (at_builtin; refine append_field rfl (.tmp 29) (.tmp 35) rfl w1.heap.size _ _ rfl (ho.out.alloc _) _ 1 (x, 3) rfl (field_new (x, 3)) (by rw [fldsK_length]; omega) (Nat.le_trans hbs (by simp)) ?_)
      intro v2 w2 ho2 hg2
      have hu2 : Hid (Up w1 w2) := OwnG.below (hu.out.alloc _) (Nat.le_trans hbs (by simp)) (ho.out.alloc _) hg2
      replace ho2 : Hid (OwnF w2 w1.heap.size v2 (fldsK (j + 1))) := by
        show OwnF _ _ _ _
        rw [fldsK_succ, ← hx.out]; exact ho2
      clear hg2 hsl
      go_wp2
      go_roundw
      case rel => exact ⟨j + 1, by omega, by go_num, ho2.out, hu2.out⟩
      case measure => simp [intOf]; omega
    · obtain rfl : j = k := by omega
      have t3 : decide ((j : Int) < j) = false := decide_eq_false (by omega)
      obtain ⟨a9, c9, rfl, hc9, hm9, HS⟩ := ho.out.slc (z := zeroF) (ok := FitsF) (fun _ => rfl) (fldsK_fits j)
      rw [fldsK_length] at *
      replace HS := hide HS
      replace hu := hide (hu1.out.trans hu.out)
      clear ho hu1 hlt hj
      rename World => wa
      go_wp2_with fail
      rw [eq]
      have hd : (wa.alloc (.cells #[.string ⟨#[120]⟩, .int .i64 ((q : Int) + 1), .slice none 0 0, .int .i64 (-1)] 26)).heap.size = wa.heap.size + 1 := by simp
      go_loopw [12] (fun i wr => ∃ (m : Nat) (v : Value), m ≤ p ∧ i = .int .i64 m ∧ OwnP wr (wa.heap.size + 1) v (prtsK m) ∧ Up wa wr ∧ wa.heap.size + 1 ≤ wr.heap.size ∧ wr.cell? ⟨wa.heap.size, 0, none⟩ = some (.string ⟨#[120]⟩) ∧ wr.cell? ⟨wa.heap.size, 1, none⟩ = some (.int .i64 ((q : Int) + 1)) ∧ wr.cell? ⟨wa.heap.size, 2, none⟩ = some v ∧ wr.cell? ⟨wa.heap.size, 3, none⟩ = some (.int .i64 (-1)) ∧ wr.frozen? ⟨wa.heap.size, 2, none⟩ = false) (fun i _ => p - (intOf i).toNat)
      case atStart => exact ⟨0, _, Nat.zero_le _, rfl, OwnG.nil _ _ _ _ _, (Up.refl _).alloc _, Nat.le_of_eq hd.symm, by go_simp, by go_simp, by go_simp, by go_simp, by go_simp⟩
      case round =>
        obtain ⟨m, v, hm, rfl, ho, huw, hsz, d0, d1, d2, d3, f2⟩ := hrel
        replace huw := hide huw
        replace ho := hide ho
        obtain ⟨a8, c8, rfl, hc8, hm8, HP⟩ := ho.out.slc (z := zeroP) (ok := FitsP) (fun _ => rfl) (prtsK_fits m)
        rw [prtsK_length] at *
        replace HP := hide HP
        by_cases hlt : m < p
        · have t4 : decide ((m : Int) < p) = true := decide_eq_true (by omega)
          have hb : Hid (Below (wa.heap.size + 1) wr (wr.alloc (.cells #[.int .i64 0, .int .i64 0] 52))) := (Below.refl _ _).alloc hsz _
          go_wp2_with (at_builtin; refine append_part rfl (.tmp 48) (.tmp 50) rfl (wa.heap.size + 1) _ _ rfl (ho.out.alloc _) _ 1 (0, 0) rfl (part_new (0, 0)) (by rw [prtsK_length]; omega) (Nat.le_trans hsz (by simp)) ?_)
          intro v2 w2 ho2 hg2
          have hb2 : Below (wa.heap.size + 1) wr w2 := OwnG.below hb.out (Nat.le_trans hsz (by simp)) (ho.out.alloc _) hg2
          rw [← prtsK_succ] at ho2
          obtain ⟨a7, c7, rfl, _, _, _⟩ := ho2.slc (z := zeroP) (ok := FitsP) (fun _ => rfl) (prtsK_fits (m + 1))
          rw [prtsK_length] at *
          replace d0 := (hb2.cell (p := ⟨wa.heap.size, 0, none⟩) (Nat.lt_succ_self _)).trans d0
          replace d1 := (hb2.cell (p := ⟨wa.heap.size, 1, none⟩) (Nat.lt_succ_self _)).trans d1
          replace d2 := (hb2.cell (p := ⟨wa.heap.size, 2, none⟩) (Nat.lt_succ_self _)).trans d2
          replace d3 := (hb2.cell (p := ⟨wa.heap.size, 3, none⟩) (Nat.lt_succ_self _)).trans d3
          replace f2 := (hb2.frozen (p := ⟨wa.heap.size, 2, none⟩) (Nat.lt_succ_self _)).trans f2
          replace hsz := Nat.le_trans hsz hb2.size
          replace huw : Hid (Up wa w2) := Below.trans huw.out.below (Below.mono hb2 (Nat.le_succ _))
          replace ho2 := hide ho2
          clear hg2 hb hb2 ho HP
          go_wp2
          refine ⟨⟨m + 1, _, by omega, by go_num, ownsRow_setCell_below ho2.out (Nat.lt_succ_self _) _, huw.out.setCell (Nat.le_refl _) _, by simpa using hsz, by go_simp, by go_simp, by go_simp, by go_simp, by go_simp⟩, by simp [intOf]; omega⟩
        · obtain rfl : m = p := by omega
          have t4 : decide ((m : Int) < m) = false := decide_eq_false (by omega)
          replace HS := hide (HS.out.up huw.out)
          replace hu := hide (hu.out.trans huw.out)
          have r1 := many_is j hk
          have r2 := many_def j hk m hp q hq
          rw [show (((q + 1 : Nat)) : Int) = (q : Int) + 1 by omega] at r2
          clear huw ho hlt hd f2 hc8 hm8 hm
          by_cases hok : 1 ≤ j ∧ j ≤ 8
          · rw [decide_eq_true hok.1, decide_eq_true hok.2] at r1
            rw [if_pos hok] at r2
            have q1 : decide ((1 : Int) ≤ j) = true := decide_eq_true (by omega)
            have q2 : decide ((j : Int) ≤ 8) = true := decide_eq_true (by omega)
            clear hok
            go_wp2_with fail
            go_at_call 13
            refine (sis_calls _ _ _ (fldsK j) _ hc9 hm9 HS.out).mono ?_
            rintro _ w3 ⟨rfl, hu3⟩
            replace d0 := hu3.cell d0
            replace d1 := hu3.cell d1
            replace d2 := hu3.cell d2
            replace d3 := hu3.cell d3
            replace HS := hide (HS.out.up hu3)
            replace HP := hide (HP.out.up hu3)
            replace hu := hide (hu.out.trans hu3)
            clear hu3
            go_wp2_with fail
            go_at_call 17
            refine (def_calls _ _ _ (fldsK j) _ _ _ _ _ (prtsK m) _ _ _ _ [] _ _ _ [] _ hc9 hm9 (by decide) (by unfold maxLen; omega) HS.out HP.out (slc_nil (.inl rfl) _ _) (slc_nil (.inl rfl) _ _)).mono ?_
            rintro _ w4 ⟨rfl, hu4⟩
            replace d1 := hu4.cell d1
            replace hu := hide (hu.out.trans hu4)
            clear hu4 HS HP d0 d2 d3
            obtain ⟨E, hE⟩ : ∃ E, E = defN (fldsK j) ⟨#[120]⟩ ((q : Int) + 1) (prtsK m) (-1) (([] : List Value).map fnB) (([] : List Value).map fnB) := ⟨_, rfl⟩
            rw [← hE]
            rw [List.map_nil, r2] at hE
            clear r2
            by_cases h1 : q = 4
            · have e5 : ((q : Int) + 1 == 5) = true := by rw [beq_iff_eq]; omega
              have e6 : ((q : Int) + 1 == 6) = false := by rw [beq_eq_false_iff_ne]; omega
              have e7 : ((q : Int) + 1 == 7) = false := by rw [beq_eq_false_iff_ne]; omega
              by_cases hw : m = 0
              · have hB : wantB q m = true := by unfold wantB; simp [h1, hw]
                rw [if_pos hB] at hE
                have z1 : ((m : Int) == 0) = true := by rw [beq_iff_eq]; omega
                clear hB hw h1
                go_wp2
                all_goals go_ret
                all_goals exact ⟨rfl, hu.out⟩
              · have hB : ¬ wantB q m = true := by unfold wantB; simp [h1, hw]
                rw [if_neg hB] at hE
                have z1 : ((m : Int) == 0) = false := by rw [beq_eq_false_iff_ne]; omega
                clear hB hw h1
                go_wp2
                all_goals go_ret
                all_goals exact ⟨rfl, hu.out⟩
            by_cases h2 : q = 5
            · clear h1
              have h1 := h2
              clear h2
              have e5 : ((q : Int) + 1 == 5) = false := by rw [beq_eq_false_iff_ne]; omega
              have e6 : ((q : Int) + 1 == 6) = true := by rw [beq_iff_eq]; omega
              have e7 : ((q : Int) + 1 == 7) = false := by rw [beq_eq_false_iff_ne]; omega
              by_cases hw : m = 0
              · have hB : wantB q m = true := by unfold wantB; simp [h1, hw]
                rw [if_pos hB] at hE
                have z1 : ((m : Int) == 0) = true := by rw [beq_iff_eq]; omega
                clear hB hw h1
                go_wp2
                all_goals go_ret
                all_goals exact ⟨rfl, hu.out⟩
              · have hB : ¬ wantB q m = true := by unfold wantB; simp [h1, hw]
                rw [if_neg hB] at hE
                have z1 : ((m : Int) == 0) = false := by rw [beq_eq_false_iff_ne]; omega
                clear hB hw h1
                go_wp2
                all_goals go_ret
                all_goals exact ⟨rfl, hu.out⟩
            by_cases h3 : q = 6
            · clear h1 h2
              have h1 := h3
              clear h3
              have e5 : ((q : Int) + 1 == 5) = false := by rw [beq_eq_false_iff_ne]; omega
              have e6 : ((q : Int) + 1 == 6) = false := by rw [beq_eq_false_iff_ne]; omega
              have e7 : ((q : Int) + 1 == 7) = true := by rw [beq_iff_eq]; omega
              by_cases hw : m = 1
              · have hB : wantB q m = true := by unfold wantB; simp [h1, hw]
                rw [if_pos hB] at hE
                have z1 : ((m : Int) == 1) = true := by rw [beq_iff_eq]; omega
                clear hB hw h1
                go_wp2
                all_goals go_ret
                all_goals exact ⟨rfl, hu.out⟩
              · have hB : ¬ wantB q m = true := by unfold wantB; simp [h1, hw]
                rw [if_neg hB] at hE
                have z1 : ((m : Int) == 1) = false := by rw [beq_eq_false_iff_ne]; omega
                clear hB hw h1
                go_wp2
                all_goals go_ret
                all_goals exact ⟨rfl, hu.out⟩
            have e5 : ((q : Int) + 1 == 5) = false := by rw [beq_eq_false_iff_ne]; omega
            have e6 : ((q : Int) + 1 == 6) = false := by rw [beq_eq_false_iff_ne]; omega
            have e7 : ((q : Int) + 1 == 7) = false := by rw [beq_eq_false_iff_ne]; omega
            have hB0 : wantB q m = (decide (1 ≤ m) && decide (m ≤ 3)) := by unfold wantB; simp [h1, h2, h3]
            rw [hB0] at hE
            clear h1 h2 h3 hB0
            by_cases g1 : 1 ≤ m
            · have z1 : decide ((1 : Int) ≤ m) = true := decide_eq_true (by omega)
              by_cases g2 : m ≤ 3
              · have z2 : decide ((m : Int) ≤ 3) = true := decide_eq_true (by omega)
                rw [decide_eq_true g1, decide_eq_true g2] at hE
                clear g1 g2
                replace hE : E = 0 := hE
                go_wp2
                all_goals go_ret
                all_goals exact ⟨rfl, hu.out⟩
              · have z2 : decide ((m : Int) ≤ 3) = false := decide_eq_false (by omega)
                rw [decide_eq_true g1, decide_eq_false g2] at hE
                clear g1 g2
                replace hE : E = 82 := hE
                go_wp2
                all_goals go_ret
                all_goals exact ⟨rfl, hu.out⟩
            · have z1 : decide ((1 : Int) ≤ m) = false := decide_eq_false (by omega)
              rw [decide_eq_false g1] at hE
              clear g1
              replace hE : E = 82 := hE
              go_wp2
              all_goals go_ret
              all_goals exact ⟨rfl, hu.out⟩
          · rw [if_neg hok] at r2
            have r3 : isF (fldsK j) = false := by
              rw [r1]
              rcases Classical.not_and_iff_not_or_not.1 hok with h | h
              · rw [decide_eq_false h]; rfl
              · rw [decide_eq_false h, Bool.and_false]
            clear r1
            by_cases h1 : 1 ≤ j
            · have q1 : decide ((1 : Int) ≤ j) = true := decide_eq_true (by omega)
              have q2 : decide ((j : Int) ≤ 8) = false := decide_eq_false (by omega)
              clear hok
              go_wp2_with fail
              go_at_call 13
              refine (sis_calls _ _ _ (fldsK j) _ hc9 hm9 HS.out).mono ?_
              rintro _ w3 ⟨rfl, hu3⟩
              replace d0 := hu3.cell d0
              replace d1 := hu3.cell d1
              replace d2 := hu3.cell d2
              replace d3 := hu3.cell d3
              replace HS := hide (HS.out.up hu3)
              replace HP := hide (HP.out.up hu3)
              replace hu := hide (hu.out.trans hu3)
              clear hu3
              go_wp2_with fail
              go_at_call 17
              refine (def_calls _ _ _ (fldsK j) _ _ _ _ _ (prtsK m) _ _ _ _ [] _ _ _ [] _ hc9 hm9 (by decide) (by unfold maxLen; omega) HS.out HP.out (slc_nil (.inl rfl) _ _) (slc_nil (.inl rfl) _ _)).mono ?_
              rintro _ w4 ⟨rfl, hu4⟩
              replace d1 := hu4.cell d1
              replace hu := hide (hu.out.trans hu4)
              clear hu4 HS HP d0 d2 d3
              rw [List.map_nil, r2]
              clear r2
              go_wp2
              all_goals go_ret
              all_goals exact ⟨rfl, hu.out⟩
            · have q1 : decide ((1 : Int) ≤ j) = false := decide_eq_false (by omega)
              clear hok
              go_wp2_with fail
              go_at_call 13
              refine (sis_calls _ _ _ (fldsK j) _ hc9 hm9 HS.out).mono ?_
              rintro _ w3 ⟨rfl, hu3⟩
              replace d0 := hu3.cell d0
              replace d1 := hu3.cell d1
              replace d2 := hu3.cell d2
              replace d3 := hu3.cell d3
              replace HS := hide (HS.out.up hu3)
              replace HP := hide (HP.out.up hu3)
              replace hu := hide (hu.out.trans hu3)
              clear hu3
              go_wp2_with fail
              go_at_call 17
              refine (def_calls _ _ _ (fldsK j) _ _ _ _ _ (prtsK m) _ _ _ _ [] _ _ _ [] _ hc9 hm9 (by decide) (by unfold maxLen; omega) HS.out HP.out (slc_nil (.inl rfl) _ _) (slc_nil (.inl rfl) _ _)).mono ?_
              rintro _ w4 ⟨rfl, hu4⟩
              replace d1 := hu4.cell d1
              replace hu := hide (hu.out.trans hu4)
              clear hu4 HS HP d0 d2 d3
              rw [List.map_nil, r2]
              clear r2
              go_wp2
              all_goals go_ret
              all_goals exact ⟨rfl, hu.out⟩

theorem schemaMany_own : ownKnob Try.prog.godebug = none := by kernel_rfl
theorem schemaMany_laidOut : laidOutB Try.prog = true := by kernel_rfl

set_option maxHeartbeats 4000000 in
theorem schemaMany_walk (a0 : Int) (a1 : Int) (a2 : Int) (w : World) (w0 : (Lit.int .u8 a0).wf = true) (w1 : (Lit.int .u8 a1).wf = true) (w2 : (Lit.int .u8 a2).wf = true) :
    Calls Try.prog 5 #[.int .u8 a0, .int .u8 a1, .int .u8 a2] w fun e w' => e = .returned (.bool true) ∧ Up w w' := by
  obtain ⟨k, hk, ek⟩ := small_mod 12 w0 (by decide) (by decide)
  obtain ⟨p, hp, ep⟩ := small_mod 6 w1 (by decide) (by decide)
  obtain ⟨q, hq, eq⟩ := small_mod 7 w2 (by decide) (by decide)
  exact schemaMany_core a0 a1 a2 k p q w hk hp hq ek ep eq

set_option maxRecDepth 100000 in
theorem schemaMany_lifted (os : Os) (started : os.Started) (H : Type) (enc : TypeId × Value → H) :
    ReturnsInHanded {} Try.checked os 5 .any (Rows.schemaManySpec.pre6 enc Try.prog Try.f5 Rows.schemaManyRow.domain false) (Rows.schemaManySpec.post enc Try.prog Try.f5 false true false false) := by
  refine returnsInHanded_of_change (C := Try.checked) schemaMany_own started (by kernel_rfl) Try.func5
    (ChangeSpec.witness6 (enc := enc) (C := Try.checked) false ⟨#[], #[.int .u8 0, .int .u8 0, .int .u8 0], []⟩ 8 (by kernel_rfl) (by kernel_rfl) (by kernel_rfl) (by kernel_rfl)) ?_
  intro W base args ds gs before hval0 hW hcnd _
  have hval : ∀ (j : Nat) t v, Try.f5.params[j]? = some t → args[j]? = some v → Value.okWide Try.prog W .any base t v := hval0
  have hW' := hW
  obtain ⟨p, q, hA0, hV, rfl, hfz, hnd⟩ := hW
  have hA : DataW.TrodAll enc Try.prog W 0 (fun _ => true) true Try.f5.params.toList args.toList ds p := hA0
  rw [Try.params5] at hA hval
  obtain ⟨v0, vs0, d0, ds0, p0, q0, hargs, rfl, rfl, h0, r0⟩ := trodAll_cons hA
  obtain ⟨v1, vs1, d1, ds1, p1, q1, rfl, rfl, rfl, h1, r1⟩ := trodAll_cons r0
  obtain ⟨v2, vs2, d2, ds2, p2, q2, rfl, rfl, rfl, h2, r2⟩ := trodAll_cons r1
  obtain ⟨rfl, rfl, rfl⟩ := trodAll_nil r2
  obtain rfl : args = #[v0, v1, v2] := by cases args; simp_all
  obtain ⟨rfl, rfl⟩ := trodVars_none hV
  have y0 := h0
  have lt0 : ∀ x ∈ p0, x.block < W.heap.size := by obtain ⟨m, hm⟩ := y0; exact DataW.trod_lt m _ _ _ hm
  have y1 := h1
  have lt1 : ∀ x ∈ p1, x.block < W.heap.size := by obtain ⟨m, hm⟩ := y1; exact DataW.trod_lt m _ _ _ hm
  have y2 := h2
  have lt2 : ∀ x ∈ p2, x.block < W.heap.size := by obtain ⟨m, hm⟩ := y2; exact DataW.trod_lt m _ _ _ hm
  obtain ⟨a0, rfl, _, _, w0⟩ := open_int Try.underlying5 (hval 0 5 v0 rfl rfl) h0
  obtain ⟨a1, rfl, _, _, w1⟩ := open_int Try.underlying5 (hval 1 5 v1 rfl rfl) h1
  obtain ⟨a2, rfl, _, _, w2⟩ := open_int Try.underlying5 (hval 2 5 v2 rfl rfl) h2
  clear hA0 hval0
  refine (schemaMany_walk a0 a1 a2 W w0 w1 w2).mono fun e W' ⟨he, bel⟩ => ?_
  subst he
  exact ⟨_, rfl, _, _, _, [], _, [], hW', trodAll_mk1 (shut_bool Try.underlying4 _), (trodAll_cons_mk (Below.trod schemaMany_laidOut (by kernel_rfl) (of_decide_eq_true (by kernel_rfl)) y0 bel.below lt0) (trodAll_cons_mk (Below.trod schemaMany_laidOut (by kernel_rfl) (of_decide_eq_true (by kernel_rfl)) y1 bel.below lt1) (trodAll_cons_mk (Below.trod schemaMany_laidOut (by kernel_rfl) (of_decide_eq_true (by kernel_rfl)) y2 bel.below lt2) trodAll_mk0))), rfl, bel.below.frame _, fun h => by cases h⟩

theorem schemaMany_over : Rows.schemaManyRow.holds Try.pinned (OpenSpec.ofChange Rows.schemaManySpec) :=
  OpenClaim.holds_of_wide 5 Try.f5 rfl rfl rfl rfl rfl rfl rfl ⟨rfl, rfl, rfl, rfl, rfl⟩ rfl rfl rfl rfl rfl (by kernel_rfl) Try.func5 (by kernel_rfl)
    (of_decide_eq_true (by kernel_rfl)) (by unfold Func.isWrapper; first | (rw [if_pos (by decide +kernel)]; kernel_rfl) | (rw [if_neg (by decide +kernel)]; exact ⟨rfl, rfl⟩))
    (fun os started H enc _ => schemaMany_lifted os started H enc)

theorem schemaMany_proved : Rows.SchemaManySaid := schemaMany_over
#print axioms schemaMany_proved
end Go.Proofs.Yteigjboelhcaiaa
