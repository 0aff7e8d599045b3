/-
  What strconv.UnquoteChar answers behind a backslash and x, u or U.
-/
import Derived.Test.YtjnnmghehoodhaaGreatDoorTextUnq
namespace Go.Proofs.YtjnnmghehoodhaaGreatDoor
open Go.ChangeShapes Go.WideShapes Go.ChangeAt Go.RowKit
attribute [local go_sem ↓] Go.wp_at_zero Go.wp_at_succ
set_option linter.unusedVariables false
set_option maxRecDepth 100000

theorem rune_range {z : Int} (h : Go.Lib.validRune z = true) : 0 ≤ z ∧ z ≤ 2147483647 := by
  unfold Go.Lib.validRune at h
  simp at h
  omega
theorem or16 : ∀ x y : Fin 16, bits .or .i32 (RowKit.wrap32 ((x.val : Int) * 16)) (y.val : Int) = ((16 * x.val + y.val : Nat) : Int) := by decide +kernel
theorem or16_nat {x y : Nat} (hx : x < 16) (hy : y < 16) : bits .or .i32 (RowKit.wrap32 ((x : Int) * 16)) (y : Int) = ((16 * x + y : Nat) : Int) := or16 ⟨x, hx⟩ ⟨y, hy⟩
theorem or16w : ∀ x y : Fin 16, bits .or .i32 ((x.val : Int) * 16) (y.val : Int) = ((16 * x.val + y.val : Nat) : Int) := by decide +kernel
theorem or16_plain {x y : Nat} (hx : x < 16) (hy : y < 16) : bits .or .i32 ((x : Int) * 16) (y : Int) = ((16 * x + y : Nat) : Int) := or16w ⟨x, hx⟩ ⟨y, hy⟩
theorem or16_zero {y : Nat} (hy : y < 16) : bits .or .i32 (RowKit.wrap32 0) (y : Int) = (y : Int) := by
  have := or16_nat (x := 0) (by omega) hy
  simpa using this

set_option maxHeartbeats 4000000 in
theorem uc_x (t : ByteArray) (h : 1 < t.size) (hm : t.size ≤ 1000000) (h1 : t[0] = 92) (h2 : t[1] = 120) (w : World) (hT : Tabs w) :
    Calls Tryz.prog 84 #[.string t, .int .u8 34] w fun e w' => UcPost t w e w' := by
  obtain ⟨ea, eb, hs⟩ := hT.syn
  have p0 : ((t.size : Int) == 0) = false := by rw [beq_eq_false_iff_ne]; omega
  have q1 : (1 : Int) < (t.size : Int) := by omega
  have q2 : (2 : Int) ≤ (t.size : Int) := by omega
  have hTz := ext_size t 2
  obtain ⟨T, hTe⟩ : ∃ T, t.extract 2 t.size = T := ⟨_, rfl⟩
  rw [hTe] at hTz
  have hTz' : T.size < t.size := by omega
  have HT := hide hTz'
  clear hTz hTz' hT
  by_cases hl : T.size < 2
  · have r1 : (T.size : Int) < 2 := by omega
    go_enter Tryz.func84, Tryz.ntmps84
    go_wp2
    refine bodyPost_ret (results_tmp4 Tryz.results84 _ _ _) rfl ⟨Up.refl _, _, _, _, _, rfl, fun h => (by cases h), .inr ⟨_, _, rfl⟩⟩
  · have r1 : (2 : Int) ≤ (T.size : Int) := by omega
    go_enter Tryz.func84, Tryz.ntmps84
    go_wp2_with fail
    go_loop [7, 13, 14] (fun u v j => ∃ (z : Int) (k : Nat), u = .nilIface ∧ v = .int .i32 z ∧ j = .int .i64 k ∧ k ≤ 2) (fun _ _ j => 2 - (intOf j).toNat)
    case atStart => exact ⟨0, 0, rfl, rfl, rfl, by omega⟩
    case round =>
      obtain ⟨z, k, rfl, rfl, rfl, hk⟩ := hrel
      by_cases hk2 : k < 2
      · have hkT : k < T.size := by omega
        have i1 : (k : Int) < 2 := by omega
        have i2 : (k : Int) < (T.size : Int) := by omega
        go_wp2_with fail
        go_at_call 97
        refine (unhex_calls _ _).mono ?_
        rintro _ w1 ⟨x, b, rfl, hw1, _, _, _⟩
        obtain rfl : w = w1 := hw1.symm
        cases b with
        | false =>
          go_wp2
          refine bodyPost_ret (results_tmp4 Tryz.results84 _ _ _) rfl ⟨Up.refl _, _, _, _, _, rfl, fun h => (by cases h), .inr ⟨_, _, rfl⟩⟩
        | true =>
          go_wp2
          exact ⟨⟨_, k + 1, rfl, rfl, by go_num, by omega⟩, by simp [intOf]; omega⟩
      · obtain rfl : k = 2 := by omega
        go_wp2
        refine bodyPost_ret (results_tmp4 Tryz.results84 _ _ _) rfl ⟨Up.refl _, _, _, _, _, rfl, fun h => (by cases h), .inl ⟨rfl, ?_⟩⟩
        have := HT.out
        simp only [ByteArray.size_extract]
        omega

set_option maxHeartbeats 4000000 in
theorem uc_u4 (t : ByteArray) (h : 1 < t.size) (hm : t.size ≤ 1000000) (h1 : t[0] = 92) (h2 : t[1] = 117) (w : World) (hT : Tabs w) :
    Calls Tryz.prog 84 #[.string t, .int .u8 34] w fun e w' => UcPost t w e w' := by
  obtain ⟨ea, eb, hs⟩ := hT.syn
  have p0 : ((t.size : Int) == 0) = false := by rw [beq_eq_false_iff_ne]; omega
  have q1 : (1 : Int) < (t.size : Int) := by omega
  have q2 : (2 : Int) ≤ (t.size : Int) := by omega
  have hTz := ext_size t 2
  obtain ⟨T, hTe⟩ : ∃ T, t.extract 2 t.size = T := ⟨_, rfl⟩
  rw [hTe] at hTz
  have hTz' : T.size < t.size := by omega
  have HT := hide hTz'
  clear hTz hTz' hT
  by_cases hl : T.size < 4
  · have r1 : (T.size : Int) < 4 := by omega
    go_enter Tryz.func84, Tryz.ntmps84
    go_wp2
    refine bodyPost_ret (results_tmp4 Tryz.results84 _ _ _) rfl ⟨Up.refl _, _, _, _, _, rfl, fun h => (by cases h), .inr ⟨_, _, rfl⟩⟩
  · have r1 : (4 : Int) ≤ (T.size : Int) := by omega
    go_enter Tryz.func84, Tryz.ntmps84
    go_wp2_with fail
    go_loop [7, 13, 14] (fun u v j => ∃ (z : Int) (k : Nat), u = .nilIface ∧ v = .int .i32 z ∧ j = .int .i64 k ∧ k ≤ 4) (fun _ _ j => 4 - (intOf j).toNat)
    case atStart => exact ⟨0, 0, rfl, rfl, rfl, by omega⟩
    case round =>
      obtain ⟨z, k, rfl, rfl, rfl, hk⟩ := hrel
      by_cases hk2 : k < 4
      · have hkT : k < T.size := by omega
        have i1 : (k : Int) < 4 := by omega
        have i2 : (k : Int) < (T.size : Int) := by omega
        go_wp2_with fail
        go_at_call 97
        refine (unhex_calls _ _).mono ?_
        rintro _ w1 ⟨x, b, rfl, hw1, _, _, _⟩
        obtain rfl : w = w1 := hw1.symm
        cases b with
        | false =>
          go_wp2
          refine bodyPost_ret (results_tmp4 Tryz.results84 _ _ _) rfl ⟨Up.refl _, _, _, _, _, rfl, fun h => (by cases h), .inr ⟨_, _, rfl⟩⟩
        | true =>
          go_wp2
          exact ⟨⟨_, k + 1, rfl, rfl, by go_num, by omega⟩, by simp [intOf]; omega⟩
      · obtain rfl : k = 4 := by omega
        go_wp2_with fail
        go_at_call 98
        refine (Tryz.utf8_ValidRune z _).mono ?_
        rintro _ w1 ⟨rfl, hw1⟩
        obtain rfl : w = w1 := hw1.symm
        cases hv : Go.Lib.validRune z with
        | false =>
          go_wp2
          refine bodyPost_ret (results_tmp4 Tryz.results84 _ _ _) rfl ⟨Up.refl _, _, _, _, _, rfl, fun h => (by cases h), .inr ⟨_, _, rfl⟩⟩
        | true =>
          have HV := hide (rune_range hv)
          clear hv
          go_wp2
          refine bodyPost_ret (results_tmp4 Tryz.results84 _ _ _) rfl ⟨Up.refl _, _, _, _, _, rfl, fun _ => HV.out, .inl ⟨rfl, ?_⟩⟩
          have := HT.out
          simp only [ByteArray.size_extract]
          omega

set_option maxHeartbeats 4000000 in
theorem uc_u8 (t : ByteArray) (h : 1 < t.size) (hm : t.size ≤ 1000000) (h1 : t[0] = 92) (h2 : t[1] = 85) (w : World) (hT : Tabs w) :
    Calls Tryz.prog 84 #[.string t, .int .u8 34] w fun e w' => UcPost t w e w' := by
  obtain ⟨ea, eb, hs⟩ := hT.syn
  have p0 : ((t.size : Int) == 0) = false := by rw [beq_eq_false_iff_ne]; omega
  have q1 : (1 : Int) < (t.size : Int) := by omega
  have q2 : (2 : Int) ≤ (t.size : Int) := by omega
  have hTz := ext_size t 2
  obtain ⟨T, hTe⟩ : ∃ T, t.extract 2 t.size = T := ⟨_, rfl⟩
  rw [hTe] at hTz
  have hTz' : T.size < t.size := by omega
  have HT := hide hTz'
  clear hTz hTz' hT
  by_cases hl : T.size < 8
  · have r1 : (T.size : Int) < 8 := by omega
    go_enter Tryz.func84, Tryz.ntmps84
    go_wp2
    refine bodyPost_ret (results_tmp4 Tryz.results84 _ _ _) rfl ⟨Up.refl _, _, _, _, _, rfl, fun h => (by cases h), .inr ⟨_, _, rfl⟩⟩
  · have r1 : (8 : Int) ≤ (T.size : Int) := by omega
    go_enter Tryz.func84, Tryz.ntmps84
    go_wp2_with fail
    go_loop [7, 13, 14] (fun u v j => ∃ (z : Int) (k : Nat), u = .nilIface ∧ v = .int .i32 z ∧ j = .int .i64 k ∧ k ≤ 8) (fun _ _ j => 8 - (intOf j).toNat)
    case atStart => exact ⟨0, 0, rfl, rfl, rfl, by omega⟩
    case round =>
      obtain ⟨z, k, rfl, rfl, rfl, hk⟩ := hrel
      by_cases hk2 : k < 8
      · have hkT : k < T.size := by omega
        have i1 : (k : Int) < 8 := by omega
        have i2 : (k : Int) < (T.size : Int) := by omega
        go_wp2_with fail
        go_at_call 97
        refine (unhex_calls _ _).mono ?_
        rintro _ w1 ⟨x, b, rfl, hw1, _, _, _⟩
        obtain rfl : w = w1 := hw1.symm
        cases b with
        | false =>
          go_wp2
          refine bodyPost_ret (results_tmp4 Tryz.results84 _ _ _) rfl ⟨Up.refl _, _, _, _, _, rfl, fun h => (by cases h), .inr ⟨_, _, rfl⟩⟩
        | true =>
          go_wp2
          exact ⟨⟨_, k + 1, rfl, rfl, by go_num, by omega⟩, by simp [intOf]; omega⟩
      · obtain rfl : k = 8 := by omega
        go_wp2_with fail
        go_at_call 98
        refine (Tryz.utf8_ValidRune z _).mono ?_
        rintro _ w1 ⟨rfl, hw1⟩
        obtain rfl : w = w1 := hw1.symm
        cases hv : Go.Lib.validRune z with
        | false =>
          go_wp2
          refine bodyPost_ret (results_tmp4 Tryz.results84 _ _ _) rfl ⟨Up.refl _, _, _, _, _, rfl, fun h => (by cases h), .inr ⟨_, _, rfl⟩⟩
        | true =>
          have HV := hide (rune_range hv)
          clear hv
          go_wp2
          refine bodyPost_ret (results_tmp4 Tryz.results84 _ _ _) rfl ⟨Up.refl _, _, _, _, _, rfl, fun _ => HV.out, .inl ⟨rfl, ?_⟩⟩
          have := HT.out
          simp only [ByteArray.size_extract]
          omega

set_option maxHeartbeats 4000000 in
/-- A byte as two digits of sixteen. -/
theorem uc_hex (t : ByteArray) (x y : Nat) (hx : x < 16) (hy : y < 16) (h : 3 < t.size) (hm : t.size ≤ 1000000) (h1 : t[0] = 92) (h2 : t[1] = 120) (h3 : t[2] = hexD x) (h4 : t[3] = hexD y) (w : World) :
    Calls Tryz.prog 84 #[.string t, .int .u8 34] w fun e w' => e = .returned (.tuple #[.int .i32 ((16 * x + y : Nat) : Int), .bool false, .string (t.extract 4 t.size), .nilIface]) ∧ Up w w' := by
  have p0 : ((t.size : Int) == 0) = false := by rw [beq_eq_false_iff_ne]; omega
  have q1 : (1 : Int) < (t.size : Int) := by omega
  have q2 : (2 : Int) ≤ (t.size : Int) := by omega
  have hTz := ext_size t 2
  have hex2 : (t.extract 2 t.size).extract 2 (t.extract 2 t.size).size = t.extract 4 t.size := by
    rw [ByteArray.extract_extract, hTz]
    congr 1
    omega
  have e0 : ∀ (h' : 0 < (t.extract 2 t.size).size), (t.extract 2 t.size)[0] = hexD x := by intro h'; rw [ByteArray.getElem_extract]; exact h3
  have e1 : ∀ (h' : 1 < (t.extract 2 t.size).size), (t.extract 2 t.size)[1] = hexD y := by intro h'; rw [ByteArray.getElem_extract]; exact h4
  obtain ⟨T, hTe⟩ : ∃ T, t.extract 2 t.size = T := ⟨_, rfl⟩
  rw [hTe] at hTz e0 e1
  rw [hTe] at hex2
  have r1 : (2 : Int) ≤ (T.size : Int) := by omega
  have hT0 : 0 < T.size := by omega
  have hT1 : 1 < T.size := by omega
  replace e0 := e0 hT0
  replace e1 := e1 hT1
  have HX := hide hex2
  clear hTz hex2 h3 h4
  go_enter Tryz.func84, Tryz.ntmps84
  go_wp2_with fail
  go_loop [7, 13, 14] (fun u v j => u = .nilIface ∧ ((v = .int .i32 0 ∧ j = .int .i64 0) ∨ (v = .int .i32 (x : Int) ∧ j = .int .i64 1) ∨ (v = .int .i32 ((16 * x + y : Nat) : Int) ∧ j = .int .i64 2))) (fun _ _ j => 2 - (intOf j).toNat)
  case atStart => exact ⟨rfl, .inl ⟨rfl, rfl⟩⟩
  case round =>
    obtain ⟨rfl, ⟨rfl, rfl⟩ | ⟨rfl, rfl⟩ | ⟨rfl, rfl⟩⟩ := hrel
    · have hz := or16_zero hx
      go_wp2_with fail
      go_at_call 97
      refine (unhex_calls _ _).mono ?_
      rintro _ w1 ⟨z, b, rfl, hw1, hb, _, _⟩
      obtain rfl : w = w1 := hw1.symm
      obtain ⟨rfl, rfl⟩ := hb x hx rfl
      go_wp2
      exact ⟨⟨rfl, .inr (.inl ⟨by first | rfl | exact congrArg _ hz | (congr 1; omega) | simp [hz], rfl⟩)⟩, by simp [intOf]⟩
    · have hz := or16_plain hx hy
      go_wp2_with fail
      go_at_call 97
      refine (unhex_calls _ _).mono ?_
      rintro _ w1 ⟨z, b, rfl, hw1, hb, _, _⟩
      obtain rfl : w = w1 := hw1.symm
      obtain ⟨rfl, rfl⟩ := hb y hy rfl
      go_wp2
      exact ⟨⟨rfl, .inr (.inr ⟨by first | rfl | exact congrArg _ hz | (congr 1; omega) | simp [hz], rfl⟩)⟩, by simp [intOf]⟩
    · go_wp2
      refine bodyPost_ret (results_tmp4 Tryz.results84 _ _ _) rfl ⟨?_, Up.refl _⟩
      rw [← HX.out]
      rfl

end Go.Proofs.YtjnnmghehoodhaaGreatDoor
