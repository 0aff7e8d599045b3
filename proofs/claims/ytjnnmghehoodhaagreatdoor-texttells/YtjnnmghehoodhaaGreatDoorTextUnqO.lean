/-
  What strconv.UnquoteChar answers behind a backslash and a digit from 0 to 7.
-/
import Derived.Test.YtjnnmghehoodhaaGreatDoorTextUnqX
namespace Go.Proofs.YtjnnmghehoodhaaGreatDoor
open Go.ChangeShapes Go.WideShapes Go.ChangeAt Go.RowKit
attribute [local go_sem ↓] Go.wp_at_zero Go.wp_at_succ
set_option linter.unusedVariables false
set_option maxRecDepth 100000

set_option maxHeartbeats 8000000 in
theorem uc_oct48 (t : ByteArray) (h : 1 < t.size) (hm : t.size ≤ 1000000) (h1 : t[0] = 92) (h2 : t[1] = 48) (w : World) (hT : Tabs w) :
    Calls Tryz.prog 84 #[.string t, .int .u8 34] w fun e w' => UcPost t w e w' := by
  obtain ⟨ea, eb, hs⟩ := hT.syn
  have p0 : ((t.size : Int) == 0) = false := by rw [beq_eq_false_iff_ne]; omega
  have q1 : (1 : Int) < (t.size : Int) := by omega
  have q2 : (2 : Int) ≤ (t.size : Int) := by omega
  have hTz := ext_size t 2
  obtain ⟨T, hTe⟩ : ∃ T, t.extract 2 t.size = T := ⟨_, rfl⟩
  rw [hTe] at hTz
  have hTz' : T.size < t.size := by omega
  have HT := hide hTz'
  clear hTz hTz' hT
  by_cases hl : T.size < 2
  · have r1 : (T.size : Int) < 2 := by omega
    go_enter Tryz.func84, Tryz.ntmps84
    go_wp2
    refine bodyPost_ret (results_tmp4 Tryz.results84 _ _ _) rfl ⟨Up.refl _, _, _, _, _, rfl, fun h => (by cases h), .inr ⟨_, _, rfl⟩⟩
  · have r1 : (2 : Int) ≤ (T.size : Int) := by omega
    go_enter Tryz.func84, Tryz.ntmps84
    go_wp2_with fail
    go_loop [7, 17, 18] (fun u v j => ∃ (z : Int) (k : Nat), u = .nilIface ∧ v = .int .i32 z ∧ j = .int .i64 k ∧ k ≤ 2) (fun _ _ j => 2 - (intOf j).toNat)
    case atStart => exact ⟨_, 0, rfl, rfl, rfl, by omega⟩
    case round =>
      obtain ⟨z, k, rfl, rfl, rfl, hk⟩ := hrel
      by_cases hk2 : k < 2
      · have hkT : k < T.size := by omega
        have i1 : (k : Int) < 2 := by omega
        have i2 : (k : Int) < (T.size : Int) := by omega
        have hwr := wrap32 T[k]
        have hlt := (T[k]).toNat_lt
        go_wp2
        all_goals first
          | (refine bodyPost_ret (results_tmp4 Tryz.results84 _ _ _) rfl ⟨Up.refl _, _, _, _, _, rfl, fun h => (by cases h), .inr ⟨_, _, rfl⟩⟩)
          | (exact ⟨⟨_, k + 1, rfl, rfl, by go_num, by omega⟩, by simp [intOf]; omega⟩)
      · obtain rfl : k = 2 := by omega
        go_wp2
        all_goals refine bodyPost_ret (results_tmp4 Tryz.results84 _ _ _) rfl ⟨Up.refl _, _, _, _, _, rfl, fun h => (by cases h), ?_⟩
        all_goals first | exact .inr ⟨_, _, rfl⟩ | (refine .inl ⟨rfl, ?_⟩; have := HT.out; simp only [ByteArray.size_extract]; omega)

set_option maxHeartbeats 8000000 in
theorem uc_oct49 (t : ByteArray) (h : 1 < t.size) (hm : t.size ≤ 1000000) (h1 : t[0] = 92) (h2 : t[1] = 49) (w : World) (hT : Tabs w) :
    Calls Tryz.prog 84 #[.string t, .int .u8 34] w fun e w' => UcPost t w e w' := by
  obtain ⟨ea, eb, hs⟩ := hT.syn
  have p0 : ((t.size : Int) == 0) = false := by rw [beq_eq_false_iff_ne]; omega
  have q1 : (1 : Int) < (t.size : Int) := by omega
  have q2 : (2 : Int) ≤ (t.size : Int) := by omega
  have hTz := ext_size t 2
  obtain ⟨T, hTe⟩ : ∃ T, t.extract 2 t.size = T := ⟨_, rfl⟩
  rw [hTe] at hTz
  have hTz' : T.size < t.size := by omega
  have HT := hide hTz'
  clear hTz hTz' hT
  by_cases hl : T.size < 2
  · have r1 : (T.size : Int) < 2 := by omega
    go_enter Tryz.func84, Tryz.ntmps84
    go_wp2
    refine bodyPost_ret (results_tmp4 Tryz.results84 _ _ _) rfl ⟨Up.refl _, _, _, _, _, rfl, fun h => (by cases h), .inr ⟨_, _, rfl⟩⟩
  · have r1 : (2 : Int) ≤ (T.size : Int) := by omega
    go_enter Tryz.func84, Tryz.ntmps84
    go_wp2_with fail
    go_loop [7, 17, 18] (fun u v j => ∃ (z : Int) (k : Nat), u = .nilIface ∧ v = .int .i32 z ∧ j = .int .i64 k ∧ k ≤ 2) (fun _ _ j => 2 - (intOf j).toNat)
    case atStart => exact ⟨_, 0, rfl, rfl, rfl, by omega⟩
    case round =>
      obtain ⟨z, k, rfl, rfl, rfl, hk⟩ := hrel
      by_cases hk2 : k < 2
      · have hkT : k < T.size := by omega
        have i1 : (k : Int) < 2 := by omega
        have i2 : (k : Int) < (T.size : Int) := by omega
        have hwr := wrap32 T[k]
        have hlt := (T[k]).toNat_lt
        go_wp2
        all_goals first
          | (refine bodyPost_ret (results_tmp4 Tryz.results84 _ _ _) rfl ⟨Up.refl _, _, _, _, _, rfl, fun h => (by cases h), .inr ⟨_, _, rfl⟩⟩)
          | (exact ⟨⟨_, k + 1, rfl, rfl, by go_num, by omega⟩, by simp [intOf]; omega⟩)
      · obtain rfl : k = 2 := by omega
        go_wp2
        all_goals refine bodyPost_ret (results_tmp4 Tryz.results84 _ _ _) rfl ⟨Up.refl _, _, _, _, _, rfl, fun h => (by cases h), ?_⟩
        all_goals first | exact .inr ⟨_, _, rfl⟩ | (refine .inl ⟨rfl, ?_⟩; have := HT.out; simp only [ByteArray.size_extract]; omega)

set_option maxHeartbeats 8000000 in
theorem uc_oct50 (t : ByteArray) (h : 1 < t.size) (hm : t.size ≤ 1000000) (h1 : t[0] = 92) (h2 : t[1] = 50) (w : World) (hT : Tabs w) :
    Calls Tryz.prog 84 #[.string t, .int .u8 34] w fun e w' => UcPost t w e w' := by
  obtain ⟨ea, eb, hs⟩ := hT.syn
  have p0 : ((t.size : Int) == 0) = false := by rw [beq_eq_false_iff_ne]; omega
  have q1 : (1 : Int) < (t.size : Int) := by omega
  have q2 : (2 : Int) ≤ (t.size : Int) := by omega
  have hTz := ext_size t 2
  obtain ⟨T, hTe⟩ : ∃ T, t.extract 2 t.size = T := ⟨_, rfl⟩
  rw [hTe] at hTz
  have hTz' : T.size < t.size := by omega
  have HT := hide hTz'
  clear hTz hTz' hT
  by_cases hl : T.size < 2
  · have r1 : (T.size : Int) < 2 := by omega
    go_enter Tryz.func84, Tryz.ntmps84
    go_wp2
    refine bodyPost_ret (results_tmp4 Tryz.results84 _ _ _) rfl ⟨Up.refl _, _, _, _, _, rfl, fun h => (by cases h), .inr ⟨_, _, rfl⟩⟩
  · have r1 : (2 : Int) ≤ (T.size : Int) := by omega
    go_enter Tryz.func84, Tryz.ntmps84
    go_wp2_with fail
    go_loop [7, 17, 18] (fun u v j => ∃ (z : Int) (k : Nat), u = .nilIface ∧ v = .int .i32 z ∧ j = .int .i64 k ∧ k ≤ 2) (fun _ _ j => 2 - (intOf j).toNat)
    case atStart => exact ⟨_, 0, rfl, rfl, rfl, by omega⟩
    case round =>
      obtain ⟨z, k, rfl, rfl, rfl, hk⟩ := hrel
      by_cases hk2 : k < 2
      · have hkT : k < T.size := by omega
        have i1 : (k : Int) < 2 := by omega
        have i2 : (k : Int) < (T.size : Int) := by omega
        have hwr := wrap32 T[k]
        have hlt := (T[k]).toNat_lt
        go_wp2
        all_goals first
          | (refine bodyPost_ret (results_tmp4 Tryz.results84 _ _ _) rfl ⟨Up.refl _, _, _, _, _, rfl, fun h => (by cases h), .inr ⟨_, _, rfl⟩⟩)
          | (exact ⟨⟨_, k + 1, rfl, rfl, by go_num, by omega⟩, by simp [intOf]; omega⟩)
      · obtain rfl : k = 2 := by omega
        go_wp2
        all_goals refine bodyPost_ret (results_tmp4 Tryz.results84 _ _ _) rfl ⟨Up.refl _, _, _, _, _, rfl, fun h => (by cases h), ?_⟩
        all_goals first | exact .inr ⟨_, _, rfl⟩ | (refine .inl ⟨rfl, ?_⟩; have := HT.out; simp only [ByteArray.size_extract]; omega)

set_option maxHeartbeats 8000000 in
theorem uc_oct51 (t : ByteArray) (h : 1 < t.size) (hm : t.size ≤ 1000000) (h1 : t[0] = 92) (h2 : t[1] = 51) (w : World) (hT : Tabs w) :
    Calls Tryz.prog 84 #[.string t, .int .u8 34] w fun e w' => UcPost t w e w' := by
  obtain ⟨ea, eb, hs⟩ := hT.syn
  have p0 : ((t.size : Int) == 0) = false := by rw [beq_eq_false_iff_ne]; omega
  have q1 : (1 : Int) < (t.size : Int) := by omega
  have q2 : (2 : Int) ≤ (t.size : Int) := by omega
  have hTz := ext_size t 2
  obtain ⟨T, hTe⟩ : ∃ T, t.extract 2 t.size = T := ⟨_, rfl⟩
  rw [hTe] at hTz
  have hTz' : T.size < t.size := by omega
  have HT := hide hTz'
  clear hTz hTz' hT
  by_cases hl : T.size < 2
  · have r1 : (T.size : Int) < 2 := by omega
    go_enter Tryz.func84, Tryz.ntmps84
    go_wp2
    refine bodyPost_ret (results_tmp4 Tryz.results84 _ _ _) rfl ⟨Up.refl _, _, _, _, _, rfl, fun h => (by cases h), .inr ⟨_, _, rfl⟩⟩
  · have r1 : (2 : Int) ≤ (T.size : Int) := by omega
    go_enter Tryz.func84, Tryz.ntmps84
    go_wp2_with fail
    go_loop [7, 17, 18] (fun u v j => ∃ (z : Int) (k : Nat), u = .nilIface ∧ v = .int .i32 z ∧ j = .int .i64 k ∧ k ≤ 2) (fun _ _ j => 2 - (intOf j).toNat)
    case atStart => exact ⟨_, 0, rfl, rfl, rfl, by omega⟩
    case round =>
      obtain ⟨z, k, rfl, rfl, rfl, hk⟩ := hrel
      by_cases hk2 : k < 2
      · have hkT : k < T.size := by omega
        have i1 : (k : Int) < 2 := by omega
        have i2 : (k : Int) < (T.size : Int) := by omega
        have hwr := wrap32 T[k]
        have hlt := (T[k]).toNat_lt
        go_wp2
        all_goals first
          | (refine bodyPost_ret (results_tmp4 Tryz.results84 _ _ _) rfl ⟨Up.refl _, _, _, _, _, rfl, fun h => (by cases h), .inr ⟨_, _, rfl⟩⟩)
          | (exact ⟨⟨_, k + 1, rfl, rfl, by go_num, by omega⟩, by simp [intOf]; omega⟩)
      · obtain rfl : k = 2 := by omega
        go_wp2
        all_goals refine bodyPost_ret (results_tmp4 Tryz.results84 _ _ _) rfl ⟨Up.refl _, _, _, _, _, rfl, fun h => (by cases h), ?_⟩
        all_goals first | exact .inr ⟨_, _, rfl⟩ | (refine .inl ⟨rfl, ?_⟩; have := HT.out; simp only [ByteArray.size_extract]; omega)

set_option maxHeartbeats 8000000 in
theorem uc_oct52 (t : ByteArray) (h : 1 < t.size) (hm : t.size ≤ 1000000) (h1 : t[0] = 92) (h2 : t[1] = 52) (w : World) (hT : Tabs w) :
    Calls Tryz.prog 84 #[.string t, .int .u8 34] w fun e w' => UcPost t w e w' := by
  obtain ⟨ea, eb, hs⟩ := hT.syn
  have p0 : ((t.size : Int) == 0) = false := by rw [beq_eq_false_iff_ne]; omega
  have q1 : (1 : Int) < (t.size : Int) := by omega
  have q2 : (2 : Int) ≤ (t.size : Int) := by omega
  have hTz := ext_size t 2
  obtain ⟨T, hTe⟩ : ∃ T, t.extract 2 t.size = T := ⟨_, rfl⟩
  rw [hTe] at hTz
  have hTz' : T.size < t.size := by omega
  have HT := hide hTz'
  clear hTz hTz' hT
  by_cases hl : T.size < 2
  · have r1 : (T.size : Int) < 2 := by omega
    go_enter Tryz.func84, Tryz.ntmps84
    go_wp2
    refine bodyPost_ret (results_tmp4 Tryz.results84 _ _ _) rfl ⟨Up.refl _, _, _, _, _, rfl, fun h => (by cases h), .inr ⟨_, _, rfl⟩⟩
  · have r1 : (2 : Int) ≤ (T.size : Int) := by omega
    go_enter Tryz.func84, Tryz.ntmps84
    go_wp2_with fail
    go_loop [7, 17, 18] (fun u v j => ∃ (z : Int) (k : Nat), u = .nilIface ∧ v = .int .i32 z ∧ j = .int .i64 k ∧ k ≤ 2) (fun _ _ j => 2 - (intOf j).toNat)
    case atStart => exact ⟨_, 0, rfl, rfl, rfl, by omega⟩
    case round =>
      obtain ⟨z, k, rfl, rfl, rfl, hk⟩ := hrel
      by_cases hk2 : k < 2
      · have hkT : k < T.size := by omega
        have i1 : (k : Int) < 2 := by omega
        have i2 : (k : Int) < (T.size : Int) := by omega
        have hwr := wrap32 T[k]
        have hlt := (T[k]).toNat_lt
        go_wp2
        all_goals first
          | (refine bodyPost_ret (results_tmp4 Tryz.results84 _ _ _) rfl ⟨Up.refl _, _, _, _, _, rfl, fun h => (by cases h), .inr ⟨_, _, rfl⟩⟩)
          | (exact ⟨⟨_, k + 1, rfl, rfl, by go_num, by omega⟩, by simp [intOf]; omega⟩)
      · obtain rfl : k = 2 := by omega
        go_wp2
        all_goals refine bodyPost_ret (results_tmp4 Tryz.results84 _ _ _) rfl ⟨Up.refl _, _, _, _, _, rfl, fun h => (by cases h), ?_⟩
        all_goals first | exact .inr ⟨_, _, rfl⟩ | (refine .inl ⟨rfl, ?_⟩; have := HT.out; simp only [ByteArray.size_extract]; omega)

set_option maxHeartbeats 8000000 in
theorem uc_oct53 (t : ByteArray) (h : 1 < t.size) (hm : t.size ≤ 1000000) (h1 : t[0] = 92) (h2 : t[1] = 53) (w : World) (hT : Tabs w) :
    Calls Tryz.prog 84 #[.string t, .int .u8 34] w fun e w' => UcPost t w e w' := by
  obtain ⟨ea, eb, hs⟩ := hT.syn
  have p0 : ((t.size : Int) == 0) = false := by rw [beq_eq_false_iff_ne]; omega
  have q1 : (1 : Int) < (t.size : Int) := by omega
  have q2 : (2 : Int) ≤ (t.size : Int) := by omega
  have hTz := ext_size t 2
  obtain ⟨T, hTe⟩ : ∃ T, t.extract 2 t.size = T := ⟨_, rfl⟩
  rw [hTe] at hTz
  have hTz' : T.size < t.size := by omega
  have HT := hide hTz'
  clear hTz hTz' hT
  by_cases hl : T.size < 2
  · have r1 : (T.size : Int) < 2 := by omega
    go_enter Tryz.func84, Tryz.ntmps84
    go_wp2
    refine bodyPost_ret (results_tmp4 Tryz.results84 _ _ _) rfl ⟨Up.refl _, _, _, _, _, rfl, fun h => (by cases h), .inr ⟨_, _, rfl⟩⟩
  · have r1 : (2 : Int) ≤ (T.size : Int) := by omega
    go_enter Tryz.func84, Tryz.ntmps84
    go_wp2_with fail
    go_loop [7, 17, 18] (fun u v j => ∃ (z : Int) (k : Nat), u = .nilIface ∧ v = .int .i32 z ∧ j = .int .i64 k ∧ k ≤ 2) (fun _ _ j => 2 - (intOf j).toNat)
    case atStart => exact ⟨_, 0, rfl, rfl, rfl, by omega⟩
    case round =>
      obtain ⟨z, k, rfl, rfl, rfl, hk⟩ := hrel
      by_cases hk2 : k < 2
      · have hkT : k < T.size := by omega
        have i1 : (k : Int) < 2 := by omega
        have i2 : (k : Int) < (T.size : Int) := by omega
        have hwr := wrap32 T[k]
        have hlt := (T[k]).toNat_lt
        go_wp2
        all_goals first
          | (refine bodyPost_ret (results_tmp4 Tryz.results84 _ _ _) rfl ⟨Up.refl _, _, _, _, _, rfl, fun h => (by cases h), .inr ⟨_, _, rfl⟩⟩)
          | (exact ⟨⟨_, k + 1, rfl, rfl, by go_num, by omega⟩, by simp [intOf]; omega⟩)
      · obtain rfl : k = 2 := by omega
        go_wp2
        all_goals refine bodyPost_ret (results_tmp4 Tryz.results84 _ _ _) rfl ⟨Up.refl _, _, _, _, _, rfl, fun h => (by cases h), ?_⟩
        all_goals first | exact .inr ⟨_, _, rfl⟩ | (refine .inl ⟨rfl, ?_⟩; have := HT.out; simp only [ByteArray.size_extract]; omega)

set_option maxHeartbeats 8000000 in
theorem uc_oct54 (t : ByteArray) (h : 1 < t.size) (hm : t.size ≤ 1000000) (h1 : t[0] = 92) (h2 : t[1] = 54) (w : World) (hT : Tabs w) :
    Calls Tryz.prog 84 #[.string t, .int .u8 34] w fun e w' => UcPost t w e w' := by
  obtain ⟨ea, eb, hs⟩ := hT.syn
  have p0 : ((t.size : Int) == 0) = false := by rw [beq_eq_false_iff_ne]; omega
  have q1 : (1 : Int) < (t.size : Int) := by omega
  have q2 : (2 : Int) ≤ (t.size : Int) := by omega
  have hTz := ext_size t 2
  obtain ⟨T, hTe⟩ : ∃ T, t.extract 2 t.size = T := ⟨_, rfl⟩
  rw [hTe] at hTz
  have hTz' : T.size < t.size := by omega
  have HT := hide hTz'
  clear hTz hTz' hT
  by_cases hl : T.size < 2
  · have r1 : (T.size : Int) < 2 := by omega
    go_enter Tryz.func84, Tryz.ntmps84
    go_wp2
    refine bodyPost_ret (results_tmp4 Tryz.results84 _ _ _) rfl ⟨Up.refl _, _, _, _, _, rfl, fun h => (by cases h), .inr ⟨_, _, rfl⟩⟩
  · have r1 : (2 : Int) ≤ (T.size : Int) := by omega
    go_enter Tryz.func84, Tryz.ntmps84
    go_wp2_with fail
    go_loop [7, 17, 18] (fun u v j => ∃ (z : Int) (k : Nat), u = .nilIface ∧ v = .int .i32 z ∧ j = .int .i64 k ∧ k ≤ 2) (fun _ _ j => 2 - (intOf j).toNat)
    case atStart => exact ⟨_, 0, rfl, rfl, rfl, by omega⟩
    case round =>
      obtain ⟨z, k, rfl, rfl, rfl, hk⟩ := hrel
      by_cases hk2 : k < 2
      · have hkT : k < T.size := by omega
        have i1 : (k : Int) < 2 := by omega
        have i2 : (k : Int) < (T.size : Int) := by omega
        have hwr := wrap32 T[k]
        have hlt := (T[k]).toNat_lt
        go_wp2
        all_goals first
          | (refine bodyPost_ret (results_tmp4 Tryz.results84 _ _ _) rfl ⟨Up.refl _, _, _, _, _, rfl, fun h => (by cases h), .inr ⟨_, _, rfl⟩⟩)
          | (exact ⟨⟨_, k + 1, rfl, rfl, by go_num, by omega⟩, by simp [intOf]; omega⟩)
      · obtain rfl : k = 2 := by omega
        go_wp2
        all_goals refine bodyPost_ret (results_tmp4 Tryz.results84 _ _ _) rfl ⟨Up.refl _, _, _, _, _, rfl, fun h => (by cases h), ?_⟩
        all_goals first | exact .inr ⟨_, _, rfl⟩ | (refine .inl ⟨rfl, ?_⟩; have := HT.out; simp only [ByteArray.size_extract]; omega)

set_option maxHeartbeats 8000000 in
theorem uc_oct55 (t : ByteArray) (h : 1 < t.size) (hm : t.size ≤ 1000000) (h1 : t[0] = 92) (h2 : t[1] = 55) (w : World) (hT : Tabs w) :
    Calls Tryz.prog 84 #[.string t, .int .u8 34] w fun e w' => UcPost t w e w' := by
  obtain ⟨ea, eb, hs⟩ := hT.syn
  have p0 : ((t.size : Int) == 0) = false := by rw [beq_eq_false_iff_ne]; omega
  have q1 : (1 : Int) < (t.size : Int) := by omega
  have q2 : (2 : Int) ≤ (t.size : Int) := by omega
  have hTz := ext_size t 2
  obtain ⟨T, hTe⟩ : ∃ T, t.extract 2 t.size = T := ⟨_, rfl⟩
  rw [hTe] at hTz
  have hTz' : T.size < t.size := by omega
  have HT := hide hTz'
  clear hTz hTz' hT
  by_cases hl : T.size < 2
  · have r1 : (T.size : Int) < 2 := by omega
    go_enter Tryz.func84, Tryz.ntmps84
    go_wp2
    refine bodyPost_ret (results_tmp4 Tryz.results84 _ _ _) rfl ⟨Up.refl _, _, _, _, _, rfl, fun h => (by cases h), .inr ⟨_, _, rfl⟩⟩
  · have r1 : (2 : Int) ≤ (T.size : Int) := by omega
    go_enter Tryz.func84, Tryz.ntmps84
    go_wp2_with fail
    go_loop [7, 17, 18] (fun u v j => ∃ (z : Int) (k : Nat), u = .nilIface ∧ v = .int .i32 z ∧ j = .int .i64 k ∧ k ≤ 2) (fun _ _ j => 2 - (intOf j).toNat)
    case atStart => exact ⟨_, 0, rfl, rfl, rfl, by omega⟩
    case round =>
      obtain ⟨z, k, rfl, rfl, rfl, hk⟩ := hrel
      by_cases hk2 : k < 2
      · have hkT : k < T.size := by omega
        have i1 : (k : Int) < 2 := by omega
        have i2 : (k : Int) < (T.size : Int) := by omega
        have hwr := wrap32 T[k]
        have hlt := (T[k]).toNat_lt
        go_wp2
        all_goals first
          | (refine bodyPost_ret (results_tmp4 Tryz.results84 _ _ _) rfl ⟨Up.refl _, _, _, _, _, rfl, fun h => (by cases h), .inr ⟨_, _, rfl⟩⟩)
          | (exact ⟨⟨_, k + 1, rfl, rfl, by go_num, by omega⟩, by simp [intOf]; omega⟩)
      · obtain rfl : k = 2 := by omega
        go_wp2
        all_goals refine bodyPost_ret (results_tmp4 Tryz.results84 _ _ _) rfl ⟨Up.refl _, _, _, _, _, rfl, fun h => (by cases h), ?_⟩
        all_goals first | exact .inr ⟨_, _, rfl⟩ | (refine .inl ⟨rfl, ?_⟩; have := HT.out; simp only [ByteArray.size_extract]; omega)

end Go.Proofs.YtjnnmghehoodhaaGreatDoor
