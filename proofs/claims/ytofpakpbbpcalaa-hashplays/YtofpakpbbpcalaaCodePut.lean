/-
  What the writers of package code answer (putWord, putString, putValue, Put), as their text runs.
-/
import Derived.Test.YtofpakpbbpcalaaBytes
import Derived.Test.YtofpakpbbpcalaaCodeModel
import Derived.Test.YtofpakpbbpcalaaValIs
namespace Go.Proofs.Ytofpakpbbpcalaa
open Go.ChangeShapes Go.WideShapes Go.ChangeAt Go.RowKit
attribute [local go_sem ↓] Go.wp_at_zero Go.wp_at_succ
attribute [local go_sem] run_store_float

theorem eight_cases {k : Nat} (h : k < 8) : k = 0 ∨ k = 1 ∨ k = 2 ∨ k = 3 ∨ k = 4 ∨ k = 5 ∨ k = 6 ∨ k = 7 := by omega

theorem byteOf_int1 (x : Nat) : (x : Int) % 256 = ((byteOf x 1).toNat : Int) := by
  have := byteOf_int x 1
  simpa using this

set_option maxHeartbeats 4000000 in
theorem putWord_calls (base : Nat) (v : Value) (l : List UInt8) (x : Nat) (w : World) (hown : Own w base v l) (hb : base ≤ w.heap.size) (hlen : l.length ≤ 1000000) :
    Calls Try.prog 59 #[v, .int .u64 (x : Int)] w fun e w' => ∃ v', e = .returned v' ∧ Own w' base v' (l ++ wordL x) ∧ Below base w w' := by
  have hsg : IntKind.u64.signed = false := rfl
  have HO := hide hown
  clear hown
  go_enter Try.func59, Try.ntmps59
  go_wp2_with fail
  go_loopw [0, 5] (fun u i wr => ∃ k : Nat, k ≤ 8 ∧ i = .int .i64 (7 - (k : Int)) ∧ Own wr base u (l ++ (wordL x).take k) ∧ Below base w wr) (fun _ i _ => (intOf i + 1).toNat)
  case atStart => exact ⟨0, Nat.zero_le _, rfl, by simpa using HO.out, Below.refl _ _⟩
  case round =>
    obtain ⟨k, hk, rfl, ho, hbel⟩ := hrel
    have hbs := Nat.le_trans hb hbel.size
    by_cases hlt : k < 8
    · have hl2 : (l ++ (wordL x).take k).length + 1 ≤ 1000000000000 := by simp [wordL]; omega
      rcases eight_cases hlt with rfl | rfl | rfl | rfl | rfl | rfl | rfl | rfl
      · go_wp2_with (at_builtin; refine append_bytes rfl _ _ rfl base _ _ rfl (ho.alloc _) _ 1 1 [byteOf x 72057594037927936] rfl rfl (byte_new (byteOf_int x 72057594037927936)) hl2 (Nat.le_trans hbs (by simp)) ?_)
        intro u1 w1 ho1 hg1
        have hb1 := hide (below_append hbel hbs ho hg1)
        replace ho1 := hide ho1
        clear hg1 ho hl2 hbs hbel
        go_wp2
        go_roundw
        case rel => exact ⟨1, by omega, rfl, by simpa [wordL] using ho1.out, hb1.out⟩
        case measure => simp [intOf]
      · go_wp2_with (at_builtin; refine append_bytes rfl _ _ rfl base _ _ rfl (ho.alloc _) _ 1 1 [byteOf x 281474976710656] rfl rfl (byte_new (byteOf_int x 281474976710656)) hl2 (Nat.le_trans hbs (by simp)) ?_)
        intro u1 w1 ho1 hg1
        have hb1 := hide (below_append hbel hbs ho hg1)
        replace ho1 := hide ho1
        clear hg1 ho hl2 hbs hbel
        go_wp2
        go_roundw
        case rel => exact ⟨2, by omega, rfl, by simpa [wordL] using ho1.out, hb1.out⟩
        case measure => simp [intOf]
      · go_wp2_with (at_builtin; refine append_bytes rfl _ _ rfl base _ _ rfl (ho.alloc _) _ 1 1 [byteOf x 1099511627776] rfl rfl (byte_new (byteOf_int x 1099511627776)) hl2 (Nat.le_trans hbs (by simp)) ?_)
        intro u1 w1 ho1 hg1
        have hb1 := hide (below_append hbel hbs ho hg1)
        replace ho1 := hide ho1
        clear hg1 ho hl2 hbs hbel
        go_wp2
        go_roundw
        case rel => exact ⟨3, by omega, rfl, by simpa [wordL] using ho1.out, hb1.out⟩
        case measure => simp [intOf]
      · go_wp2_with (at_builtin; refine append_bytes rfl _ _ rfl base _ _ rfl (ho.alloc _) _ 1 1 [byteOf x 4294967296] rfl rfl (byte_new (byteOf_int x 4294967296)) hl2 (Nat.le_trans hbs (by simp)) ?_)
        intro u1 w1 ho1 hg1
        have hb1 := hide (below_append hbel hbs ho hg1)
        replace ho1 := hide ho1
        clear hg1 ho hl2 hbs hbel
        go_wp2
        go_roundw
        case rel => exact ⟨4, by omega, rfl, by simpa [wordL] using ho1.out, hb1.out⟩
        case measure => simp [intOf]
      · go_wp2_with (at_builtin; refine append_bytes rfl _ _ rfl base _ _ rfl (ho.alloc _) _ 1 1 [byteOf x 16777216] rfl rfl (byte_new (byteOf_int x 16777216)) hl2 (Nat.le_trans hbs (by simp)) ?_)
        intro u1 w1 ho1 hg1
        have hb1 := hide (below_append hbel hbs ho hg1)
        replace ho1 := hide ho1
        clear hg1 ho hl2 hbs hbel
        go_wp2
        go_roundw
        case rel => exact ⟨5, by omega, rfl, by simpa [wordL] using ho1.out, hb1.out⟩
        case measure => simp [intOf]
      · go_wp2_with (at_builtin; refine append_bytes rfl _ _ rfl base _ _ rfl (ho.alloc _) _ 1 1 [byteOf x 65536] rfl rfl (byte_new (byteOf_int x 65536)) hl2 (Nat.le_trans hbs (by simp)) ?_)
        intro u1 w1 ho1 hg1
        have hb1 := hide (below_append hbel hbs ho hg1)
        replace ho1 := hide ho1
        clear hg1 ho hl2 hbs hbel
        go_wp2
        go_roundw
        case rel => exact ⟨6, by omega, rfl, by simpa [wordL] using ho1.out, hb1.out⟩
        case measure => simp [intOf]
      · go_wp2_with (at_builtin; refine append_bytes rfl _ _ rfl base _ _ rfl (ho.alloc _) _ 1 1 [byteOf x 256] rfl rfl (byte_new (byteOf_int x 256)) hl2 (Nat.le_trans hbs (by simp)) ?_)
        intro u1 w1 ho1 hg1
        have hb1 := hide (below_append hbel hbs ho hg1)
        replace ho1 := hide ho1
        clear hg1 ho hl2 hbs hbel
        go_wp2
        go_roundw
        case rel => exact ⟨7, by omega, rfl, by simpa [wordL] using ho1.out, hb1.out⟩
        case measure => simp [intOf]
      · go_wp2_with (at_builtin; refine append_bytes rfl _ _ rfl base _ _ rfl (ho.alloc _) _ 1 1 [byteOf x 1] rfl rfl (byte_new (byteOf_int1 x)) hl2 (Nat.le_trans hbs (by simp)) ?_)
        intro u1 w1 ho1 hg1
        have hb1 := hide (below_append hbel hbs ho hg1)
        replace ho1 := hide ho1
        clear hg1 ho hl2 hbs hbel
        go_wp2
        go_roundw
        case rel => exact ⟨8, by omega, rfl, by simpa [wordL] using ho1.out, hb1.out⟩
        case measure => simp [intOf]
    · obtain rfl : k = 8 := by omega
      replace ho := hide ho
      replace hbel := hide hbel
      go_wp2
      go_ret
      exact ⟨_, rfl, by simpa [wordL] using ho.out, hbel.out⟩

theorem esc_step (s : ByteArray) (k : Nat) (h : k < s.size) : escL (s.data.toList.take (k + 1)) = escL (s.data.toList.take k) ++ (if s[k] = 0 then [0, 255] else [s[k]]) := by
  have e : s.data.toList[k]? = some s[k] := by
    rw [Array.getElem?_toList, Array.getElem?_eq_getElem (by exact h)]
    rfl
  rw [List.take_add_one, escL_append, e]
  by_cases hz : s[k] = 0
  · simp [escL, hz]
  · simp [escL, hz]
theorem esc_len (s : ByteArray) (k : Nat) : (escL (s.data.toList.take k)).length ≤ 2 * k := by
  have := escL_length (s.data.toList.take k)
  rw [List.length_take] at this
  omega

set_option maxHeartbeats 4000000 in
theorem putString_calls (base : Nat) (v : Value) (l : List UInt8) (s : ByteArray) (hs : s.size ≤ 1000) (w : World) (hown : Own w base v l) (hb : base ≤ w.heap.size) (hlen : l.length ≤ 1000000) :
    Calls Try.prog 61 #[v, .string s] w fun e w' => ∃ v', e = .returned v' ∧ Own w' base v' (l ++ strL s) ∧ Below base w w' := by
  have HO := hide hown
  clear hown
  go_enter Try.func61, Try.ntmps61
  go_wp2_with fail
  go_loopw [0, 8] (fun u i wr => ∃ k : Nat, k ≤ s.size ∧ i = .int .i64 k ∧ Own wr base u (l ++ escL (s.data.toList.take k)) ∧ Below base w wr) (fun _ i _ => s.size - (intOf i).toNat)
  case atStart => exact ⟨0, Nat.zero_le _, rfl, by simpa [escL] using HO.out, Below.refl _ _⟩
  case round =>
    obtain ⟨k, hk, rfl, ho, hbel⟩ := hrel
    have hbs := Nat.le_trans hb hbel.size
    have hel := esc_len s k
    obtain ⟨m, hm⟩ : ∃ m, m = l ++ escL (s.data.toList.take k) := ⟨_, rfl⟩
    have hl2 : m.length + 2 ≤ 1000000000000 := by rw [hm, List.length_append]; omega
    rw [← hm] at ho
    replace hm := hide hm
    by_cases hlt : k < s.size
    · have hstep := hide (esc_step s k hlt)
      by_cases hz : s[k] = 0
      · have ht : ((s[k].toNat : Int) == 0) = true := by rw [hz]; rfl
        have HZ := hide hz
        clear hz
        go_wp2_with (first
          | (at_builtin; refine append_bytes rfl (.tmp 11) (.tmp 15) rfl base _ _ rfl (ho.alloc _) _ 1 1 [s[k]] rfl rfl (byte_new rfl) (Nat.le_trans (by omega) hl2) (Nat.le_trans hbs (by simp)) ?_))
        intro u1 w1 ho1 hg1
        have hb1 := below_append hbel hbs ho hg1
        have hbs1 := Nat.le_trans hb hb1.size
        replace hb1 := hide hb1
        have hl3 : (m ++ [s[k]]).length + 1 ≤ 1000000000000 := by rw [List.length_append]; simp only [List.length_singleton]; omega
        clear hg1 ho
        go_wp2_with (at_builtin; refine append_bytes rfl (.tmp 21) (.tmp 22) rfl base _ _ rfl (ho1.alloc _) _ 1 1 [255] rfl rfl (byte_new rfl) hl3 (Nat.le_trans hbs1 (by simp)) ?_)
        intro u2 w2 ho2 hg2
        have hb2 := hide (below_append hb1.out hbs1 ho1 hg2)
        replace ho2 := hide ho2
        clear hg2 ho1 hl3 hl2 hb1
        go_wp2
        go_roundw
        case rel =>
          refine ⟨k + 1, by omega, by go_num, ?_, hb2.out⟩
          have h2 := ho2.out
          rw [hstep.out, if_pos HZ.out, ← List.append_assoc, ← hm.out]
          rw [HZ.out] at h2
          simpa using h2
        case measure => simp [intOf]; omega
      · have ht : ((s[k].toNat : Int) == 0) = false := by
          refine beq_eq_false_iff_ne.2 fun e => hz ?_
          exact UInt8.toNat_inj.1 (by simpa using e)
        have HZ := hide hz
        clear hz
        go_wp2_with (at_builtin; refine append_bytes rfl (.tmp 11) (.tmp 15) rfl base _ _ rfl (ho.alloc _) _ 1 1 [s[k]] rfl rfl (byte_new rfl) (Nat.le_trans (by omega) hl2) (Nat.le_trans hbs (by simp)) ?_)
        intro u1 w1 ho1 hg1
        have hb1 := hide (below_append hbel hbs ho hg1)
        replace ho1 := hide ho1
        clear hg1 ho hl2
        go_wp2
        go_roundw
        case rel =>
          refine ⟨k + 1, by omega, by go_num, ?_, hb1.out⟩
          have h2 := ho1.out
          rw [hstep.out, if_neg HZ.out, ← List.append_assoc, ← hm.out]
          exact h2
        case measure => simp [intOf]; omega
    · obtain rfl : k = s.size := by omega
      go_wp2_with (at_builtin; refine append_bytes rfl (.tmp 25) (.tmp 26) rfl base _ _ rfl (ho.alloc _) _ 2 2 [0, 1] rfl rfl (bytes_new2 rfl rfl) hl2 (Nat.le_trans hbs (by simp)) ?_)
      intro u1 w1 ho1 hg1
      have hb1 := hide (below_append hbel hbs ho hg1)
      replace ho1 := hide ho1
      clear hg1 ho hl2
      go_wp2
      go_ret
      refine ⟨_, rfl, ?_, hb1.out⟩
      have h2 := ho1.out
      have e : s.data.toList.take s.size = s.data.toList := List.take_of_length_le (by simp)
      have hm2 := hm.out
      rw [e] at hm2
      unfold strL
      rw [← List.append_assoc, ← hm2]
      exact h2

end Go.Proofs.Ytofpakpbbpcalaa
