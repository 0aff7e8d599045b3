/-
  What the document's own Print (package rialtoref4) answers of whatever it is handed, as its text runs.
  What the document's own Print (package rialtoref4) answers of whatever it is handed, as its text runs.
  What the document's own Print (package rialtoref4) answers of whatever it is handed, as its text runs.
  What the document's own Print (package rialtoref4) answers of every value and of what is none.
  What the document's own readers of digits (package rialtoref4: bytes) answer, as their text runs.
  What the document's own reader of quoted texts (package rialtoref4: unquoted) answers, as its text runs.
  What the document's own reader of one value (package rialtoref4: read) answers of every text, as its text runs.
  What the document's own reader of one value (package rialtoref4: read) answers of every text: floats, and all together, as its text runs.
  What the document's own Parse (package rialtoref4) answers of every text, as its text runs.
  What the document's own Row (package rialtoref4) answers of every row of values that isn't too long, as its text runs.
-/
import Derived.Test.YtjnnmghehoodhaaGreatDoorRefText
import Derived.Test.YtjnnmghehoodhaaGreatDoorRefVals
import Derived.Deep.RegionHeld3
import Derived.Deep.AppendLies
namespace Go.Proofs.YtjnnmghehoodhaaGreatDoor
open Go.ChangeShapes Go.WideShapes Go.ChangeAt Go.RowKit
attribute [local go_sem ↓] Go.wp_at_zero Go.wp_at_succ
attribute [local go_sem] run_store_float

/-- A byte that is laid down as a slice is owned. -/
theorem own_lit (w : World) (base : Nat) (z : Int) (b : UInt8) (h : z = (b.toNat : Int)) (hb : base ≤ w.heap.size) : Own (w.alloc (.cells #[.int .u8 z] 5)) base (.slice (some ⟨w.heap.size, 0, none⟩) 1 1) [b] := by
  subst h
  refine ⟨rfl, .inr ⟨w.heap.size, 1, #[.int .u8 (b.toNat : Int)], rfl, hb, ?_, Nat.le_refl _, by decide, rfl, rfl⟩⟩
  exact heap_alloc_new _ _

set_option maxHeartbeats 4000000 in
theorem rprint_none (k n : Int) (s : ByteArray) (f : Nat) (w : World) (hv : isB (k, n, s, f) = false) :
    Calls Tryz.prog 7 #[.agg #[.int .i64 k, .int .i64 n, .string s, .float .f64 f]] w fun e w' => e = .returned (.string ⟨#[63]⟩) ∧ Up w w' := by
  obtain ⟨W, hW⟩ : ∃ W, w.alloc (.cells #[.int .i64 k, .int .i64 n, .string s, .float .f64 f] 24) = W := ⟨_, rfl⟩
  have c0 : W.cell? ⟨w.heap.size, 0, none⟩ = some (.int .i64 k) := by subst hW; simp
  have c1 : W.cell? ⟨w.heap.size, 1, none⟩ = some (.int .i64 n) := by subst hW; simp
  have c2 : W.cell? ⟨w.heap.size, 2, none⟩ = some (.string s) := by subst hW; simp
  have c3 : W.cell? ⟨w.heap.size, 3, none⟩ = some (.float .f64 f) := by subst hW; simp
  have hu : Hid (Up w W) := by subst hW; exact (Up.refl _).alloc _
  go_enter Tryz.func7, Tryz.ntmps7
  go_wp2_with fail
  go_at_call 17
  refine (ris_calls _ _ _ _ _).mono ?_
  rintro _ w1 ⟨rfl, hu1⟩
  replace c0 := hu1.cell c0
  replace c1 := hu1.cell c1
  replace c2 := hu1.cell c2
  replace c3 := hu1.cell c3
  replace hu := hide (hu.out.trans hu1)
  clear hu1 hW
  rw [hv]
  go_wp2
  go_ret
  exact ⟨rfl, hu.out⟩

set_option maxHeartbeats 4000000 in
theorem rprint_int (n : Int) (w : World) (hn : IntKind.i64.min ≤ n ∧ n ≤ IntKind.i64.max) :
    Calls Tryz.prog 7 #[.agg #[.int .i64 1, .int .i64 n, .string ⟨#[]⟩, .float .f64 0]] w fun e w' => e = .returned (.string ⟨(decI n).toArray⟩) ∧ Up w w' := by
  obtain ⟨W, hW⟩ : ∃ W, w.alloc (.cells #[.int .i64 1, .int .i64 n, .string ⟨#[]⟩, .float .f64 0] 24) = W := ⟨_, rfl⟩
  have c0 : W.cell? ⟨w.heap.size, 0, none⟩ = some (.int .i64 1) := by subst hW; simp
  have c1 : W.cell? ⟨w.heap.size, 1, none⟩ = some (.int .i64 n) := by subst hW; simp
  have c2 : W.cell? ⟨w.heap.size, 2, none⟩ = some (.string ⟨#[]⟩) := by subst hW; simp
  have c3 : W.cell? ⟨w.heap.size, 3, none⟩ = some (.float .f64 0) := by subst hW; simp
  have hu : Hid (Up w W) := by subst hW; exact (Up.refl _).alloc _
  go_enter Tryz.func7, Tryz.ntmps7
  go_wp2_with fail
  go_at_call 17
  refine (ris_calls _ _ _ _ _).mono ?_
  rintro _ w1 ⟨rfl, hu1⟩
  replace c0 := hu1.cell c0
  replace c1 := hu1.cell c1
  replace c2 := hu1.cell c2
  replace c3 := hu1.cell c3
  replace hu := hide (hu.out.trans hu1)
  clear hu1 hW
  rw [t_int n]
  go_wp2_with fail
  go_at_call 18
  refine (rdigits_calls n hn _).mono ?_
  rintro _ w2 ⟨rfl, hu2⟩
  replace hu := hide (hu.out.trans hu2)
  clear hu2
  go_wp2
  go_ret
  exact ⟨rfl, hu.out⟩

set_option maxHeartbeats 4000000 in
theorem rprint_true  (w : World)  :
    Calls Tryz.prog 7 #[.agg #[.int .i64 2, .int .i64 1, .string ⟨#[]⟩, .float .f64 0]] w fun e w' => e = .returned (.string ⟨trueL.toArray⟩) ∧ Up w w' := by
  obtain ⟨W, hW⟩ : ∃ W, w.alloc (.cells #[.int .i64 2, .int .i64 1, .string ⟨#[]⟩, .float .f64 0] 24) = W := ⟨_, rfl⟩
  have c0 : W.cell? ⟨w.heap.size, 0, none⟩ = some (.int .i64 2) := by subst hW; simp
  have c1 : W.cell? ⟨w.heap.size, 1, none⟩ = some (.int .i64 1) := by subst hW; simp
  have c2 : W.cell? ⟨w.heap.size, 2, none⟩ = some (.string ⟨#[]⟩) := by subst hW; simp
  have c3 : W.cell? ⟨w.heap.size, 3, none⟩ = some (.float .f64 0) := by subst hW; simp
  have hu : Hid (Up w W) := by subst hW; exact (Up.refl _).alloc _
  go_enter Tryz.func7, Tryz.ntmps7
  go_wp2_with fail
  go_at_call 17
  refine (ris_calls _ _ _ _ _).mono ?_
  rintro _ w1 ⟨rfl, hu1⟩
  replace c0 := hu1.cell c0
  replace c1 := hu1.cell c1
  replace c2 := hu1.cell c2
  replace c3 := hu1.cell c3
  replace hu := hide (hu.out.trans hu1)
  clear hu1 hW
  rw [t_bool (.inr rfl)]
  go_wp2
  go_ret
  exact ⟨rfl, hu.out⟩

set_option maxHeartbeats 4000000 in
theorem rprint_false  (w : World)  :
    Calls Tryz.prog 7 #[.agg #[.int .i64 2, .int .i64 0, .string ⟨#[]⟩, .float .f64 0]] w fun e w' => e = .returned (.string ⟨falseL.toArray⟩) ∧ Up w w' := by
  obtain ⟨W, hW⟩ : ∃ W, w.alloc (.cells #[.int .i64 2, .int .i64 0, .string ⟨#[]⟩, .float .f64 0] 24) = W := ⟨_, rfl⟩
  have c0 : W.cell? ⟨w.heap.size, 0, none⟩ = some (.int .i64 2) := by subst hW; simp
  have c1 : W.cell? ⟨w.heap.size, 1, none⟩ = some (.int .i64 0) := by subst hW; simp
  have c2 : W.cell? ⟨w.heap.size, 2, none⟩ = some (.string ⟨#[]⟩) := by subst hW; simp
  have c3 : W.cell? ⟨w.heap.size, 3, none⟩ = some (.float .f64 0) := by subst hW; simp
  have hu : Hid (Up w W) := by subst hW; exact (Up.refl _).alloc _
  go_enter Tryz.func7, Tryz.ntmps7
  go_wp2_with fail
  go_at_call 17
  refine (ris_calls _ _ _ _ _).mono ?_
  rintro _ w1 ⟨rfl, hu1⟩
  replace c0 := hu1.cell c0
  replace c1 := hu1.cell c1
  replace c2 := hu1.cell c2
  replace c3 := hu1.cell c3
  replace hu := hide (hu.out.trans hu1)
  clear hu1 hW
  rw [t_bool (.inl rfl)]
  go_wp2
  go_ret
  exact ⟨rfl, hu.out⟩

theorem take_byte (s : ByteArray) (k : Nat) (h : k < s.size) : s.data.toList.take (k + 1) = s.data.toList.take k ++ [s[k]] := by
  have e : s.data.toList[k]? = some s[k] := by
    rw [Array.getElem?_toList, Array.getElem?_eq_getElem (by exact h)]
    rfl
  rw [List.take_add_one, e]; rfl
theorem take_whole (s : ByteArray) : s.data.toList.take s.size = s.data.toList := List.take_of_length_le (by simp)
theorem hex_len (s : ByteArray) (k : Nat) : (hexL (s.data.toList.take k)).length ≤ 2 * k := by
  rw [hexL_length, List.length_take]; omega

set_option maxHeartbeats 4000000 in
theorem rprint_bytes (s : ByteArray) (w : World) (hs : s.size ≤ 60) :
    Calls Tryz.prog 7 #[.agg #[.int .i64 4, .int .i64 0, .string s, .float .f64 0]] w fun e w' => e = .returned (.string ⟨(120 :: hexL s.data.toList).toArray⟩) ∧ Up w w' := by
  obtain ⟨W, hW⟩ : ∃ W, w.alloc (.cells #[.int .i64 4, .int .i64 0, .string s, .float .f64 0] 24) = W := ⟨_, rfl⟩
  have c0 : W.cell? ⟨w.heap.size, 0, none⟩ = some (.int .i64 4) := by subst hW; simp
  have c1 : W.cell? ⟨w.heap.size, 1, none⟩ = some (.int .i64 0) := by subst hW; simp
  have c2 : W.cell? ⟨w.heap.size, 2, none⟩ = some (.string s) := by subst hW; simp
  have c3 : W.cell? ⟨w.heap.size, 3, none⟩ = some (.float .f64 0) := by subst hW; simp
  have hu : Hid (Up w W) := by subst hW; exact (Up.refl _).alloc _
  go_enter Tryz.func7, Tryz.ntmps7
  go_wp2_with fail
  go_at_call 17
  refine (ris_calls _ _ _ _ _).mono ?_
  rintro _ w1 ⟨rfl, hu1⟩
  replace c0 := hu1.cell c0
  replace c1 := hu1.cell c1
  replace c2 := hu1.cell c2
  replace c3 := hu1.cell c3
  replace hu := hide (hu.out.trans hu1)
  clear hu1 hW
  rw [t_str (.inr rfl) hs]
  go_wp2_with fail
  go_loopw [6, 7] (fun b i wr => ∃ k : Nat, k ≤ s.size ∧ i = .int .i64 k ∧ Own wr w1.heap.size b (120 :: hexL (s.data.toList.take k)) ∧ Below w1.heap.size w1 wr) (fun _ i _ => s.size - (intOf i).toNat)
  case atStart => exact ⟨0, Nat.zero_le _, rfl, own_lit w1 _ _ 120 rfl (Nat.le_refl _), Below.alloc (Below.refl _ _) (Nat.le_refl _) _⟩
  case round =>
    obtain ⟨k, hk, rfl, ho, hbel⟩ := hrel
    have hbs := hbel.size
    have hel := hex_len s k
    replace c2 := (Up.cell (w := w1) hbel) c2
    obtain ⟨m, hm⟩ : ∃ m, m = 120 :: hexL (s.data.toList.take k) := ⟨_, rfl⟩
    have hl2 : m.length ≤ 1000000 := by rw [hm, List.length_cons]; omega
    rw [← hm] at ho
    replace hm := hide hm
    by_cases hlt : k < s.size
    · have hst := hide (take_byte s k hlt)
      have HO := hide ho
      have HB := hide hbel
      clear ho hbel
      go_wp2_with fail
      go_at_call 19
      refine (rtwo_calls w1.heap.size _ m s[k] wr HO.out hbs hl2).mono ?_
      rintro _ w2 ⟨v2, rfl, ho2, hb2⟩
      replace ho2 := hide ho2
      have HB2 := hide (Below.trans HB.out hb2)
      clear hb2 HO HB
      go_wp2
      go_roundw
      case rel =>
        refine ⟨k + 1, by omega, by go_num, ?_, HB2.out⟩
        have h2 := ho2.out
        rw [hm.out] at h2
        rw [hst.out, hexL_append]
        exact h2
      case measure => simp [intOf]; omega
    · obtain rfl : k = s.size := by omega
      have hcv := ho.conv
      replace hbel := hide hbel
      clear ho
      go_wp2
      go_ret
      refine ⟨?_, hu.out.trans hbel.out⟩
      have hm2 := hm.out
      rw [take_whole] at hm2
      rw [← hm2]
      rfl

end Go.Proofs.YtjnnmghehoodhaaGreatDoor

namespace Go.Proofs.YtjnnmghehoodhaaGreatDoor
open Go.ChangeShapes Go.WideShapes Go.ChangeAt Go.RowKit
attribute [local go_sem ↓] Go.wp_at_zero Go.wp_at_succ
attribute [local go_sem] run_store_float

theorem rtwo_calls' (base : Nat) (v : Value) (l : List UInt8) (z : Int) (c : UInt8) (hz : z = (c.toNat : Int)) (w : World) (hown : Own w base v l) (hb : base ≤ w.heap.size) (hlen : l.length ≤ 1000000) :
    Calls Tryz.prog 19 #[v, .int .u8 z] w fun e w' => ∃ v', e = .returned v' ∧ Own w' base v' (l ++ [hexHi c, hexLo c]) ∧ Below base w w' := by
  subst hz
  exact rtwo_calls base v l c w hown hb hlen

theorem byteOf_one (x : Nat) : (x : Int) % 256 = ((byteOf x 1).toNat : Int) := by
  have := byteOf_int x 1
  simpa using this
theorem word_take (x k : Nat) (c : UInt8) (h : (wordL x)[k]? = some c) : hexL ((wordL x).take (k + 1)) = hexL ((wordL x).take k) ++ [hexHi c, hexLo c] := by
  rw [List.take_add_one, h, hexL_append]; rfl
theorem word_get0 (x : Nat) : (wordL x)[0]? = some (byteOf x 72057594037927936) := by unfold wordL; rfl
theorem word_get1 (x : Nat) : (wordL x)[1]? = some (byteOf x 281474976710656) := by unfold wordL; rfl
theorem word_get2 (x : Nat) : (wordL x)[2]? = some (byteOf x 1099511627776) := by unfold wordL; rfl
theorem word_get3 (x : Nat) : (wordL x)[3]? = some (byteOf x 4294967296) := by unfold wordL; rfl
theorem word_get4 (x : Nat) : (wordL x)[4]? = some (byteOf x 16777216) := by unfold wordL; rfl
theorem word_get5 (x : Nat) : (wordL x)[5]? = some (byteOf x 65536) := by unfold wordL; rfl
theorem word_get6 (x : Nat) : (wordL x)[6]? = some (byteOf x 256) := by unfold wordL; rfl
theorem word_get7 (x : Nat) : (wordL x)[7]? = some (byteOf x 1) := by unfold wordL; rfl
theorem eight_ways {k : Nat} (h : k < 8) : k = 0 ∨ k = 1 ∨ k = 2 ∨ k = 3 ∨ k = 4 ∨ k = 5 ∨ k = 6 ∨ k = 7 := by omega

set_option maxHeartbeats 4000000 in
theorem rprint_float (f : Nat) (w : World)  :
    Calls Tryz.prog 7 #[.agg #[.int .i64 5, .int .i64 0, .string ⟨#[]⟩, .float .f64 f]] w fun e w' => e = .returned (.string ⟨(102 :: hexL (wordL f)).toArray⟩) ∧ Up w w' := by
  obtain ⟨W, hW⟩ : ∃ W, w.alloc (.cells #[.int .i64 5, .int .i64 0, .string ⟨#[]⟩, .float .f64 f] 24) = W := ⟨_, rfl⟩
  have hsg : IntKind.u64.signed = false := rfl
  have hrb := run_bits
  have c0 : W.cell? ⟨w.heap.size, 0, none⟩ = some (.int .i64 5) := by subst hW; simp
  have c1 : W.cell? ⟨w.heap.size, 1, none⟩ = some (.int .i64 0) := by subst hW; simp
  have c2 : W.cell? ⟨w.heap.size, 2, none⟩ = some (.string ⟨#[]⟩) := by subst hW; simp
  have c3 : W.cell? ⟨w.heap.size, 3, none⟩ = some (.float .f64 f) := by subst hW; simp
  have hu : Hid (Up w W) := by subst hW; exact (Up.refl _).alloc _
  go_enter Tryz.func7, Tryz.ntmps7
  go_wp2_with fail
  go_at_call 17
  refine (ris_calls _ _ _ _ _).mono ?_
  rintro _ w1 ⟨rfl, hu1⟩
  replace c0 := hu1.cell c0
  replace c1 := hu1.cell c1
  replace c2 := hu1.cell c2
  replace c3 := hu1.cell c3
  replace hu := hide (hu.out.trans hu1)
  clear hu1 hW
  rw [t_float f]
  go_wp2_with fail
  go_loopw [9, 10] (fun b i wr => ∃ k : Nat, k ≤ 8 ∧ i = .int .i64 (56 - 8 * (k : Int)) ∧ Own wr w1.heap.size b (102 :: hexL ((wordL f).take k)) ∧ Below w1.heap.size w1 wr) (fun _ i _ => (intOf i + 8).toNat)
  case atStart => exact ⟨0, Nat.zero_le _, rfl, own_lit w1 _ _ 102 rfl (Nat.le_refl _), Below.alloc (Below.refl _ _) (Nat.le_refl _) _⟩
  case round =>
    obtain ⟨k, hk, rfl, ho, hbel⟩ := hrel
    have hbs := hbel.size
    obtain ⟨m, hm⟩ : ∃ m, m = 102 :: hexL ((wordL f).take k) := ⟨_, rfl⟩
    have hl2 : m.length ≤ 1000000 := by rw [hm, List.length_cons, hexL_length, List.length_take]; omega
    rw [← hm] at ho
    replace hm := hide hm
    by_cases hlt : k < 8
    · have HO := hide ho
      have HB := hide hbel
      clear ho hbel
      rcases eight_ways hlt with rfl | rfl | rfl | rfl | rfl | rfl | rfl | rfl
      · have hby : (f : Int) / 72057594037927936 % 256 = ((byteOf f 72057594037927936).toNat : Int) := byteOf_int f 72057594037927936
        go_wp2_with fail
        go_at_call 19
        refine (rtwo_calls' w1.heap.size _ m _ (byteOf f 72057594037927936) hby wr HO.out hbs hl2).mono ?_
        rintro _ w2 ⟨v2, rfl, ho2, hb2⟩
        replace ho2 := hide ho2
        have HB2 := hide (Below.trans HB.out hb2)
        clear hb2 HO HB hby
        go_wp2
        go_roundw
        case rel =>
          refine ⟨1, by omega, rfl, ?_, HB2.out⟩
          have h2 := ho2.out
          rw [hm.out] at h2
          have hw : hexL ((wordL f).take 1) = hexL ((wordL f).take 0) ++ [hexHi (byteOf f 72057594037927936), hexLo (byteOf f 72057594037927936)] := word_take f 0 _ (word_get0 f)
          rw [List.cons_append, ← hw] at h2
          exact h2
        case measure => simp [intOf]
      · have hby : (f : Int) / 281474976710656 % 256 = ((byteOf f 281474976710656).toNat : Int) := byteOf_int f 281474976710656
        go_wp2_with fail
        go_at_call 19
        refine (rtwo_calls' w1.heap.size _ m _ (byteOf f 281474976710656) hby wr HO.out hbs hl2).mono ?_
        rintro _ w2 ⟨v2, rfl, ho2, hb2⟩
        replace ho2 := hide ho2
        have HB2 := hide (Below.trans HB.out hb2)
        clear hb2 HO HB hby
        go_wp2
        go_roundw
        case rel =>
          refine ⟨2, by omega, rfl, ?_, HB2.out⟩
          have h2 := ho2.out
          rw [hm.out] at h2
          have hw : hexL ((wordL f).take 2) = hexL ((wordL f).take 1) ++ [hexHi (byteOf f 281474976710656), hexLo (byteOf f 281474976710656)] := word_take f 1 _ (word_get1 f)
          rw [List.cons_append, ← hw] at h2
          exact h2
        case measure => simp [intOf]
      · have hby : (f : Int) / 1099511627776 % 256 = ((byteOf f 1099511627776).toNat : Int) := byteOf_int f 1099511627776
        go_wp2_with fail
        go_at_call 19
        refine (rtwo_calls' w1.heap.size _ m _ (byteOf f 1099511627776) hby wr HO.out hbs hl2).mono ?_
        rintro _ w2 ⟨v2, rfl, ho2, hb2⟩
        replace ho2 := hide ho2
        have HB2 := hide (Below.trans HB.out hb2)
        clear hb2 HO HB hby
        go_wp2
        go_roundw
        case rel =>
          refine ⟨3, by omega, rfl, ?_, HB2.out⟩
          have h2 := ho2.out
          rw [hm.out] at h2
          have hw : hexL ((wordL f).take 3) = hexL ((wordL f).take 2) ++ [hexHi (byteOf f 1099511627776), hexLo (byteOf f 1099511627776)] := word_take f 2 _ (word_get2 f)
          rw [List.cons_append, ← hw] at h2
          exact h2
        case measure => simp [intOf]
      · have hby : (f : Int) / 4294967296 % 256 = ((byteOf f 4294967296).toNat : Int) := byteOf_int f 4294967296
        go_wp2_with fail
        go_at_call 19
        refine (rtwo_calls' w1.heap.size _ m _ (byteOf f 4294967296) hby wr HO.out hbs hl2).mono ?_
        rintro _ w2 ⟨v2, rfl, ho2, hb2⟩
        replace ho2 := hide ho2
        have HB2 := hide (Below.trans HB.out hb2)
        clear hb2 HO HB hby
        go_wp2
        go_roundw
        case rel =>
          refine ⟨4, by omega, rfl, ?_, HB2.out⟩
          have h2 := ho2.out
          rw [hm.out] at h2
          have hw : hexL ((wordL f).take 4) = hexL ((wordL f).take 3) ++ [hexHi (byteOf f 4294967296), hexLo (byteOf f 4294967296)] := word_take f 3 _ (word_get3 f)
          rw [List.cons_append, ← hw] at h2
          exact h2
        case measure => simp [intOf]
      · have hby : (f : Int) / 16777216 % 256 = ((byteOf f 16777216).toNat : Int) := byteOf_int f 16777216
        go_wp2_with fail
        go_at_call 19
        refine (rtwo_calls' w1.heap.size _ m _ (byteOf f 16777216) hby wr HO.out hbs hl2).mono ?_
        rintro _ w2 ⟨v2, rfl, ho2, hb2⟩
        replace ho2 := hide ho2
        have HB2 := hide (Below.trans HB.out hb2)
        clear hb2 HO HB hby
        go_wp2
        go_roundw
        case rel =>
          refine ⟨5, by omega, rfl, ?_, HB2.out⟩
          have h2 := ho2.out
          rw [hm.out] at h2
          have hw : hexL ((wordL f).take 5) = hexL ((wordL f).take 4) ++ [hexHi (byteOf f 16777216), hexLo (byteOf f 16777216)] := word_take f 4 _ (word_get4 f)
          rw [List.cons_append, ← hw] at h2
          exact h2
        case measure => simp [intOf]
      · have hby : (f : Int) / 65536 % 256 = ((byteOf f 65536).toNat : Int) := byteOf_int f 65536
        go_wp2_with fail
        go_at_call 19
        refine (rtwo_calls' w1.heap.size _ m _ (byteOf f 65536) hby wr HO.out hbs hl2).mono ?_
        rintro _ w2 ⟨v2, rfl, ho2, hb2⟩
        replace ho2 := hide ho2
        have HB2 := hide (Below.trans HB.out hb2)
        clear hb2 HO HB hby
        go_wp2
        go_roundw
        case rel =>
          refine ⟨6, by omega, rfl, ?_, HB2.out⟩
          have h2 := ho2.out
          rw [hm.out] at h2
          have hw : hexL ((wordL f).take 6) = hexL ((wordL f).take 5) ++ [hexHi (byteOf f 65536), hexLo (byteOf f 65536)] := word_take f 5 _ (word_get5 f)
          rw [List.cons_append, ← hw] at h2
          exact h2
        case measure => simp [intOf]
      · have hby : (f : Int) / 256 % 256 = ((byteOf f 256).toNat : Int) := byteOf_int f 256
        go_wp2_with fail
        go_at_call 19
        refine (rtwo_calls' w1.heap.size _ m _ (byteOf f 256) hby wr HO.out hbs hl2).mono ?_
        rintro _ w2 ⟨v2, rfl, ho2, hb2⟩
        replace ho2 := hide ho2
        have HB2 := hide (Below.trans HB.out hb2)
        clear hb2 HO HB hby
        go_wp2
        go_roundw
        case rel =>
          refine ⟨7, by omega, rfl, ?_, HB2.out⟩
          have h2 := ho2.out
          rw [hm.out] at h2
          have hw : hexL ((wordL f).take 7) = hexL ((wordL f).take 6) ++ [hexHi (byteOf f 256), hexLo (byteOf f 256)] := word_take f 6 _ (word_get6 f)
          rw [List.cons_append, ← hw] at h2
          exact h2
        case measure => simp [intOf]
      · have hby : (f : Int) % 256 = ((byteOf f 1).toNat : Int) := byteOf_one f
        go_wp2_with fail
        go_at_call 19
        refine (rtwo_calls w1.heap.size _ m (byteOf f 1) wr HO.out hbs hl2).mono ?_
        rintro _ w2 ⟨v2, rfl, ho2, hb2⟩
        replace ho2 := hide ho2
        have HB2 := hide (Below.trans HB.out hb2)
        clear hb2 HO HB hby
        go_wp2
        go_roundw
        case rel =>
          refine ⟨8, by omega, rfl, ?_, HB2.out⟩
          have h2 := ho2.out
          rw [hm.out] at h2
          have hw : hexL ((wordL f).take 8) = hexL ((wordL f).take 7) ++ [hexHi (byteOf f 1), hexLo (byteOf f 1)] := word_take f 7 _ (word_get7 f)
          rw [List.cons_append, ← hw] at h2
          exact h2
        case measure => simp [intOf]
    · obtain rfl : k = 8 := by omega
      have hcv := ho.conv
      replace hbel := hide hbel
      clear ho
      go_wp2
      go_ret
      refine ⟨?_, hu.out.trans hbel.out⟩
      rw [hm.out]
      rfl

end Go.Proofs.YtjnnmghehoodhaaGreatDoor

namespace Go.Proofs.YtjnnmghehoodhaaGreatDoor
open Go.ChangeShapes Go.WideShapes Go.ChangeAt Go.RowKit
attribute [local go_sem ↓] Go.wp_at_zero Go.wp_at_succ
attribute [local go_sem] run_store_float

theorem quo_len (s : ByteArray) (k : Nat) : (quoL (s.data.toList.take k)).length ≤ 4 * k := by
  have := quoL_length (s.data.toList.take k)
  rw [List.length_take] at this
  omega
theorem quo_step (s : ByteArray) (k : Nat) (h : k < s.size) : quoL (s.data.toList.take (k + 1)) = quoL (s.data.toList.take k) ++ quoC s[k] := by
  rw [take_byte s k h, quoL_append]; simp [quoL]

set_option maxHeartbeats 4000000 in
theorem rprint_str (s : ByteArray) (w : World) (hs : s.size ≤ 60) :
    Calls Tryz.prog 7 #[.agg #[.int .i64 3, .int .i64 0, .string s, .float .f64 0]] w fun e w' => e = .returned (.string ⟨(quoS s.data.toList).toArray⟩) ∧ Up w w' := by
  obtain ⟨W, hW⟩ : ∃ W, w.alloc (.cells #[.int .i64 3, .int .i64 0, .string s, .float .f64 0] 24) = W := ⟨_, rfl⟩
  have c0 : W.cell? ⟨w.heap.size, 0, none⟩ = some (.int .i64 3) := by subst hW; simp
  have c1 : W.cell? ⟨w.heap.size, 1, none⟩ = some (.int .i64 0) := by subst hW; simp
  have c2 : W.cell? ⟨w.heap.size, 2, none⟩ = some (.string s) := by subst hW; simp
  have c3 : W.cell? ⟨w.heap.size, 3, none⟩ = some (.float .f64 0) := by subst hW; simp
  have hu : Hid (Up w W) := by subst hW; exact (Up.refl _).alloc _
  go_enter Tryz.func7, Tryz.ntmps7
  go_wp2_with fail
  go_at_call 17
  refine (ris_calls _ _ _ _ _).mono ?_
  rintro _ w1 ⟨rfl, hu1⟩
  replace c0 := hu1.cell c0
  replace c1 := hu1.cell c1
  replace c2 := hu1.cell c2
  replace c3 := hu1.cell c3
  replace hu := hide (hu.out.trans hu1)
  clear hu1 hW
  rw [t_str (.inl rfl) hs]
  go_wp2_with fail
  go_loopw [3, 4] (fun b i wr => ∃ k : Nat, k ≤ s.size ∧ i = .int .i64 k ∧ Own wr w1.heap.size b (34 :: quoL (s.data.toList.take k)) ∧ Below w1.heap.size w1 wr) (fun _ i _ => s.size - (intOf i).toNat)
  case atStart => exact ⟨0, Nat.zero_le _, rfl, own_lit w1 _ _ 34 rfl (Nat.le_refl _), Below.alloc (Below.refl _ _) (Nat.le_refl _) _⟩
  case round =>
    obtain ⟨k, hk, rfl, ho, hbel⟩ := hrel
    have hbs := hbel.size
    have hel := quo_len s k
    replace c2 := (Up.cell (w := w1) hbel) c2
    obtain ⟨m, hm⟩ : ∃ m, m = 34 :: quoL (s.data.toList.take k) := ⟨_, rfl⟩
    have hl2 : m.length ≤ 1000 := by rw [hm, List.length_cons]; omega
    rw [← hm] at ho
    replace hm := hide hm
    by_cases hlt : k < s.size
    · have hst := hide (quo_step s k hlt)
      by_cases h34 : s[k] = 34 ∨ s[k] = 92
      · have hq : Hid (quoC s[k] = [92, s[k]]) := by unfold quoC; exact if_pos h34
        by_cases h3 : s[k] = 34
        · have n1 : ((s[k].toNat : Int) == 34) = true := by rw [h3]; rfl
          clear h34 h3
          go_wp2_with (at_builtin; refine append_bytes rfl _ _ rfl w1.heap.size _ _ rfl (ho.alloc _) _ 2 2 [92, s[k]] rfl rfl (bytes_new2 rfl rfl) (by omega) (Nat.le_trans hbs (by simp)) ?_)
          intro u1 w2 ho1 hg1
          have hb1 := hide (below_append hbel hbs ho hg1)
          replace ho1 := hide ho1
          clear hg1 ho hbel
          go_wp2
          go_roundw
          case rel =>
            refine ⟨k + 1, by omega, by go_num, ?_, hb1.out⟩
            have h2 := ho1.out
            rw [hm.out] at h2
            rw [hst.out, hq.out]
            exact h2
          case measure => simp [intOf]; omega
        · have n1 : ((s[k].toNat : Int) == 34) = false := beq_eq_false_iff_ne.2 fun e => h3 (UInt8.toNat_inj.1 (by simp; omega))
          have n2 : ((s[k].toNat : Int) == 92) = true := by rw [h34.resolve_left h3]; rfl
          clear h34 h3
          go_wp2_with (at_builtin; refine append_bytes rfl _ _ rfl w1.heap.size _ _ rfl (ho.alloc _) _ 2 2 [92, s[k]] rfl rfl (bytes_new2 rfl rfl) (by omega) (Nat.le_trans hbs (by simp)) ?_)
          intro u1 w2 ho1 hg1
          have hb1 := hide (below_append hbel hbs ho hg1)
          replace ho1 := hide ho1
          clear hg1 ho hbel
          go_wp2
          go_roundw
          case rel =>
            refine ⟨k + 1, by omega, by go_num, ?_, hb1.out⟩
            have h2 := ho1.out
            rw [hm.out] at h2
            rw [hst.out, hq.out]
            exact h2
          case measure => simp [intOf]; omega
      · have n1 : ((s[k].toNat : Int) == 34) = false := beq_eq_false_iff_ne.2 fun e => h34 (.inl (UInt8.toNat_inj.1 (by simp; omega)))
        have n2 : ((s[k].toNat : Int) == 92) = false := beq_eq_false_iff_ne.2 fun e => h34 (.inr (UInt8.toNat_inj.1 (by simp; omega)))
        by_cases hp : 32 ≤ s[k].toNat ∧ s[k].toNat ≤ 126
        · have hq : Hid (quoC s[k] = [s[k]]) := by unfold quoC; rw [if_neg h34, if_pos hp]; rfl
          have p1 : decide ((32 : Int) ≤ (s[k].toNat : Int)) = true := decide_eq_true (by omega)
          have p2 : decide ((s[k].toNat : Int) ≤ 126) = true := decide_eq_true (by omega)
          clear h34 hp
          go_wp2_with (at_builtin; refine append_bytes rfl _ _ rfl w1.heap.size _ _ rfl (ho.alloc _) _ 1 1 [s[k]] rfl rfl (byte_new rfl) (by omega) (Nat.le_trans hbs (by simp)) ?_)
          intro u1 w2 ho1 hg1
          have hb1 := hide (below_append hbel hbs ho hg1)
          replace ho1 := hide ho1
          clear hg1 ho hbel
          go_wp2
          go_roundw
          case rel =>
            refine ⟨k + 1, by omega, by go_num, ?_, hb1.out⟩
            have h2 := ho1.out
            rw [hm.out] at h2
            rw [hst.out, hq.out]
            exact h2
          case measure => simp [intOf]; omega
        · have hq : Hid (quoC s[k] = [92, 120, hexHi s[k], hexLo s[k]]) := by unfold quoC; rw [if_neg h34, if_neg hp]; rfl
          by_cases h32 : 32 ≤ s[k].toNat
          · have p1 : decide ((32 : Int) ≤ (s[k].toNat : Int)) = true := decide_eq_true (by omega)
            have p2 : decide ((s[k].toNat : Int) ≤ 126) = false := decide_eq_false (by omega)
            clear h34 hp
            go_wp2_with (at_builtin; refine append_bytes rfl _ _ rfl w1.heap.size _ _ rfl (ho.alloc _) _ 2 2 [92, 120] rfl rfl (bytes_new2 rfl rfl) (by omega) (Nat.le_trans hbs (by simp)) ?_)
            intro u1 w2 ho1 hg1
            have hb1 := hide (below_append hbel hbs ho hg1)
            have hbs2 := hb1.out.size
            have hl3 : (m ++ [92, 120]).length ≤ 1000000 := by rw [List.length_append]; simp only [List.length_cons, List.length_nil]; omega
            replace ho1 := hide ho1
            clear hg1 ho hbel
            go_wp2_with fail
            go_at_call 19
            refine (rtwo_calls w1.heap.size _ (m ++ [92, 120]) s[k] w2 ho1.out hbs2 hl3).mono ?_
            rintro _ w3 ⟨v2, rfl, ho2, hb2⟩
            replace ho2 := hide ho2
            have HB2 := hide (Below.trans hb1.out hb2)
            clear hb2 ho1 hb1
            go_wp2
            go_roundw
            case rel =>
              refine ⟨k + 1, by omega, by go_num, ?_, HB2.out⟩
              have h2 := ho2.out
              rw [hm.out, List.append_assoc] at h2
              rw [hst.out, hq.out]
              exact h2
            case measure => simp [intOf]; omega
          · have p1 : decide ((32 : Int) ≤ (s[k].toNat : Int)) = false := decide_eq_false (by omega)
            clear h34 hp
            go_wp2_with (at_builtin; refine append_bytes rfl _ _ rfl w1.heap.size _ _ rfl (ho.alloc _) _ 2 2 [92, 120] rfl rfl (bytes_new2 rfl rfl) (by omega) (Nat.le_trans hbs (by simp)) ?_)
            intro u1 w2 ho1 hg1
            have hb1 := hide (below_append hbel hbs ho hg1)
            have hbs2 := hb1.out.size
            have hl3 : (m ++ [92, 120]).length ≤ 1000000 := by rw [List.length_append]; simp only [List.length_cons, List.length_nil]; omega
            replace ho1 := hide ho1
            clear hg1 ho hbel
            go_wp2_with fail
            go_at_call 19
            refine (rtwo_calls w1.heap.size _ (m ++ [92, 120]) s[k] w2 ho1.out hbs2 hl3).mono ?_
            rintro _ w3 ⟨v2, rfl, ho2, hb2⟩
            replace ho2 := hide ho2
            have HB2 := hide (Below.trans hb1.out hb2)
            clear hb2 ho1 hb1
            go_wp2
            go_roundw
            case rel =>
              refine ⟨k + 1, by omega, by go_num, ?_, HB2.out⟩
              have h2 := ho2.out
              rw [hm.out, List.append_assoc] at h2
              rw [hst.out, hq.out]
              exact h2
            case measure => simp [intOf]; omega
    · obtain rfl : k = s.size := by omega
      go_wp2_with (at_builtin; refine append_bytes rfl _ _ rfl w1.heap.size _ _ rfl (ho.alloc _) _ 1 1 [34] rfl rfl (byte_new rfl) (by omega) (Nat.le_trans hbs (by simp)) ?_)
      intro u1 w2 ho1 hg1
      have hb1 := hide (below_append hbel hbs ho hg1)
      have hcv := ho1.conv
      clear hg1 ho hbel ho1
      go_wp2
      go_ret
      refine ⟨?_, hu.out.trans hb1.out⟩
      have hm2 := hm.out
      rw [take_whole] at hm2
      rw [hm2]
      rfl

end Go.Proofs.YtjnnmghehoodhaaGreatDoor

namespace Go.Proofs.YtjnnmghehoodhaaGreatDoor

theorem rprint_calls (k n : Int) (s : ByteArray) (f : Nat) (w : World) (hf : Fits (k, n, s, f)) :
    Calls Tryz.prog 7 #[.agg #[.int .i64 k, .int .i64 n, .string s, .float .f64 f]] w fun e w' => e = .returned (.string ⟨(prnV (k, n, s, f)).toArray⟩) ∧ Up w w' := by
  by_cases hv : isB (k, n, s, f) = true
  · rcases t_cases hv with ⟨rfl, rfl, rfl⟩ | ⟨rfl, rfl | rfl, rfl, rfl⟩ | ⟨rfl | rfl, rfl, hs, rfl⟩ | ⟨rfl, rfl, rfl⟩
    · rw [prn_int]; exact rprint_int n w ⟨hf.2.2.1, hf.2.2.2.1⟩
    · rw [prn_false]; exact rprint_false w
    · rw [prn_true]; exact rprint_true w
    · rw [prn_str hs]; exact rprint_str s w hs
    · rw [prn_bytes hs]; exact rprint_bytes s w hs
    · rw [prn_float]; exact rprint_float f w
  · rw [prnV, if_neg hv]
    exact rprint_none k n s f w (by simpa using hv)

end Go.Proofs.YtjnnmghehoodhaaGreatDoor

namespace Go.Proofs.YtjnnmghehoodhaaGreatDoor
open Go.ChangeShapes Go.WideShapes Go.ChangeAt Go.RowKit
attribute [local go_sem ↓] Go.wp_at_zero Go.wp_at_succ
set_option maxRecDepth 100000

theorem drop_at (s : ByteArray) (k : Nat) (h : k < s.size) : s.data.toList.drop k = s[k] :: s.data.toList.drop (k + 1) := by
  have hl : k < s.data.toList.length := by simpa using h
  rw [List.drop_eq_getElem_cons hl]
  congr 1

theorem Own.drew {w : World} {base : Nat} {v : Value} {l : List UInt8} (h : Own w base v l) : Own w.drew base v l := h
theorem up_grown {w W W' w' : World} {v : Value} {l : List UInt8} (hu : Up w W) (hg : W.grownBy w' v.ownBlock) (hown : Own W' w.heap.size v l) : Up w w' :=
  Below.grown hu hg hu.size fun k hk => (hown.lt k hk).1
/-- append of bytes at a step of a region that draws its order. -/
theorem step_bytes {w : World} {ops : Array Oper} {o : Oper} {a : Act} {K : Act → World → Prop} {Q : Exit → Act → World → Prop} {E : Prop} (hgd : o.guard = none) (s x : Operand)
    (ho : o.op = .call { callee := .builtin .append, args := #[s, x], argTypes := #[42, 42] }) (base : Nat) (v : Value) (l : List UInt8) (hs : a.eval s = v) (hown : Own w base v l)
    (ad : Addr) (m c : Nat) (new : List UInt8) (hx : a.eval x = .slice (some ad) m c) (hm : new.length = m) (hp : 0 < m) (hnews : ∀ j u, (bcells new)[j]? = some u → w.cell? (ad.add j) = some u)
    (hlen : l.length + m ≤ 1000000000000) (hbase : base ≤ w.heap.size)
    (h : ∀ v' w', Own w' base v' (l ++ new) → w.grownBy w' v.ownBlock → K (a.put o.dst v') w') : if Region.wanted o (yielded ops a.tmps) = true then Oper.wp Tryz.prog o a w K Q else E := by
  obtain ⟨i0, hi, hz0, hz1, hz2⟩ := info_parts info_byte
  refine step_append_lies w hgd s x 42 ho base 5 i0 (.int .u8 0) 1 1 Tryz.underlying42 hi hz0 hz1 hz2 rfl (by decide) v l.length (bcells l) hs hown ad m c (bcells new) hx
    (by rw [bcells_length, hm, Nat.mul_one]) hnews (bcells_one new) hp (by unfold maxLen; omega) (by omega) hbase _ rfl fun g cap w' h1 h2 _ _ => h _ w' ?_ h2
  unfold Own
  rw [List.length_append, bcells_append, hm]
  exact h1

/-- Bytes that were read out of digits, or none. -/
def BytesPost (w : World) (s : List UInt8) (e : Ending) (w' : World) : Prop :=
  Up w w' ∧ ((∃ l v, unhexL s = some l ∧ e = .returned (.tuple #[v, .bool true]) ∧ Own w' w.heap.size v l) ∨ (unhexL s = none ∧ e = .returned (.tuple #[.slice none 0 0, .bool false])))

set_option maxHeartbeats 4000000 in
theorem rbytes_calls (s : ByteArray) (hs : s.size ≤ 1000000) (w : World) : Calls Tryz.prog 42 #[.string s] w fun e w' => BytesPost w s.data.toList e w' := by
  go_enter Tryz.func42, Tryz.ntmps42
  go_wp2_with fail
  go_loopw [4, 5] (fun b i wr => ∃ (k : Nat) (g : List UInt8), k ≤ s.size ∧ i = .int .i64 (k : Int) ∧ g.length ≤ k ∧ Own wr w.heap.size b g ∧ Up w wr ∧ Hid (unhexL s.data.toList = (unhexL (s.data.toList.drop k)).map fun x => g ++ x)) (fun _ i _ => s.size - (intOf i).toNat)
  case atStart => exact ⟨0, [], Nat.zero_le _, rfl, Nat.le_refl _, Own.nil _ _, Up.refl _, by simp [Hid]⟩
  case round =>
    obtain ⟨k, g, hk, rfl, hgk, ho, hu, he⟩ := hrel
    replace hu := hide hu
    by_cases hlt : k < s.size
    · by_cases h1 : k + 1 = s.size
      · have t1 : ((k : Int) + 1 == (s.size : Int)) = true := by rw [beq_iff_eq]; omega
        have hno : Hid (unhexL s.data.toList = none) := by
          have h2 : s.data.toList.drop (k + 1) = [] := List.drop_eq_nil_of_le (by simp; omega)
          show unhexL s.data.toList = none
          rw [he.out, drop_at s k hlt, h2, unhexL]; rfl
        replace ho := hide ho
        clear he
        go_wp2
        go_ret2
        exact ⟨hu.out, .inr ⟨hno.out, rfl⟩⟩
      · have t1 : ((k : Int) + 1 == (s.size : Int)) = false := by rw [beq_eq_false_iff_ne]; omega
        have hk1 : k + 1 < s.size := by omega
        have hdr : s.data.toList.drop k = s[k] :: s[k + 1] :: s.data.toList.drop (k + 2) := by rw [drop_at s k hlt, drop_at s (k + 1) hk1]
        rw [hdr] at he
        obtain ⟨r, hr⟩ : ∃ r, r = s.data.toList.drop (k + 2) := ⟨_, rfl⟩
        rw [← hr] at he
        replace hr := hide hr
        clear hdr
        cases hx : unhexD s[k] with
        | none =>
          have t2 : decide (unhexI s[k] < 0) = true := by unfold unhexI; rw [hx]; decide
          have hno : Hid (unhexL s.data.toList = none) := by
            show unhexL s.data.toList = none
            rw [he.out, unhexL, hx]; rfl
          replace ho := hide ho
          clear he hx
          go_wp2_with (go_at_call 58; refine (runhex_calls _ _).mono ?_; rintro _ _ ⟨rfl, rfl⟩)
          go_ret2
          exact ⟨hu.out, .inr ⟨hno.out, rfl⟩⟩
        | some x =>
          have tx : unhexI s[k] = (x : Int) := by unfold unhexI; rw [hx]
          have t2 : decide (unhexI s[k] < 0) = false := by rw [tx]; exact decide_eq_false (by omega)
          cases hy : unhexD s[k + 1] with
          | none =>
            have t3 : decide (unhexI s[k + 1] < 0) = true := by unfold unhexI; rw [hy]; decide
            have hno : Hid (unhexL s.data.toList = none) := by
              show unhexL s.data.toList = none
              rw [he.out, unhexL, hx, hy]; rfl
            replace ho := hide ho
            clear he hx hy tx
            go_wp2_with (go_at_call 58; refine (runhex_calls _ _).mono ?_; rintro _ _ ⟨rfl, rfl⟩)
            go_ret2
            exact ⟨hu.out, .inr ⟨hno.out, rfl⟩⟩
          | some y =>
            have ty : unhexI s[k + 1] = (y : Int) := by unfold unhexI; rw [hy]
            have t3 : decide (unhexI s[k + 1] < 0) = false := by rw [ty]; exact decide_eq_false (by omega)
            obtain ⟨hx16, -⟩ := unhexD_lt hx
            obtain ⟨hy16, -⟩ := unhexD_lt hy
            have hyes : Hid (unhexL s.data.toList = (unhexL r).map fun q => (g ++ [UInt8.ofNat (16 * x + y)]) ++ q) := by
              show unhexL s.data.toList = _
              rw [he.out, unhexL, hx, hy]
              cases unhexL r <;> simp
            have hbyte : IntKind.u8.wrap (IntKind.i64.wrap (IntKind.i64.wrap (16 * (x : Int)) + (y : Int))) = ((UInt8.ofNat (16 * x + y)).toNat : Int) := by
              rw [UInt8.toNat_ofNat']
              simp [IntKind.wrap, IntKind.signed, IntKind.bits]
              omega
            replace hbyte := hide hbyte
            replace ho := hide ho
            clear he hx hy
            go_wp2_with (go_at_call 58; refine (runhex_calls _ _).mono ?_; rintro _ _ ⟨rfl, rfl⟩)
            have b0 : (k : Int) + 1 < (s.size : Int) := by omega
            have b1 : (0 : Int) ≤ (k : Int) + 1 := by omega
            have b2 : ¬ ((k : Int) + 1 < 0) := by omega
            have b3 : (k : Int) < (s.size : Int) := by omega
            have b4 : ((k : Int) + 1).toNat = k + 1 := by omega
            have b5 : IntKind.i64.wrap ((k : Int) + 1) = (k : Int) + 1 := by
              simp [IntKind.wrap, IntKind.signed, IntKind.bits]
              omega
            go_region_held3 (fun _ => True) (trivial)
              (first
                | (go_at_call 58; refine (runhex_calls _ _).mono ?_; rintro _ _ ⟨rfl, rfl⟩)
                | (refine step_bytes (by rfl) _ _ (by rfl) w.heap.size _ g (by rfl) (Own.alloc (Own.drew ho.out) _) _ 1 1 [UInt8.ofNat (16 * x + y)] (by rfl) rfl (by decide) (byte_new hbyte.out) (by omega) (Nat.le_trans hu.out.size (by simp)) ?_; intro v2 w2 ho2 hg2))
            all_goals have hb2 := hide (up_grown ((hu.out.alloc _).drew) hg2 ho.out)
            all_goals replace ho2 := hide ho2
            all_goals clear hg2 ho hu
            all_goals go_wp2
            all_goals go_roundw
            all_goals first
              | exact ⟨k + 2, _, by omega, by go_num, by rw [List.length_append]; simp only [List.length_singleton]; omega, ho2.out, hb2.out, by rw [← hr.out]; exact hyes.out⟩
              | (simp [intOf]; omega)
    · have hyes : Hid (unhexL s.data.toList = some g) := by
        show unhexL s.data.toList = some g
        rw [he.out, List.drop_eq_nil_of_le (by simp; omega), unhexL]; simp
      obtain rfl : k = s.size := by omega
      replace ho := hide ho
      clear he
      go_wp2
      go_ret2
      exact ⟨hu.out, .inl ⟨_, _, hyes.out, rfl, ho.out⟩⟩

end Go.Proofs.YtjnnmghehoodhaaGreatDoor

namespace Go.Proofs.YtjnnmghehoodhaaGreatDoor
open Go.ChangeShapes Go.WideShapes Go.ChangeAt Go.RowKit
attribute [local go_sem ↓] Go.wp_at_zero Go.wp_at_succ
set_option maxRecDepth 100000

theorem wrap_small {z : Int} (h0 : 0 ≤ z) (h1 : z ≤ 9223372036854775807) : IntKind.i64.wrap z = z := by
  simp [IntKind.wrap, IntKind.signed, IntKind.bits]
  omega
theorem byte_yes {c d : UInt8} (h : c = d) : ((c.toNat : Int) == (d.toNat : Int)) = true := by rw [h]; simp
theorem byte_no {c d : UInt8} (h : ¬ c = d) : ((c.toNat : Int) == (d.toNat : Int)) = false := by
  rw [beq_eq_false_iff_ne]
  intro e
  exact h (UInt8.toNat_inj.1 (by omega))
theorem hexAt_none1 {r : List UInt8} (h : r.length < 2) : hexAt r = none := by
  match r, h with
  | [], _ => rfl
  | [_], _ => rfl
theorem unqL_none {d : UInt8} {r : List UInt8} (h : (if d = 120 then hexAt r else none) = none) : unqL (92 :: d :: r) = d :: unqL r := by
  by_cases hd : d = 120
  · subst hd
    rw [if_pos rfl] at h
    exact unqL_nohex h
  · exact unqL_sign hd r
theorem hexAt_none2 {a b : UInt8} {r : List UInt8} (h : unhexD a = none ∨ unhexD b = none) : hexAt (a :: b :: r) = none := by
  rcases h with h | h
  · rw [hexAt, h]
  · rw [hexAt, h]; cases unhexD a <;> rfl
theorem hexAt_some {a b : UInt8} {r : List UInt8} {x y : Nat} (hx : unhexD a = some x) (hy : unhexD b = some y) : hexAt (a :: b :: r) = some (UInt8.ofNat (16 * x + y)) := by
  rw [hexAt, hx, hy]
theorem unhexI_some {c : UInt8} {x : Nat} (h : unhexD c = some x) : unhexI c = (x : Int) := by unfold unhexI; rw [h]
theorem unhexI_neg {c : UInt8} (h : unhexD c = none) : unhexI c = -1 := by unfold unhexI; rw [h]

set_option maxHeartbeats 4000000 in
theorem runq_calls (s : ByteArray) (hs : s.size ≤ 1000000) (w : World) : Calls Tryz.prog 41 #[.string s] w fun e w' => e = .returned (.string ⟨(unqL (s.data.toList.drop 1)).toArray⟩) ∧ Up w w' := by
  go_enter Tryz.func41, Tryz.ntmps41
  go_wp2_with fail
  go_loopw [3, 4] (fun b i wr => ∃ (k : Nat) (g : List UInt8), 1 ≤ k ∧ k ≤ s.size + 1 ∧ i = .int .i64 (k : Int) ∧ g.length ≤ k ∧ Own wr w.heap.size b g ∧ Up w wr ∧ Hid (unqL (s.data.toList.drop 1) = g ++ unqL (s.data.toList.drop k))) (fun _ i _ => s.size + 1 - (intOf i).toNat)
  case atStart => exact ⟨1, [], Nat.le_refl _, by omega, rfl, by simp, Own.nil _ _, Up.refl _, rfl⟩
  case round =>
    obtain ⟨k, g, hk1, hk, rfl, hgk, ho, hu, he⟩ := hrel
    replace hu := hide hu
    have w1 : IntKind.i64.wrap ((k : Int) + 1) = (k : Int) + 1 := wrap_small (by omega) (by omega)
    by_cases hlt : k + 1 < s.size
    · have t0 : decide ((k : Int) + 1 < (s.size : Int)) = true := decide_eq_true (by omega)
      have hd1 := drop_at s k (by omega)
      have hd2 := drop_at s (k + 1) hlt
      obtain ⟨r, hr⟩ : ∃ r, r = s.data.toList.drop (k + 2) := ⟨_, rfl⟩
      rw [hd1, hd2, ← hr] at he
      have hrl : r.length = s.size - (k + 2) := by rw [hr, List.length_drop]; simp
      have b0 : (k : Int) < (s.size : Int) := by omega
      have b1 : (k : Int) + 1 < (s.size : Int) := by omega
      have b2 : (0 : Int) ≤ (k : Int) + 1 := by omega
      have b4 : ((k : Int) + 1).toNat = k + 1 := by omega
      by_cases hc : s[k] = 92
      · have n1 : ((s[k].toNat : Int) == 92) = true := byte_yes (d := 92) hc
        have w2 : IntKind.i64.wrap ((k : Int) + 2) = (k : Int) + 2 := wrap_small (by omega) (by omega)
        have w3 : IntKind.i64.wrap ((k : Int) + 3) = (k : Int) + 3 := wrap_small (by omega) (by omega)
        by_cases hx : s[k + 1] = 120
        · have n2 : ((s[k + 1].toNat : Int) == 120) = true := byte_yes (d := 120) hx
          by_cases h3 : k + 3 < s.size
          · have t3 : decide ((k : Int) + 3 < (s.size : Int)) = true := decide_eq_true (by omega)
            have b5 : (k : Int) + 3 < (s.size : Int) := by omega
            have b6 : (k : Int) + 2 < (s.size : Int) := by omega
            have b7 : ((k : Int) + 2).toNat = k + 2 := by omega
            have b8 : ((k : Int) + 3).toNat = k + 3 := by omega
            have b9 : (0 : Int) ≤ (k : Int) + 2 := by omega
            have b10 : (0 : Int) ≤ (k : Int) + 3 := by omega
            have hd3 : r = s[k + 2] :: s[k + 3] :: s.data.toList.drop (k + 4) := by rw [hr, drop_at s (k + 2) (by omega), drop_at s (k + 3) h3]
            cases ha : unhexD s[k + 2] with
            | none =>
              have ta := unhexI_neg ha
              have hh : (if s[k + 1] = 120 then hexAt r else none) = none := by rw [if_pos hx, hd3]; exact hexAt_none2 (.inl ha)
              have hf : Hid (unqL (s.data.toList.drop 1) = (g ++ [s[k + 1]]) ++ unqL (s.data.toList.drop (k + 2))) := by
                show unqL (s.data.toList.drop 1) = _
                rw [he.out, hc, unqL_none hh, ← hr]; simp
              clear hx ha hd3
              clear he hd1 hd2 hr hrl hc hh
              go_wp2_with (first
                | (go_at_call 58; refine (runhex_calls _ _).mono ?_; rintro _ _ ⟨rfl, rfl⟩)
                | (at_builtin; refine append_bytes rfl _ _ rfl w.heap.size _ g rfl (ho.alloc _) _ 1 1 [s[k + 1]] rfl rfl (byte_new rfl) (by omega) (Nat.le_trans hu.out.size (by simp)) ?_))
              intro u1 w2 ho1 hg1
              have hb1 := hide (up_grown (hu.out.alloc _) hg1 ho)
              replace ho1 := hide ho1
              clear hg1 ho hu
              go_wp2
              go_roundw
              case rel => exact ⟨k + 2, _, by omega, by omega, by go_num, by rw [List.length_append]; simp only [List.length_singleton]; omega, ho1.out, hb1.out, hf.out⟩
              case measure => simp [intOf]; omega
            | some x =>
              have ta := unhexI_some ha
              cases hb : unhexD s[k + 3] with
              | none =>
                have tb := unhexI_neg hb
                have hh : (if s[k + 1] = 120 then hexAt r else none) = none := by rw [if_pos hx, hd3]; exact hexAt_none2 (.inr hb)
                have hf : Hid (unqL (s.data.toList.drop 1) = (g ++ [s[k + 1]]) ++ unqL (s.data.toList.drop (k + 2))) := by
                  show unqL (s.data.toList.drop 1) = _
                  rw [he.out, hc, unqL_none hh, ← hr]; simp
                clear hx ha hb hd3
                clear he hd1 hd2 hr hrl hc hh
                go_wp2_with (first
                  | (go_at_call 58; refine (runhex_calls _ _).mono ?_; rintro _ _ ⟨rfl, rfl⟩)
                  | (at_builtin; refine append_bytes rfl _ _ rfl w.heap.size _ g rfl (ho.alloc _) _ 1 1 [s[k + 1]] rfl rfl (byte_new rfl) (by omega) (Nat.le_trans hu.out.size (by simp)) ?_))
                intro u1 w2 ho1 hg1
                have hb1 := hide (up_grown (hu.out.alloc _) hg1 ho)
                replace ho1 := hide ho1
                clear hg1 ho hu
                go_wp2
                go_roundw
                case rel => exact ⟨k + 2, _, by omega, by omega, by go_num, by rw [List.length_append]; simp only [List.length_singleton]; omega, ho1.out, hb1.out, hf.out⟩
                case measure => simp [intOf]; omega
              | some y =>
                have tb := unhexI_some hb
                obtain ⟨hx16, -⟩ := unhexD_lt ha
                obtain ⟨hy16, -⟩ := unhexD_lt hb
                have hf : Hid (unqL (s.data.toList.drop 1) = (g ++ [UInt8.ofNat (16 * x + y)]) ++ unqL (s.data.toList.drop (k + 4))) := by
                  show unqL (s.data.toList.drop 1) = _
                  have hh : hexAt r = some (UInt8.ofNat (16 * x + y)) := by rw [hd3]; exact hexAt_some ha hb
                  have hd4 : r.drop 2 = s.data.toList.drop (k + 4) := by rw [hr, List.drop_drop]
                  rw [he.out, hc, hx, unqL_hex hh, hd4]; simp
                have t4 : decide ((x : Int) < 0) = false := decide_eq_false (by omega)
                have t5 : decide ((0 : Int) ≤ (x : Int)) = true := decide_eq_true (by omega)
                have t6 : decide ((0 : Int) ≤ (y : Int)) = true := decide_eq_true (by omega)
                have hbyte : IntKind.u8.wrap (IntKind.i64.wrap (IntKind.i64.wrap (16 * (x : Int)) + (y : Int))) = ((UInt8.ofNat (16 * x + y)).toNat : Int) := by
                  rw [UInt8.toNat_ofNat']
                  simp [IntKind.wrap, IntKind.signed, IntKind.bits]
                  omega
                replace hbyte := hide hbyte
                replace ho := hide ho
                clear he hd1 hd2 hr hrl hc hx ha hb hd3
                go_wp2_with (go_at_call 58; refine (runhex_calls _ _).mono ?_; rintro _ _ ⟨rfl, rfl⟩)
                go_region_held3 (fun _ => True) (trivial)
                  (first
                    | (go_at_call 58; refine (runhex_calls _ _).mono ?_; rintro _ _ ⟨rfl, rfl⟩)
                    | (refine step_bytes (by rfl) _ _ (by rfl) w.heap.size _ g (by rfl) (Own.alloc (Own.drew ho.out) _) _ 1 1 [UInt8.ofNat (16 * x + y)] (by rfl) rfl (by decide) (byte_new hbyte.out) (by omega) (Nat.le_trans hu.out.size (by simp)) ?_; intro v2 w2 ho2 hg2))
                all_goals have hb2 := hide (up_grown ((hu.out.alloc _).drew) hg2 ho.out)
                all_goals replace ho2 := hide ho2
                all_goals clear hg2 ho hu
                all_goals go_wp2
                all_goals go_roundw
                all_goals first
                  | exact ⟨k + 4, _, by omega, by omega, by go_num, by rw [List.length_append]; simp only [List.length_singleton]; omega, ho2.out, hb2.out, hf.out⟩
                  | (simp [intOf]; omega)
          · have t3 : decide ((k : Int) + 3 < (s.size : Int)) = false := decide_eq_false (by omega)
            have hh : (if s[k + 1] = 120 then hexAt r else none) = none := by rw [if_pos hx]; exact hexAt_none1 (by omega)
            have hf : Hid (unqL (s.data.toList.drop 1) = (g ++ [s[k + 1]]) ++ unqL (s.data.toList.drop (k + 2))) := by
              show unqL (s.data.toList.drop 1) = _
              rw [he.out, hc, unqL_none hh, ← hr]; simp
            clear hx
            clear he hd1 hd2 hr hrl hc hh
            go_wp2_with (first
              | (go_at_call 58; refine (runhex_calls _ _).mono ?_; rintro _ _ ⟨rfl, rfl⟩)
              | (at_builtin; refine append_bytes rfl _ _ rfl w.heap.size _ g rfl (ho.alloc _) _ 1 1 [s[k + 1]] rfl rfl (byte_new rfl) (by omega) (Nat.le_trans hu.out.size (by simp)) ?_))
            intro u1 w2 ho1 hg1
            have hb1 := hide (up_grown (hu.out.alloc _) hg1 ho)
            replace ho1 := hide ho1
            clear hg1 ho hu
            go_wp2
            go_roundw
            case rel => exact ⟨k + 2, _, by omega, by omega, by go_num, by rw [List.length_append]; simp only [List.length_singleton]; omega, ho1.out, hb1.out, hf.out⟩
            case measure => simp [intOf]; omega
        · have n2 : ((s[k + 1].toNat : Int) == 120) = false := byte_no (d := 120) hx
          have hh : (if s[k + 1] = 120 then hexAt r else none) = none := if_neg hx
          have hf : Hid (unqL (s.data.toList.drop 1) = (g ++ [s[k + 1]]) ++ unqL (s.data.toList.drop (k + 2))) := by
            show unqL (s.data.toList.drop 1) = _
            rw [he.out, hc, unqL_none hh, ← hr]; simp
          clear hx
          clear he hd1 hd2 hr hrl hc hh
          go_wp2_with (first
            | (go_at_call 58; refine (runhex_calls _ _).mono ?_; rintro _ _ ⟨rfl, rfl⟩)
            | (at_builtin; refine append_bytes rfl _ _ rfl w.heap.size _ g rfl (ho.alloc _) _ 1 1 [s[k + 1]] rfl rfl (byte_new rfl) (by omega) (Nat.le_trans hu.out.size (by simp)) ?_))
          intro u1 w2 ho1 hg1
          have hb1 := hide (up_grown (hu.out.alloc _) hg1 ho)
          replace ho1 := hide ho1
          clear hg1 ho hu
          go_wp2
          go_roundw
          case rel => exact ⟨k + 2, _, by omega, by omega, by go_num, by rw [List.length_append]; simp only [List.length_singleton]; omega, ho1.out, hb1.out, hf.out⟩
          case measure => simp [intOf]; omega
      · have n1 : ((s[k].toNat : Int) == 92) = false := byte_no (d := 92) hc
        have hf : Hid (unqL (s.data.toList.drop 1) = (g ++ [s[k]]) ++ unqL (s.data.toList.drop (k + 1))) := by
          show unqL (s.data.toList.drop 1) = _
          rw [he.out, unqL_plain hc, hd2, ← hr]; simp
        clear he hd1 hd2 hr hrl hc
        go_wp2_with (at_builtin; refine append_bytes rfl _ _ rfl w.heap.size _ g rfl (ho.alloc _) _ 1 1 [s[k]] rfl rfl (byte_new rfl) (by omega) (Nat.le_trans hu.out.size (by simp)) ?_)
        intro u1 w2 ho1 hg1
        have hb1 := hide (up_grown (hu.out.alloc _) hg1 ho)
        replace ho1 := hide ho1
        clear hg1 ho hu
        go_wp2
        go_roundw
        case rel => exact ⟨k + 1, _, by omega, by omega, by go_num, by rw [List.length_append]; simp only [List.length_singleton]; omega, ho1.out, hb1.out, hf.out⟩
        case measure => simp [intOf]; omega
    · have t0 : decide ((k : Int) + 1 < (s.size : Int)) = false := decide_eq_false (by omega)
      have hf : Hid (unqL (s.data.toList.drop 1) = g) := by
        show unqL (s.data.toList.drop 1) = g
        rw [he.out]
        have hl : (s.data.toList.drop k).length ≤ 1 := by rw [List.length_drop]; simp; omega
        cases hd : s.data.toList.drop k with
        | nil => rw [unqL_nil]; simp
        | cons c q =>
          cases q with
          | nil => rw [unqL_one]; simp
          | cons d q => rw [hd] at hl; simp at hl
      have hcv := ho.conv
      clear he ho
      go_wp2
      go_ret
      refine ⟨?_, hu.out⟩
      rw [hf.out]
      rfl

end Go.Proofs.YtjnnmghehoodhaaGreatDoor

namespace Go.Proofs.YtjnnmghehoodhaaGreatDoor
open Go.ChangeShapes Go.WideShapes Go.ChangeAt Go.RowKit
attribute [local go_sem ↓] Go.wp_at_zero Go.wp_at_succ
set_option maxRecDepth 100000
attribute [local go_sem] run_store_float
set_option linter.unusedVariables false

def valA (v : VT) : Value := .agg #[.int .i64 v.1, .int .i64 v.2.1, .string v.2.2.1, .float .f64 v.2.2.2]
def ReadPost (w : World) (v : VT) (e : Ending) (w' : World) : Prop := e = .returned (.agg #[.int .i64 v.1, .int .i64 v.2.1, .string v.2.2.1, .float .f64 v.2.2.2]) ∧ Up w w'

theorem t_cell {w : World} {g i : Nat} {cs : Array Value} {t : TypeId} {fz : Nat × Nat} {v : Value} (h : w.heap[g]? = some (.cells cs t fz)) (hv : cs[i]? = some v) : w.cell? ⟨g, i, none⟩ = some v := by
  simp [World.cell?, h, hv]
theorem t_frozen {w : World} {g i : Nat} {cs : Array Value} {t : TypeId} (h : w.heap[g]? = some (.cells cs t (0, 0))) : w.frozen? ⟨g, i, none⟩ = false := by
  simp [World.frozen?, h]
/-- The block of a result that nothing was stored into yet. -/
def Res (w W : World) : Prop := W.heap[w.heap.size]? = some (.cells #[.int .i64 0, .int .i64 0, .string ⟨#[]⟩, .float .f64 0] 24 (0, 0))
theorem Res.up {w W W' : World} (h : Res w W) (hu : Up W W') : Res w W' := hu.heap h
theorem Res.new (w : World) : Res w (w.alloc (.cells #[.int .i64 0, .int .i64 0, .string ⟨#[]⟩, .float .f64 0] 24)) := heap_alloc_new _ _

set_option maxHeartbeats 4000000 in
theorem rread_true (w : World) : Calls Tryz.prog 22 #[.string ⟨#[116, 114, 117, 101]⟩] w fun e w' => ReadPost w (2, 1, ⟨#[]⟩, 0) e w' := by
  go_enter Tryz.func22, Tryz.ntmps22
  go_wp2
  refine bodyPost_ret (v := .agg #[.int .i64 (2), .int .i64 (1), .string ⟨#[]⟩, .float .f64 (0)]) (by simp [results, Tryz.results22, go_sem]) rfl ⟨rfl, ?_⟩
  exact ((Up.refl _).alloc _).alloc _

set_option maxHeartbeats 4000000 in
theorem rread_false (w : World) : Calls Tryz.prog 22 #[.string ⟨#[102, 97, 108, 115, 101]⟩] w fun e w' => ReadPost w (2, 0, ⟨#[]⟩, 0) e w' := by
  go_enter Tryz.func22, Tryz.ntmps22
  go_wp2
  refine bodyPost_ret (v := .agg #[.int .i64 (2), .int .i64 (0), .string ⟨#[]⟩, .float .f64 (0)]) (by simp [results, Tryz.results22, go_sem]) rfl ⟨rfl, ?_⟩
  exact ((Up.refl _).alloc _).alloc _

set_option maxHeartbeats 4000000 in
theorem rread_str (s : ByteArray) (hs : s.size ≤ 1000000) (w : World) (ht : (s.toList == [116, 114, 117, 101]) = false) (hf : (s.toList == [102, 97, 108, 115, 101]) = false) (h0 : 0 < s.size) (h34 : ((s[0].toNat : Int) == 34) = true) :
    Calls Tryz.prog 22 #[.string s] w fun e w' => ReadPost w (3, 0, ⟨(unqL (s.data.toList.drop 1)).toArray⟩, 0) e w' := by
  obtain ⟨t, hut⟩ : ∃ t, t = unqL (s.data.toList.drop 1) := ⟨_, rfl⟩
  have hq := runq_calls s hs
  rw [← hut] at hq ⊢
  clear hut
  obtain ⟨W, hW⟩ : ∃ W, w.alloc (.cells #[.int .i64 0, .int .i64 0, .string ⟨#[]⟩, .float .f64 0] 24) = W := ⟨_, rfl⟩
  have hres : Hid (Res w W) := by subst hW; exact Res.new w
  have hu : Hid (Up w W) := by subst hW; exact (Up.refl _).alloc _
  go_enter Tryz.func22, Tryz.ntmps22
  go_wp2_with fail
  go_at_call 41
  refine (hq W).mono ?_
  rintro _ w1 ⟨rfl, hu1⟩
  have hr1 := hres.out.up hu1
  have HU := hide (hu.out.trans hu1)
  have d0 : w1.cell? ⟨w.heap.size, 0, none⟩ = some (.int .i64 0) := t_cell hr1 rfl
  have d1 : w1.cell? ⟨w.heap.size, 1, none⟩ = some (.int .i64 0) := t_cell hr1 rfl
  have d2 : w1.cell? ⟨w.heap.size, 2, none⟩ = some (.string ⟨#[]⟩) := t_cell hr1 rfl
  have d3 : w1.cell? ⟨w.heap.size, 3, none⟩ = some (.float .f64 0) := t_cell hr1 rfl
  have f0 : w1.frozen? ⟨w.heap.size, 0, none⟩ = false := t_frozen hr1
  have f1 : w1.frozen? ⟨w.heap.size, 1, none⟩ = false := t_frozen hr1
  have f2 : w1.frozen? ⟨w.heap.size, 2, none⟩ = false := t_frozen hr1
  have f3 : w1.frozen? ⟨w.heap.size, 3, none⟩ = false := t_frozen hr1
  clear hu1 hr1 hu hres hW
  go_wp2
  refine bodyPost_ret (v := .agg #[.int .i64 (3), .int .i64 (0), .string ⟨t.toArray⟩, .float .f64 (0)]) (by simp [results, Tryz.results22, go_sem, d0, d1, d2, d3]) rfl ⟨rfl, ?_⟩
  exact ((HU.out.setCell (p := ⟨w.heap.size, 0, none⟩) (Nat.le_refl _) _).setCell (p := ⟨w.heap.size, 1, none⟩) (Nat.le_refl _) _ |>.setCell (p := ⟨w.heap.size, 2, none⟩) (Nat.le_refl _) _).setCell (p := ⟨w.heap.size, 3, none⟩) (Nat.le_refl _) _

theorem extract_tail (s : ByteArray) : (s.extract 1 s.size).data.toList = s.data.toList.drop 1 ∧ (s.extract 1 s.size).size = s.size - 1 := by
  constructor
  · rw [ByteArray.data_extract, Array.toList_extract, List.extract_eq_take_drop]
    exact List.take_of_length_le (by simp)
  · simp
theorem rbytes_tail (s : ByteArray) (hs : s.size ≤ 1000000) (w : World) : Calls Tryz.prog 42 #[.string (s.extract 1 s.size)] w fun e w' => BytesPost w (s.data.toList.drop 1) e w' := by
  obtain ⟨h1, h2⟩ := extract_tail s
  rw [← h1]
  exact rbytes_calls _ (by rw [h2]; omega) w

set_option maxHeartbeats 4000000 in
theorem rread_bytes (s : ByteArray) (hs : s.size ≤ 1000000) (w : World) (ht : (s.toList == [116, 114, 117, 101]) = false) (hf : (s.toList == [102, 97, 108, 115, 101]) = false) (h0 : 0 < s.size) (h34 : ((s[0].toNat : Int) == 34) = false) (h120 : ((s[0].toNat : Int) == 120) = true) :
    Calls Tryz.prog 22 #[.string s] w fun e w' => ReadPost w (4, 0, ⟨((unhexL (s.data.toList.drop 1)).getD []).toArray⟩, 0) e w' := by
  have i0 : (0 : Int) < (s.size : Int) := by omega
  have i1 : (1 : Int) ≤ (s.size : Int) := by omega
  have HQ := hide (rbytes_tail s hs)
  obtain ⟨m, hm⟩ : ∃ m, m = unhexL (s.data.toList.drop 1) := ⟨_, rfl⟩
  unfold BytesPost at HQ
  rw [← hm] at HQ ⊢
  clear hm
  obtain ⟨W, hW⟩ : ∃ W, w.alloc (.cells #[.int .i64 0, .int .i64 0, .string ⟨#[]⟩, .float .f64 0] 24) = W := ⟨_, rfl⟩
  have hres : Hid (Res w W) := by subst hW; exact Res.new w
  have hu : Hid (Up w W) := by subst hW; exact (Up.refl _).alloc _
  go_enter Tryz.func22, Tryz.ntmps22
  go_wp2_with fail
  go_at_call 42
  refine (HQ.out W).mono ?_
  rintro _ w1 ⟨hu1, ⟨l, v, rfl, rfl, ho⟩ | ⟨rfl, rfl⟩⟩
  · have hr1 := hres.out.up hu1
    have HU := hide (hu.out.trans hu1)
    have hcv := ho.conv
    have d0 : w1.cell? ⟨w.heap.size, 0, none⟩ = some (.int .i64 0) := t_cell hr1 rfl
    have d1 : w1.cell? ⟨w.heap.size, 1, none⟩ = some (.int .i64 0) := t_cell hr1 rfl
    have d2 : w1.cell? ⟨w.heap.size, 2, none⟩ = some (.string ⟨#[]⟩) := t_cell hr1 rfl
    have d3 : w1.cell? ⟨w.heap.size, 3, none⟩ = some (.float .f64 0) := t_cell hr1 rfl
    have f0 : w1.frozen? ⟨w.heap.size, 0, none⟩ = false := t_frozen hr1
    have f1 : w1.frozen? ⟨w.heap.size, 1, none⟩ = false := t_frozen hr1
    have f2 : w1.frozen? ⟨w.heap.size, 2, none⟩ = false := t_frozen hr1
    have f3 : w1.frozen? ⟨w.heap.size, 3, none⟩ = false := t_frozen hr1
    clear hu1 hr1 hu hres hW HQ ho
    go_wp2
    refine bodyPost_ret (v := .agg #[.int .i64 (4), .int .i64 (0), .string ⟨l.toArray⟩, .float .f64 (0)]) (by simp [results, Tryz.results22, go_sem, d0, d1, d2, d3]) rfl ⟨rfl, ?_⟩
    exact ((HU.out.setCell (p := ⟨w.heap.size, 0, none⟩) (Nat.le_refl _) _).setCell (p := ⟨w.heap.size, 1, none⟩) (Nat.le_refl _) _ |>.setCell (p := ⟨w.heap.size, 2, none⟩) (Nat.le_refl _) _).setCell (p := ⟨w.heap.size, 3, none⟩) (Nat.le_refl _) _
  · have hr1 := hres.out.up hu1
    have HU := hide (hu.out.trans hu1)
    have hcv := (Own.nil w1 0).conv
    have d0 : w1.cell? ⟨w.heap.size, 0, none⟩ = some (.int .i64 0) := t_cell hr1 rfl
    have d1 : w1.cell? ⟨w.heap.size, 1, none⟩ = some (.int .i64 0) := t_cell hr1 rfl
    have d2 : w1.cell? ⟨w.heap.size, 2, none⟩ = some (.string ⟨#[]⟩) := t_cell hr1 rfl
    have d3 : w1.cell? ⟨w.heap.size, 3, none⟩ = some (.float .f64 0) := t_cell hr1 rfl
    have f0 : w1.frozen? ⟨w.heap.size, 0, none⟩ = false := t_frozen hr1
    have f1 : w1.frozen? ⟨w.heap.size, 1, none⟩ = false := t_frozen hr1
    have f2 : w1.frozen? ⟨w.heap.size, 2, none⟩ = false := t_frozen hr1
    have f3 : w1.frozen? ⟨w.heap.size, 3, none⟩ = false := t_frozen hr1
    clear hu1 hr1 hu hres hW HQ
    go_wp2
    refine bodyPost_ret (v := .agg #[.int .i64 (4), .int .i64 (0), .string ⟨#[]⟩, .float .f64 (0)]) (by simp [results, Tryz.results22, go_sem, d0, d1, d2, d3]) rfl ⟨rfl, ?_⟩
    exact ((HU.out.setCell (p := ⟨w.heap.size, 0, none⟩) (Nat.le_refl _) _).setCell (p := ⟨w.heap.size, 1, none⟩) (Nat.le_refl _) _ |>.setCell (p := ⟨w.heap.size, 2, none⟩) (Nat.le_refl _) _).setCell (p := ⟨w.heap.size, 3, none⟩) (Nat.le_refl _) _

theorem digV_take (s : ByteArray) (k : Nat) (h : k < s.size) : digV (s.data.toList.take (k + 1)) = digF (digV (s.data.toList.take k)) s[k] := by
  rw [take_byte s k h, digV_snoc]
theorem wrap_intU (u : Nat) (h : u < whole) : IntKind.i64.wrap (u : Int) = intU u := by
  have hw : whole = 18446744073709551616 := rfl
  unfold intU
  rw [hw] at h
  simp [IntKind.wrap, IntKind.signed, IntKind.bits]
  split <;> split <;> omega
theorem dig_wrap (u c : Nat) (h : 48 ≤ c) : IntKind.u64.wrap (IntKind.u64.wrap (10 * (u : Int)) + ((c : Int) - 48)) = (((10 * u + (c - 48)) % 18446744073709551616 : Nat) : Int) := by
  simp [IntKind.wrap, IntKind.signed, IntKind.bits]
  omega
theorem head_minus (s : ByteArray) (h0 : 0 < s.size) : s.data.toList.head? = some s[0] := by
  have := drop_at s 0 h0
  rw [List.drop_zero] at this
  rw [this]; rfl
theorem head_rdI (s : ByteArray) (h0 : 0 < s.size) (nb : Bool) (hnb : ((s[0].toNat : Int) == 45) = nb) : rdI s.data.toList = if nb = true then intU (negU (digV s.data.toList)) else intU (digV s.data.toList) := by
  unfold rdI
  rw [head_minus s h0, ← hnb]
  by_cases h : s[0] = 45
  · have hb : ((s[0].toNat : Int) == 45) = true := byte_yes (d := 45) h
    rw [if_pos (by rw [h]), if_pos hb]
  · have hb : ((s[0].toNat : Int) == 45) = false := byte_no (d := 45) h
    rw [if_neg (fun e => h (Option.some.inj e)), hb]; rfl
theorem none_rdI (s : ByteArray) (h0 : s.size = 0) : rdI s.data.toList = intU (digV s.data.toList) := by
  have h : s.data.toList = [] := List.length_eq_zero_iff.1 (by simpa using h0)
  rw [h]; rfl
theorem wrap_negU (u : Nat) (h : u < whole) : IntKind.u64.wrap (-(u : Int)) = (negU u : Int) := by
  have hw : whole = 18446744073709551616 := rfl
  unfold negU
  rw [hw] at h ⊢
  simp [IntKind.wrap, IntKind.signed, IntKind.bits]
  omega

set_option maxHeartbeats 4000000 in
theorem rread_int (s : ByteArray) (hs : s.size ≤ 1000000) (w : World) (ht : (s.toList == [116, 114, 117, 101]) = false) (hf : (s.toList == [102, 97, 108, 115, 101]) = false) (h0 : 0 < s.size) (nb : Bool) (h34 : ((s[0].toNat : Int) == 34) = false) (h120 : ((s[0].toNat : Int) == 120) = false) (h17 : ¬ s.size = 17) (hnb : ((s[0].toNat : Int) == 45) = nb) :
    Calls Tryz.prog 22 #[.string s] w fun e w' => ReadPost w (1, rdI s.data.toList, ⟨#[]⟩, 0) e w' := by
  have i0 : (0 : Int) < (s.size : Int) := by omega
  have i17 : ((s.size : Int) == 17) = false := by rw [beq_eq_false_iff_ne]; omega
  have hsg : IntKind.u64.signed = false := rfl
  obtain ⟨W, hW⟩ : ∃ W, w.alloc (.cells #[.int .i64 0, .int .i64 0, .string ⟨#[]⟩, .float .f64 0] 24) = W := ⟨_, rfl⟩
  have hres : Hid (Res w W) := by subst hW; exact Res.new w
  have hu : Hid (Up w W) := by subst hW; exact (Up.refl _).alloc _
  go_enter Tryz.func22, Tryz.ntmps22
  go_wp2_with fail
  go_loop [11, 13] (fun u i => ∃ k : Nat, k ≤ s.size ∧ i = .int .i64 (k : Int) ∧ u = .int .u64 (digV (s.data.toList.take k) : Int)) (fun _ i => s.size - (intOf i).toNat)
  case atStart => exact ⟨0, Nat.zero_le _, rfl, by simp [digV]⟩
  case round =>
    obtain ⟨k, hk, rfl, rfl⟩ := hrel
    have hlt0 := digV_lt (s.data.toList.take k)
    by_cases hlt : k < s.size
    · have hst := digV_take s k hlt
      obtain ⟨u, hu0⟩ : ∃ u, u = digV (s.data.toList.take k) := ⟨_, rfl⟩
      rw [← hu0] at hst hlt0 ⊢
      clear hu0
      have hw : whole = 18446744073709551616 := rfl
      rw [hw] at hlt0
      have HST := hide hst
      clear hst
      by_cases hp : 48 ≤ s[k].toNat ∧ s[k].toNat ≤ 57
      · have p1 : decide ((48 : Int) ≤ (s[k].toNat : Int)) = true := decide_eq_true (by omega)
        have p2 : decide ((s[k].toNat : Int) ≤ 57) = true := decide_eq_true (by omega)
        have hdf : Hid (digF u s[k] = (10 * u + (s[k].toNat - 48)) % 18446744073709551616) := by unfold digF; rw [if_pos hp]; rfl
        go_wp2
        go_round
        case rel =>
          refine ⟨k + 1, by omega, by go_num, ?_⟩
          rw [HST.out, hdf.out, dig_wrap u s[k].toNat hp.1]
        case measure => simp [intOf]; omega
      · have hdf : Hid (digF u s[k] = u) := by unfold digF; rw [if_neg hp]; rfl
        by_cases h48 : 48 ≤ s[k].toNat
        · have p1 : decide ((48 : Int) ≤ (s[k].toNat : Int)) = true := decide_eq_true (by omega)
          have p2 : decide ((s[k].toNat : Int) ≤ 57) = false := decide_eq_false (by omega)
          clear hp h48
          go_wp2
          go_round
          case rel => exact ⟨k + 1, by omega, by go_num, by rw [HST.out, hdf.out]⟩
          case measure => simp [intOf]; omega
        · have p1 : decide ((48 : Int) ≤ (s[k].toNat : Int)) = false := decide_eq_false (by omega)
          clear hp h48
          go_wp2
          go_round
          case rel => exact ⟨k + 1, by omega, by go_num, by rw [HST.out, hdf.out]⟩
          case measure => simp [intOf]; omega
    · obtain rfl : k = s.size := by omega
      rw [take_whole] at hlt0 ⊢
      have hgoal := hide (head_rdI s h0 nb hnb)
      obtain ⟨u, hu0⟩ : ∃ u, u = digV s.data.toList := ⟨_, rfl⟩
      rw [← hu0] at hlt0 hgoal ⊢
      clear hu0
      have hr1 := hres.out
      have d0 : W.cell? ⟨w.heap.size, 0, none⟩ = some (.int .i64 0) := t_cell hr1 rfl
      have d1 : W.cell? ⟨w.heap.size, 1, none⟩ = some (.int .i64 0) := t_cell hr1 rfl
      have d2 : W.cell? ⟨w.heap.size, 2, none⟩ = some (.string ⟨#[]⟩) := t_cell hr1 rfl
      have d3 : W.cell? ⟨w.heap.size, 3, none⟩ = some (.float .f64 0) := t_cell hr1 rfl
      have f0 : W.frozen? ⟨w.heap.size, 0, none⟩ = false := t_frozen hr1
      have f1 : W.frozen? ⟨w.heap.size, 1, none⟩ = false := t_frozen hr1
      have f2 : W.frozen? ⟨w.heap.size, 2, none⟩ = false := t_frozen hr1
      have f3 : W.frozen? ⟨w.heap.size, 3, none⟩ = false := t_frozen hr1
      have e1 := wrap_negU u hlt0
      have e2 := wrap_intU u hlt0
      have e3 := wrap_intU (negU u) (Nat.mod_lt _ (by simp [whole]))
      have HU := hide hu.out
      clear hr1 hu hres hW
      cases nb with
      | true =>
        go_wp2
        refine bodyPost_ret (v := .agg #[.int .i64 1, .int .i64 (intU (negU u)), .string ⟨#[]⟩, .float .f64 0]) (by simp [results, Tryz.results22, go_sem, d0, d1, d2, d3]) rfl ⟨?_, ?_⟩
        · rw [hgoal.out]; rfl
        · exact ((HU.out.setCell (p := ⟨w.heap.size, 0, none⟩) (Nat.le_refl _) _).setCell (p := ⟨w.heap.size, 1, none⟩) (Nat.le_refl _) _ |>.setCell (p := ⟨w.heap.size, 2, none⟩) (Nat.le_refl _) _).setCell (p := ⟨w.heap.size, 3, none⟩) (Nat.le_refl _) _
      | false =>
        go_wp2
        refine bodyPost_ret (v := .agg #[.int .i64 1, .int .i64 (intU u), .string ⟨#[]⟩, .float .f64 0]) (by simp [results, Tryz.results22, go_sem, d0, d1, d2, d3]) rfl ⟨?_, ?_⟩
        · rw [hgoal.out]; rfl
        · exact ((HU.out.setCell (p := ⟨w.heap.size, 0, none⟩) (Nat.le_refl _) _).setCell (p := ⟨w.heap.size, 1, none⟩) (Nat.le_refl _) _ |>.setCell (p := ⟨w.heap.size, 2, none⟩) (Nat.le_refl _) _).setCell (p := ⟨w.heap.size, 3, none⟩) (Nat.le_refl _) _

set_option maxHeartbeats 4000000 in
theorem rread_int17 (s : ByteArray) (hs : s.size ≤ 1000000) (w : World) (ht : (s.toList == [116, 114, 117, 101]) = false) (hf : (s.toList == [102, 97, 108, 115, 101]) = false) (h0 : 0 < s.size) (nb : Bool) (h34 : ((s[0].toNat : Int) == 34) = false) (h120 : ((s[0].toNat : Int) == 120) = false) (h17 : s.size = 17) (h102 : ((s[0].toNat : Int) == 102) = false) (hnb : ((s[0].toNat : Int) == 45) = nb) :
    Calls Tryz.prog 22 #[.string s] w fun e w' => ReadPost w (1, rdI s.data.toList, ⟨#[]⟩, 0) e w' := by
  have i0 : (0 : Int) < (s.size : Int) := by omega
  have i17 : ((s.size : Int) == 17) = true := by rw [beq_iff_eq]; omega
  have hsg : IntKind.u64.signed = false := rfl
  obtain ⟨W, hW⟩ : ∃ W, w.alloc (.cells #[.int .i64 0, .int .i64 0, .string ⟨#[]⟩, .float .f64 0] 24) = W := ⟨_, rfl⟩
  have hres : Hid (Res w W) := by subst hW; exact Res.new w
  have hu : Hid (Up w W) := by subst hW; exact (Up.refl _).alloc _
  go_enter Tryz.func22, Tryz.ntmps22
  go_wp2_with fail
  go_loop [11, 13] (fun u i => ∃ k : Nat, k ≤ s.size ∧ i = .int .i64 (k : Int) ∧ u = .int .u64 (digV (s.data.toList.take k) : Int)) (fun _ i => s.size - (intOf i).toNat)
  case atStart => exact ⟨0, Nat.zero_le _, rfl, by simp [digV]⟩
  case round =>
    obtain ⟨k, hk, rfl, rfl⟩ := hrel
    have hlt0 := digV_lt (s.data.toList.take k)
    by_cases hlt : k < s.size
    · have hst := digV_take s k hlt
      obtain ⟨u, hu0⟩ : ∃ u, u = digV (s.data.toList.take k) := ⟨_, rfl⟩
      rw [← hu0] at hst hlt0 ⊢
      clear hu0
      have hw : whole = 18446744073709551616 := rfl
      rw [hw] at hlt0
      have HST := hide hst
      clear hst
      by_cases hp : 48 ≤ s[k].toNat ∧ s[k].toNat ≤ 57
      · have p1 : decide ((48 : Int) ≤ (s[k].toNat : Int)) = true := decide_eq_true (by omega)
        have p2 : decide ((s[k].toNat : Int) ≤ 57) = true := decide_eq_true (by omega)
        have hdf : Hid (digF u s[k] = (10 * u + (s[k].toNat - 48)) % 18446744073709551616) := by unfold digF; rw [if_pos hp]; rfl
        go_wp2
        go_round
        case rel =>
          refine ⟨k + 1, by omega, by go_num, ?_⟩
          rw [HST.out, hdf.out, dig_wrap u s[k].toNat hp.1]
        case measure => simp [intOf]; omega
      · have hdf : Hid (digF u s[k] = u) := by unfold digF; rw [if_neg hp]; rfl
        by_cases h48 : 48 ≤ s[k].toNat
        · have p1 : decide ((48 : Int) ≤ (s[k].toNat : Int)) = true := decide_eq_true (by omega)
          have p2 : decide ((s[k].toNat : Int) ≤ 57) = false := decide_eq_false (by omega)
          clear hp h48
          go_wp2
          go_round
          case rel => exact ⟨k + 1, by omega, by go_num, by rw [HST.out, hdf.out]⟩
          case measure => simp [intOf]; omega
        · have p1 : decide ((48 : Int) ≤ (s[k].toNat : Int)) = false := decide_eq_false (by omega)
          clear hp h48
          go_wp2
          go_round
          case rel => exact ⟨k + 1, by omega, by go_num, by rw [HST.out, hdf.out]⟩
          case measure => simp [intOf]; omega
    · obtain rfl : k = s.size := by omega
      rw [take_whole] at hlt0 ⊢
      have hgoal := hide (head_rdI s h0 nb hnb)
      obtain ⟨u, hu0⟩ : ∃ u, u = digV s.data.toList := ⟨_, rfl⟩
      rw [← hu0] at hlt0 hgoal ⊢
      clear hu0
      have hr1 := hres.out
      have d0 : W.cell? ⟨w.heap.size, 0, none⟩ = some (.int .i64 0) := t_cell hr1 rfl
      have d1 : W.cell? ⟨w.heap.size, 1, none⟩ = some (.int .i64 0) := t_cell hr1 rfl
      have d2 : W.cell? ⟨w.heap.size, 2, none⟩ = some (.string ⟨#[]⟩) := t_cell hr1 rfl
      have d3 : W.cell? ⟨w.heap.size, 3, none⟩ = some (.float .f64 0) := t_cell hr1 rfl
      have f0 : W.frozen? ⟨w.heap.size, 0, none⟩ = false := t_frozen hr1
      have f1 : W.frozen? ⟨w.heap.size, 1, none⟩ = false := t_frozen hr1
      have f2 : W.frozen? ⟨w.heap.size, 2, none⟩ = false := t_frozen hr1
      have f3 : W.frozen? ⟨w.heap.size, 3, none⟩ = false := t_frozen hr1
      have e1 := wrap_negU u hlt0
      have e2 := wrap_intU u hlt0
      have e3 := wrap_intU (negU u) (Nat.mod_lt _ (by simp [whole]))
      have HU := hide hu.out
      clear hr1 hu hres hW
      cases nb with
      | true =>
        go_wp2
        refine bodyPost_ret (v := .agg #[.int .i64 1, .int .i64 (intU (negU u)), .string ⟨#[]⟩, .float .f64 0]) (by simp [results, Tryz.results22, go_sem, d0, d1, d2, d3]) rfl ⟨?_, ?_⟩
        · rw [hgoal.out]; rfl
        · exact ((HU.out.setCell (p := ⟨w.heap.size, 0, none⟩) (Nat.le_refl _) _).setCell (p := ⟨w.heap.size, 1, none⟩) (Nat.le_refl _) _ |>.setCell (p := ⟨w.heap.size, 2, none⟩) (Nat.le_refl _) _).setCell (p := ⟨w.heap.size, 3, none⟩) (Nat.le_refl _) _
      | false =>
        go_wp2
        refine bodyPost_ret (v := .agg #[.int .i64 1, .int .i64 (intU u), .string ⟨#[]⟩, .float .f64 0]) (by simp [results, Tryz.results22, go_sem, d0, d1, d2, d3]) rfl ⟨?_, ?_⟩
        · rw [hgoal.out]; rfl
        · exact ((HU.out.setCell (p := ⟨w.heap.size, 0, none⟩) (Nat.le_refl _) _).setCell (p := ⟨w.heap.size, 1, none⟩) (Nat.le_refl _) _ |>.setCell (p := ⟨w.heap.size, 2, none⟩) (Nat.le_refl _) _).setCell (p := ⟨w.heap.size, 3, none⟩) (Nat.le_refl _) _

set_option maxHeartbeats 4000000 in
theorem rread_int0 (s : ByteArray) (hs : s.size ≤ 1000000) (w : World) (ht : (s.toList == [116, 114, 117, 101]) = false) (hf : (s.toList == [102, 97, 108, 115, 101]) = false) (h0 : s.size = 0) :
    Calls Tryz.prog 22 #[.string s] w fun e w' => ReadPost w (1, rdI s.data.toList, ⟨#[]⟩, 0) e w' := by
  have i0 : ¬ (0 : Int) < (s.size : Int) := by omega
  have i17 : ((s.size : Int) == 17) = false := by rw [beq_eq_false_iff_ne]; omega
  have hsg : IntKind.u64.signed = false := rfl
  obtain ⟨W, hW⟩ : ∃ W, w.alloc (.cells #[.int .i64 0, .int .i64 0, .string ⟨#[]⟩, .float .f64 0] 24) = W := ⟨_, rfl⟩
  have hres : Hid (Res w W) := by subst hW; exact Res.new w
  have hu : Hid (Up w W) := by subst hW; exact (Up.refl _).alloc _
  go_enter Tryz.func22, Tryz.ntmps22
  go_wp2_with fail
  go_loop [11, 13] (fun u i => ∃ k : Nat, k ≤ s.size ∧ i = .int .i64 (k : Int) ∧ u = .int .u64 (digV (s.data.toList.take k) : Int)) (fun _ i => s.size - (intOf i).toNat)
  case atStart => exact ⟨0, Nat.zero_le _, rfl, by simp [digV]⟩
  case round =>
    obtain ⟨k, hk, rfl, rfl⟩ := hrel
    have hlt0 := digV_lt (s.data.toList.take k)
    by_cases hlt : k < s.size
    · exact absurd hlt (by omega)
    · obtain rfl : k = s.size := by omega
      rw [take_whole] at hlt0 ⊢
      have hgoal := hide (none_rdI s h0)
      obtain ⟨u, hu0⟩ : ∃ u, u = digV s.data.toList := ⟨_, rfl⟩
      rw [← hu0] at hlt0 hgoal ⊢
      clear hu0
      have hr1 := hres.out
      have d0 : W.cell? ⟨w.heap.size, 0, none⟩ = some (.int .i64 0) := t_cell hr1 rfl
      have d1 : W.cell? ⟨w.heap.size, 1, none⟩ = some (.int .i64 0) := t_cell hr1 rfl
      have d2 : W.cell? ⟨w.heap.size, 2, none⟩ = some (.string ⟨#[]⟩) := t_cell hr1 rfl
      have d3 : W.cell? ⟨w.heap.size, 3, none⟩ = some (.float .f64 0) := t_cell hr1 rfl
      have f0 : W.frozen? ⟨w.heap.size, 0, none⟩ = false := t_frozen hr1
      have f1 : W.frozen? ⟨w.heap.size, 1, none⟩ = false := t_frozen hr1
      have f2 : W.frozen? ⟨w.heap.size, 2, none⟩ = false := t_frozen hr1
      have f3 : W.frozen? ⟨w.heap.size, 3, none⟩ = false := t_frozen hr1
      have e1 := wrap_negU u hlt0
      have e2 := wrap_intU u hlt0
      have e3 := wrap_intU (negU u) (Nat.mod_lt _ (by simp [whole]))
      have HU := hide hu.out
      clear hr1 hu hres hW
      go_wp2
      refine bodyPost_ret (v := .agg #[.int .i64 1, .int .i64 (intU u), .string ⟨#[]⟩, .float .f64 0]) (by simp [results, Tryz.results22, go_sem, d0, d1, d2, d3]) rfl ⟨?_, ?_⟩
      · rw [hgoal.out]
      · exact ((HU.out.setCell (p := ⟨w.heap.size, 0, none⟩) (Nat.le_refl _) _).setCell (p := ⟨w.heap.size, 1, none⟩) (Nat.le_refl _) _ |>.setCell (p := ⟨w.heap.size, 2, none⟩) (Nat.le_refl _) _).setCell (p := ⟨w.heap.size, 3, none⟩) (Nat.le_refl _) _

end Go.Proofs.YtjnnmghehoodhaaGreatDoor

namespace Go.Proofs.YtjnnmghehoodhaaGreatDoor
open Go.ChangeShapes Go.WideShapes Go.ChangeAt Go.RowKit
attribute [local go_sem ↓] Go.wp_at_zero Go.wp_at_succ
set_option maxRecDepth 100000
attribute [local go_sem] run_store_float
set_option linter.unusedVariables false

theorem numT_take (l : List UInt8) (k : Nat) (h : k < l.length) : numT (l.take (k + 1)) = numT (l.take k) * 256 + (l.getD k 0).toNat := by
  unfold numT
  rw [List.take_add_one, List.foldl_append, List.getElem?_eq_getElem h, List.getD_eq_getElem?_getD, List.getElem?_eq_getElem h]
  rfl
theorem or_byte' (x : Nat) (c : UInt8) (hx : x < 72057594037927936) : bits .or .u64 (IntKind.u64.wrap ((x : Int) * 256)) (IntKind.u64.wrap (c.toNat : Int)) = ((x * 256 + c.toNat : Nat) : Int) := by
  have hc := c.toNat_lt
  have e1 : IntKind.u64.wrap ((x : Int) * 256) = ((x * 256 : Nat) : Int) := by rw [IntKind.wrap_u64]; omega
  have e2 : IntKind.u64.wrap (c.toNat : Int) = (c.toNat : Int) := by rw [IntKind.wrap_u64]; omega
  rw [e1, e2, u64_or_nat (x * 256) c.toNat (by omega) (by omega), nat_join 8 (x * 256) c.toNat (by omega) hc]

set_option maxHeartbeats 4000000 in
theorem rread_float0 (s : ByteArray) (hs : s.size ≤ 1000000) (w : World) (ht : (s.toList == [116, 114, 117, 101]) = false) (hf : (s.toList == [102, 97, 108, 115, 101]) = false) (h0 : 0 < s.size) (h34 : ((s[0].toNat : Int) == 34) = false) (h120 : ((s[0].toNat : Int) == 120) = false) (h17 : s.size = 17) (h102 : ((s[0].toNat : Int) == 102) = true) (hm : unhexL (s.data.toList.drop 1) = none) :
    Calls Tryz.prog 22 #[.string s] w fun e w' => ReadPost w (5, 0, ⟨#[]⟩, 0) e w' := by
  have i0 : (0 : Int) < (s.size : Int) := by omega
  have i1 : (1 : Int) ≤ (s.size : Int) := by omega
  have i17 : ((s.size : Int) == 17) = true := by rw [beq_iff_eq]; omega
  have hsg : IntKind.u64.signed = false := rfl
  have hrf := run_from
  have hrf0 : ∀ w : World, (callFunc 39 #[.int .u64 0]).run Tryz.prog w = .ok (.value (.float .f64 0)) w := run_from 0
  have H17 := hide h17
  clear h17
  have HQ := hide (rbytes_tail s hs)
  have HM := hide hm
  unfold BytesPost at HQ
  clear hm
  obtain ⟨W, hW⟩ : ∃ W, w.alloc (.cells #[.int .i64 0, .int .i64 0, .string ⟨#[]⟩, .float .f64 0] 24) = W := ⟨_, rfl⟩
  have hres : Hid (Res w W) := by subst hW; exact Res.new w
  have hu : Hid (Up w W) := by subst hW; exact (Up.refl _).alloc _
  go_enter Tryz.func22, Tryz.ntmps22
  go_wp2_with fail
  go_at_call 42
  refine (HQ.out W).mono ?_
  rintro _ w1 ⟨hu1, ⟨l2, v, hm2, rfl, ho⟩ | ⟨hm2, rfl⟩⟩
  case inl => rw [HM.out] at hm2; cases hm2
  have hr1 := hres.out.up hu1
  have HU := hide (hu.out.trans hu1)
  have d0 : w1.cell? ⟨w.heap.size, 0, none⟩ = some (.int .i64 0) := t_cell hr1 rfl
  have d1 : w1.cell? ⟨w.heap.size, 1, none⟩ = some (.int .i64 0) := t_cell hr1 rfl
  have d2 : w1.cell? ⟨w.heap.size, 2, none⟩ = some (.string ⟨#[]⟩) := t_cell hr1 rfl
  have d3 : w1.cell? ⟨w.heap.size, 3, none⟩ = some (.float .f64 0) := t_cell hr1 rfl
  have f0 : w1.frozen? ⟨w.heap.size, 0, none⟩ = false := t_frozen hr1
  have f1 : w1.frozen? ⟨w.heap.size, 1, none⟩ = false := t_frozen hr1
  have f2 : w1.frozen? ⟨w.heap.size, 2, none⟩ = false := t_frozen hr1
  have f3 : w1.frozen? ⟨w.heap.size, 3, none⟩ = false := t_frozen hr1
  clear hu1 hr1 hu hres hW HQ hm2
  go_wp2_with fail
  refine wp_loop_rounds 1 ?_
  rw [rounds_succ]
  go_wp2
  refine bodyPost_ret (v := .agg #[.int .i64 (5), .int .i64 (0), .string ⟨#[]⟩, .float .f64 (0)]) (by simp [results, Tryz.results22, go_sem, d0, d1, d2, d3]) rfl ⟨rfl, ?_⟩
  exact ((HU.out.setCell (p := ⟨w.heap.size, 0, none⟩) (Nat.le_refl _) _).setCell (p := ⟨w.heap.size, 1, none⟩) (Nat.le_refl _) _ |>.setCell (p := ⟨w.heap.size, 2, none⟩) (Nat.le_refl _) _).setCell (p := ⟨w.heap.size, 3, none⟩) (Nat.le_refl _) _

set_option maxHeartbeats 4000000 in
theorem rread_float (s : ByteArray) (hs : s.size ≤ 1000000) (w : World) (ht : (s.toList == [116, 114, 117, 101]) = false) (hf : (s.toList == [102, 97, 108, 115, 101]) = false) (h0 : 0 < s.size) (h34 : ((s[0].toNat : Int) == 34) = false) (h120 : ((s[0].toNat : Int) == 120) = false) (h17 : s.size = 17) (h102 : ((s[0].toNat : Int) == 102) = true) (l : List UInt8) (hm : unhexL (s.data.toList.drop 1) = some l) :
    Calls Tryz.prog 22 #[.string s] w fun e w' => ReadPost w (5, 0, ⟨#[]⟩, numT l) e w' := by
  have i0 : (0 : Int) < (s.size : Int) := by omega
  have i1 : (1 : Int) ≤ (s.size : Int) := by omega
  have i17 : ((s.size : Int) == 17) = true := by rw [beq_iff_eq]; omega
  have hsg : IntKind.u64.signed = false := rfl
  have hrf := run_from
  have hrf0 : ∀ w : World, (callFunc 39 #[.int .u64 0]).run Tryz.prog w = .ok (.value (.float .f64 0)) w := run_from 0
  have H17 := hide h17
  clear h17
  have HQ := hide (rbytes_tail s hs)
  have HM := hide hm
  unfold BytesPost at HQ
  clear hm
  obtain ⟨W, hW⟩ : ∃ W, w.alloc (.cells #[.int .i64 0, .int .i64 0, .string ⟨#[]⟩, .float .f64 0] 24) = W := ⟨_, rfl⟩
  have hres : Hid (Res w W) := by subst hW; exact Res.new w
  have hu : Hid (Up w W) := by subst hW; exact (Up.refl _).alloc _
  go_enter Tryz.func22, Tryz.ntmps22
  go_wp2_with fail
  go_at_call 42
  refine (HQ.out W).mono ?_
  rintro _ w1 ⟨hu1, ⟨l2, v, hm2, rfl, ho⟩ | ⟨hm2, rfl⟩⟩
  case inr => rw [HM.out] at hm2; cases hm2
  obtain rfl : l = l2 := by rw [HM.out] at hm2; exact Option.some.inj hm2
  have hl8 : l.length = 8 := by
    have h := congrArg List.length (hexL_unhexL _ _ _ (Nat.le_refl _) HM.out)
    rw [hexL_length, List.length_drop] at h
    have h2 : s.data.toList.length = 17 := by simpa using H17.out
    omega
  have hr1 := hres.out.up hu1
  have HU := hide (hu.out.trans hu1)
  have d0 : w1.cell? ⟨w.heap.size, 0, none⟩ = some (.int .i64 0) := t_cell hr1 rfl
  have d1 : w1.cell? ⟨w.heap.size, 1, none⟩ = some (.int .i64 0) := t_cell hr1 rfl
  have d2 : w1.cell? ⟨w.heap.size, 2, none⟩ = some (.string ⟨#[]⟩) := t_cell hr1 rfl
  have d3 : w1.cell? ⟨w.heap.size, 3, none⟩ = some (.float .f64 0) := t_cell hr1 rfl
  have f0 : w1.frozen? ⟨w.heap.size, 0, none⟩ = false := t_frozen hr1
  have f1 : w1.frozen? ⟨w.heap.size, 1, none⟩ = false := t_frozen hr1
  have f2 : w1.frozen? ⟨w.heap.size, 2, none⟩ = false := t_frozen hr1
  have f3 : w1.frozen? ⟨w.heap.size, 3, none⟩ = false := t_frozen hr1
  obtain ⟨a, c, rfl, hc, hm3, hb⟩ := ho.bts
  rw [hl8] at hb hc ⊢
  rcases hb.2 with hz | ⟨b, off, rfl, hcells⟩
  · omega
  have HC := hide hcells
  have HL := hide hl8
  clear hu1 hr1 hu hres hW HQ hm2 ho hb hcells hl8
  go_wp2_with fail
  go_loop [9, 10] (fun u i => ∃ k : Nat, k ≤ 8 ∧ i = .int .i64 (k : Int) ∧ u = .int .u64 (numT (l.take k) : Int)) (fun _ i => 8 - (intOf i).toNat)
  case atStart => exact ⟨0, Nat.zero_le _, rfl, by simp [numT]⟩
  case round =>
    obtain ⟨k, hk, rfl, rfl⟩ := hrel
    by_cases hlt : k < 8
    · have hcell := HC.out k hlt
      have i2 : (0 : Int) ≤ (k : Int) := by omega
      have i3 : (k : Int) < 8 := by omega
      obtain ⟨d, hd⟩ : ∃ d, d = l.getD k 0 := ⟨_, rfl⟩
      have hst := numT_take l k (by rw [HL.out]; omega)
      rw [← hd] at hcell hst
      have hlt2 := numT_lt (l.take k)
      rw [List.length_take, HL.out, Nat.min_eq_left (by omega)] at hlt2
      have hp : 256 ^ k ≤ 256 ^ 7 := Nat.pow_le_pow_right (by omega) (by omega)
      obtain ⟨x, hx⟩ : ∃ x, x = numT (l.take k) := ⟨_, rfl⟩
      rw [← hx] at hst hlt2 ⊢
      have hor := or_byte' x d (by have : (256 : Nat) ^ 7 = 72057594037927936 := by decide
                                   omega)
      have HST := hide hst
      clear hst hx hd hlt2 hp
      go_wp2
      go_round
      case rel => exact ⟨k + 1, by omega, by go_num, by rw [HST.out, Int.natCast_add, Int.natCast_mul]; rfl⟩
      case measure => simp [intOf]; omega
    · obtain rfl : k = 8 := by omega
      have ht : l.take 8 = l := List.take_of_length_le (by rw [HL.out]; omega)
      rw [ht]
      go_wp2
      refine bodyPost_ret (v := .agg #[.int .i64 (5), .int .i64 (0), .string ⟨#[]⟩, .float .f64 (numT l)]) (by simp [results, Tryz.results22, go_sem, d0, d1, d2, d3]) rfl ⟨rfl, ?_⟩
      exact ((HU.out.setCell (p := ⟨w.heap.size, 0, none⟩) (Nat.le_refl _) _).setCell (p := ⟨w.heap.size, 1, none⟩) (Nat.le_refl _) _ |>.setCell (p := ⟨w.heap.size, 2, none⟩) (Nat.le_refl _) _).setCell (p := ⟨w.heap.size, 3, none⟩) (Nat.le_refl _) _

theorem s_eq {s : ByteArray} {l : List UInt8} (h : s.data.toList = l) : s = ⟨l.toArray⟩ := by
  subst h
  cases s
  simp
theorem s_ne {s : ByteArray} {l : List UInt8} (h : ¬ s.data.toList = l) : (s.toList == l) = false := by
  rw [Go.Lib.toList_data, beq_eq_false_iff_ne]; exact h
theorem rread_calls (s : ByteArray) (hs : s.size ≤ 1000000) (w : World) : Calls Tryz.prog 22 #[.string s] w fun e w' => ReadPost w (rdV s.data.toList) e w' := by
  by_cases h1 : s.data.toList = trueL
  · rw [rdV, if_pos h1]
    obtain rfl := s_eq h1
    exact rread_true w
  by_cases h2 : s.data.toList = falseL
  · rw [rdV, if_neg h1, if_pos h2]
    obtain rfl := s_eq h2
    exact rread_false w
  have t1 := s_ne h1
  have t2 := s_ne h2
  rw [rdV, if_neg h1, if_neg h2, ← List.drop_one]
  by_cases h0 : 0 < s.size
  · have hh := head_minus s h0
    rw [hh]
    by_cases h34 : s[0] = 34
    · rw [if_pos (by rw [h34])]
      exact rread_str s hs w t1 t2 h0 (byte_yes (d := 34) h34)
    · have b34 : ((s[0].toNat : Int) == 34) = false := byte_no (d := 34) h34
      rw [if_neg (fun e => h34 (Option.some.inj e))]
      by_cases h120 : s[0] = 120
      · rw [if_pos (by rw [h120])]
        exact rread_bytes s hs w t1 t2 h0 b34 (byte_yes (d := 120) h120)
      · have b120 : ((s[0].toNat : Int) == 120) = false := byte_no (d := 120) h120
        have hl : s.data.toList.length = s.size := by simp
        rw [if_neg (fun e => h120 (Option.some.inj e)), hl]
        by_cases h17 : s.size = 17
        · by_cases h102 : s[0] = 102
          · have b102 : ((s[0].toNat : Int) == 102) = true := byte_yes (d := 102) h102
            rw [if_pos ⟨h17, by rw [h102]⟩]
            cases hm : unhexL (s.data.toList.drop 1) with
            | none => exact rread_float0 s hs w t1 t2 h0 b34 b120 h17 b102 hm
            | some l => exact rread_float s hs w t1 t2 h0 b34 b120 h17 b102 l hm
          · rw [if_neg (fun e => h102 (Option.some.inj e.2))]
            exact rread_int17 s hs w t1 t2 h0 _ b34 b120 h17 (byte_no (d := 102) h102) rfl
        · rw [if_neg (fun e => h17 e.1)]
          exact rread_int s hs w t1 t2 h0 _ b34 b120 h17 rfl
  · have hl : s.data.toList.length = s.size := by simp
    have hn : s.data.toList = [] := List.length_eq_zero_iff.1 (by omega)
    have he : s.data.toList.head? = none := by rw [hn]; rfl
    rw [he, if_neg (by simp), if_neg (by simp), if_neg (by simp)]
    exact rread_int0 s hs w t1 t2 (by omega)

end Go.Proofs.YtjnnmghehoodhaaGreatDoor

namespace Go.Proofs.YtjnnmghehoodhaaGreatDoor
open Go.ChangeShapes Go.WideShapes Go.ChangeAt Go.RowKit
attribute [local go_sem ↓] Go.wp_at_zero Go.wp_at_succ
attribute [local go_sem] run_store_float
set_option linter.unusedVariables false

/-- What Parse leaves: the value, or an error. -/
def ParsePost (w : World) (s : List UInt8) (e : Ending) (w' : World) : Prop :=
  Up w w' ∧ ((∃ v, parT s = some v ∧ e = .returned (.tuple #[.agg #[.int .i64 v.1, .int .i64 v.2.1, .string v.2.2.1, .float .f64 v.2.2.2], .int .i64 0])) ∨
    (parT s = none ∧ e = .returned (.tuple #[.agg #[.int .i64 0, .int .i64 0, .string ⟨#[]⟩, .float .f64 0], .int .i64 30])))

set_option maxHeartbeats 4000000 in
theorem rparse_calls (s : ByteArray) (hs : s.size ≤ 1000000) (w : World) : Calls Tryz.prog 11 #[.string s] w fun e w' => ParsePost w s.data.toList e w' := by
  have hq := rread_calls s hs
  obtain ⟨v, hv⟩ : ∃ v, v = rdV s.data.toList := ⟨_, rfl⟩
  rw [← hv] at hq
  obtain ⟨k, n, t, f⟩ := v
  unfold ReadPost at hq
  simp only at hq
  have HV := hide hv
  clear hv
  obtain ⟨W, hW⟩ : ∃ W, w.alloc (.cells #[.int .i64 0, .int .i64 0, .string ⟨#[]⟩, .float .f64 0] 24) = W := ⟨_, rfl⟩
  have hres : Hid (Res w W) := by subst hW; exact Res.new w
  have hu : Hid (Up w W) := by subst hW; exact (Up.refl _).alloc _
  go_enter Tryz.func11, Tryz.ntmps11
  go_wp2_with fail
  go_at_call 22
  refine (hq W).mono ?_
  rintro _ w1 ⟨rfl, hu1⟩
  have HR1 := hide (hres.out.up hu1)
  have HU := hide (hu.out.trans hu1)
  clear hu1 hu hres hW hq
  go_wp2_with fail
  go_at_call 17
  refine (ris_calls _ _ _ _ _).mono ?_
  rintro _ w2 ⟨rfl, hu2⟩
  have hnew : (w1.alloc (.cells #[.int .i64 k, .int .i64 n, .string t, .float .f64 f] 24)).heap[w1.heap.size]? = some (.cells #[.int .i64 k, .int .i64 n, .string t, .float .f64 f] 24 (0, 0)) := heap_alloc_new _ _
  have HC2 := hide (hu2.heap hnew)
  have HR2 := hide ((HR1.out.up ((Up.refl _).alloc _)).up hu2)
  replace HU := hide ((HU.out.alloc _).trans hu2)
  clear hnew hu2 HR1
  by_cases hv : isB (k, n, t, f) = true
  · have hf : Fits (k, n, t, f) := by
      have h2 := HV.out
      rw [h2] at hv ⊢
      exact rd_fits _ hv
    have HF := hide hf
    have c0 : w2.cell? ⟨w1.heap.size, 0, none⟩ = some (.int .i64 k) := t_cell HC2.out rfl
    have c1 : w2.cell? ⟨w1.heap.size, 1, none⟩ = some (.int .i64 n) := t_cell HC2.out rfl
    have c2 : w2.cell? ⟨w1.heap.size, 2, none⟩ = some (.string t) := t_cell HC2.out rfl
    have c3 : w2.cell? ⟨w1.heap.size, 3, none⟩ = some (.float .f64 f) := t_cell HC2.out rfl
    have hpc := rprint_calls k n t f w2 hf
    obtain ⟨P, hP⟩ : ∃ P : ByteArray, P = ⟨(prnV (k, n, t, f)).toArray⟩ := ⟨_, rfl⟩
    have hpl : P.toList = prnV (k, n, t, f) := by rw [hP, Go.Lib.toList_data]
    rw [← hP] at hpc
    rw [hv]
    clear hf hP
    go_wp2_with fail
    go_at_call 7
    refine hpc.mono ?_
    rintro _ w3 ⟨rfl, hu3⟩
    have hr3 := HR2.out.up hu3
    have hc3 := hu3.heap HC2.out
    replace HU := hide (HU.out.trans hu3)
    replace c0 := hu3.cell c0
    replace c1 := hu3.cell c1
    replace c2 := hu3.cell c2
    replace c3 := hu3.cell c3
    have d0 : w3.cell? ⟨w.heap.size, 0, none⟩ = some (.int .i64 0) := t_cell hr3 rfl
    have d1 : w3.cell? ⟨w.heap.size, 1, none⟩ = some (.int .i64 0) := t_cell hr3 rfl
    have d2 : w3.cell? ⟨w.heap.size, 2, none⟩ = some (.string ⟨#[]⟩) := t_cell hr3 rfl
    have d3 : w3.cell? ⟨w.heap.size, 3, none⟩ = some (.float .f64 0) := t_cell hr3 rfl
    have f0 : w3.frozen? ⟨w.heap.size, 0, none⟩ = false := t_frozen hr3
    have f1 : w3.frozen? ⟨w.heap.size, 1, none⟩ = false := t_frozen hr3
    have f2 : w3.frozen? ⟨w.heap.size, 2, none⟩ = false := t_frozen hr3
    have f3 : w3.frozen? ⟨w.heap.size, 3, none⟩ = false := t_frozen hr3
    clear hpc hu3 hr3 hc3 HR2 HC2
    by_cases he : prnV (k, n, t, f) = s.data.toList
    · have hyes : Hid (parT s.data.toList = some (k, n, t, f)) := (parT_iff _ _).2 ⟨hv, HF.out, he⟩
      have hcmp : (P.toList == s.toList) = true := by rw [hpl, Go.Lib.toList_data, he]; simp
      clear hpl he hv
      go_wp2
      refine bodyPost_ret (v := .tuple #[.agg #[.int .i64 k, .int .i64 n, .string t, .float .f64 f], .int .i64 0]) (by simp [results, Tryz.results11, go_sem, d0, d1, d2, d3]) rfl ⟨?_, .inl ⟨_, hyes.out, rfl⟩⟩
      exact ((HU.out.setCell (p := ⟨w.heap.size, 0, none⟩) (Nat.le_refl _) _).setCell (p := ⟨w.heap.size, 1, none⟩) (Nat.le_refl _) _ |>.setCell (p := ⟨w.heap.size, 2, none⟩) (Nat.le_refl _) _).setCell (p := ⟨w.heap.size, 3, none⟩) (Nat.le_refl _) _
    · have hno : Hid (parT s.data.toList = none) := by
        show parT s.data.toList = none
        unfold parT
        have h2 := HV.out
        rw [← h2]
        exact if_neg fun h => he h.2
      have hcmp : (P.toList == s.toList) = false := by rw [hpl, Go.Lib.toList_data]; exact beq_eq_false_iff_ne.2 he
      clear hpl he hv
      go_wp2
      refine bodyPost_ret (v := .tuple #[.agg #[.int .i64 0, .int .i64 0, .string ⟨#[]⟩, .float .f64 0], .int .i64 30]) (by simp [results, Tryz.results11, go_sem, d0, d1, d2, d3]) rfl ⟨?_, .inr ⟨hno.out, rfl⟩⟩
      exact ((HU.out.setCell (p := ⟨w.heap.size, 0, none⟩) (Nat.le_refl _) _).setCell (p := ⟨w.heap.size, 1, none⟩) (Nat.le_refl _) _ |>.setCell (p := ⟨w.heap.size, 2, none⟩) (Nat.le_refl _) _).setCell (p := ⟨w.heap.size, 3, none⟩) (Nat.le_refl _) _
  · have hno : Hid (parT s.data.toList = none) := by
      show parT s.data.toList = none
      unfold parT
      have h2 := HV.out
      rw [← h2]
      exact if_neg fun h => hv h.1
    have hvf : isB (k, n, t, f) = false := by simpa using hv
    have hr2 := HR2.out
    have d0 : w2.cell? ⟨w.heap.size, 0, none⟩ = some (.int .i64 0) := t_cell hr2 rfl
    have d1 : w2.cell? ⟨w.heap.size, 1, none⟩ = some (.int .i64 0) := t_cell hr2 rfl
    have d2 : w2.cell? ⟨w.heap.size, 2, none⟩ = some (.string ⟨#[]⟩) := t_cell hr2 rfl
    have d3 : w2.cell? ⟨w.heap.size, 3, none⟩ = some (.float .f64 0) := t_cell hr2 rfl
    have f0 : w2.frozen? ⟨w.heap.size, 0, none⟩ = false := t_frozen hr2
    have f1 : w2.frozen? ⟨w.heap.size, 1, none⟩ = false := t_frozen hr2
    have f2 : w2.frozen? ⟨w.heap.size, 2, none⟩ = false := t_frozen hr2
    have f3 : w2.frozen? ⟨w.heap.size, 3, none⟩ = false := t_frozen hr2
    clear hr2 HR2 HC2 hv
    rw [hvf]
    go_wp2
    refine bodyPost_ret (v := .tuple #[.agg #[.int .i64 0, .int .i64 0, .string ⟨#[]⟩, .float .f64 0], .int .i64 30]) (by simp [results, Tryz.results11, go_sem, d0, d1, d2, d3]) rfl ⟨?_, .inr ⟨hno.out, rfl⟩⟩
    exact ((HU.out.setCell (p := ⟨w.heap.size, 0, none⟩) (Nat.le_refl _) _).setCell (p := ⟨w.heap.size, 1, none⟩) (Nat.le_refl _) _ |>.setCell (p := ⟨w.heap.size, 2, none⟩) (Nat.le_refl _) _).setCell (p := ⟨w.heap.size, 3, none⟩) (Nat.le_refl _) _

end Go.Proofs.YtjnnmghehoodhaaGreatDoor

namespace Go.Proofs.YtjnnmghehoodhaaGreatDoor
open Go.ChangeShapes Go.WideShapes Go.ChangeAt Go.RowKit
attribute [local go_sem ↓] Go.wp_at_zero Go.wp_at_succ
attribute [local go_sem] run_store_float
set_option linter.unusedVariables false

theorem prn_len (v : VT) (hf : Fits v) : (prnV v).length ≤ 250 := by
  obtain ⟨k, n, s, f⟩ := v
  by_cases hv : isB (k, n, s, f) = true
  · rcases t_cases hv with ⟨rfl, rfl, rfl⟩ | ⟨rfl, rfl | rfl, rfl, rfl⟩ | ⟨rfl | rfl, rfl, hs, rfl⟩ | ⟨rfl, rfl, rfl⟩
    · rw [prn_int]
      have h1 := natAbs_lt ⟨hf.2.2.1, hf.2.2.2.1⟩
      have h2 := decN_len 19 n.natAbs (by simp only at h1; omega)
      unfold decI
      split
      · rw [List.length_cons]; omega
      · omega
    · rw [prn_false]; decide
    · rw [prn_true]; decide
    · rw [prn_str hs, quoS, List.length_cons, List.length_append]
      have h1 := quoL_length s.data.toList
      have h2 : s.data.toList.length = s.size := by simp
      simp only [List.length_cons, List.length_nil]
      omega
    · have h2 : s.data.toList.length = s.size := by simp
      rw [prn_bytes hs, List.length_cons, hexL_length, h2]; omega
    · rw [prn_float, List.length_cons, hexL_length]
      have : (wordL f).length = 8 := rfl
      omega
  · rw [prnV, if_neg hv]; decide

/-- What was printed of a row so far. -/
def rowB (l : List VT) : List UInt8 := 40 :: joinT (l.map prnV)
theorem joinT_snoc : ∀ (l : List (List UInt8)) (t : List UInt8), l ≠ [] → joinT (l ++ [t]) = joinT l ++ 44 :: 32 :: t
  | [], _, h => absurd rfl h
  | [u], t, _ => by rw [List.singleton_append, joinT_cons2, joinT_one, joinT_one]
  | u :: x :: l, t, _ => by
    rw [List.cons_append, List.cons_append, joinT_cons2, joinT_cons2, ← List.cons_append, joinT_snoc (x :: l) t (by simp), List.append_assoc]; rfl
theorem rowB_first (v : VT) : rowB [v] = 40 :: prnV v := by
  unfold rowB; rw [List.map_cons, List.map_nil, joinT_one]
theorem rowB_next (l : List VT) (v : VT) (h : l ≠ []) : rowB (l ++ [v]) = rowB l ++ 44 :: 32 :: prnV v := by
  unfold rowB
  rw [List.map_append, List.map_cons, List.map_nil, joinT_snoc _ _ (by simpa using h)]; rfl
theorem rowB_len : ∀ (l : List VT), (∀ v ∈ l, Fits v) → (rowB l).length ≤ 1 + 252 * l.length := by
  have key : ∀ (l : List VT), (∀ v ∈ l, Fits v) → (joinT (l.map prnV)).length ≤ 252 * l.length := by
    intro l
    induction l with
    | nil => intro _; simp [joinT]
    | cons v l ih =>
      intro h
      have h1 := prn_len v (h v (by simp))
      have h2 := ih fun x hx => h x (by simp [hx])
      cases l with
      | nil => rw [List.map_cons, List.map_nil, joinT_one]; simp; omega
      | cons u l =>
        rw [List.map_cons, List.map_cons, joinT_cons2, ← List.map_cons, List.length_append, List.length_cons, List.length_cons]
        simp only [List.length_cons] at h2 ⊢
        omega
  intro l h
  have := key l h
  unfold rowB
  rw [List.length_cons]; omega
theorem str_append (a b : List UInt8) : (⟨a.toArray⟩ : ByteArray) ++ ⟨b.toArray⟩ = ⟨(a ++ b).toArray⟩ := by
  apply ByteArray.ext
  simp [ByteArray.data_append]
theorem str_size (a : List UInt8) : (ByteArray.mk a.toArray).size = a.length := rfl
theorem fits_mem {l : List VT} (h : ∀ i, Fits (l.getD i zeroT)) : ∀ v ∈ l, Fits v := by
  intro v hv
  obtain ⟨i, hi, rfl⟩ := List.getElem_of_mem hv
  have := h i
  rw [List.getD_eq_getElem?_getD, List.getElem?_eq_getElem hi] at this
  exact this

set_option maxHeartbeats 4000000 in
theorem rrow_some (b0 o0 n0 c0 : Nat) (l : List VT) (w : World) (hl : l.length = n0) (h0 : n0 ≤ 1000) (g0 : ∀ i, Fits (l.getD i zeroT)) (x0 : ∀ i, i < n0 → At w b0 (o0 + i * 4) (l.getD i zeroT)) :
    Calls Tryz.prog 9 #[.slice (some ⟨b0, o0, none⟩) n0 c0] w fun e w' => e = .returned (.string ⟨(rowT l).toArray⟩) ∧ Up w w' := by
  have H0 := hide x0
  have F0 := hide g0
  have HL := hide hl
  clear x0 g0 hl
  go_enter Tryz.func9, Tryz.ntmps9
  go_wp2_with fail
  go_loopw [3, 4] (fun s i wr => ∃ (k : Nat) (S : ByteArray), k ≤ n0 ∧ i = .int .i64 k ∧ s = .string S ∧ S = ⟨(rowB (l.take k)).toArray⟩ ∧ Up w wr) (fun _ i _ => n0 - (intOf i).toNat)
  case atStart => exact ⟨0, _, Nat.zero_le _, rfl, rfl, by simp [rowB, joinT], Up.refl _⟩
  case round =>
    obtain ⟨k, S, hk0, rfl, rfl, hS, hu⟩ := hrel
    have hsz : S.size ≤ 1000000 := by
      rw [hS, str_size]
      have h1 := rowB_len (l.take k) fun v hv => fits_mem F0.out v (List.mem_of_mem_take hv)
      rw [List.length_take] at h1
      omega
    have HS := hide hS
    clear hS
    by_cases hlt : k < n0
    · obtain ⟨l0, l1, l2, l3⟩ := (H0.out k hlt).up hu
      have hf := F0.out k
      have hst : l.take (k + 1) = l.take k ++ [l.getD k zeroT] := by
        have hlk : k < l.length := by rw [HL.out]; exact hlt
        rw [List.take_add_one, List.getElem?_eq_getElem hlk, List.getD_eq_getElem?_getD, List.getElem?_eq_getElem hlk]; rfl
      obtain ⟨⟨q, n, s, f⟩, hx⟩ : ∃ x, x = l.getD k zeroT := ⟨_, rfl⟩
      rw [← hx] at l0 l1 l2 l3 hf hst
      replace hx := hide hx
      replace hst := hide hst
      replace hu := hide hu
      simp only at l0 l1 l2 l3
      have hpl := prn_len _ hf
      have hpc := fun W => rprint_calls q n s f W hf
      obtain ⟨P, hP⟩ : ∃ P : ByteArray, P = ⟨(prnV (q, n, s, f)).toArray⟩ := ⟨_, rfl⟩
      have hps : P.size ≤ 250 := by rw [hP, str_size]; exact hpl
      rw [← hP] at hpc
      have HP := hide hP
      clear hP hpl hf
      have i0 : (0 : Int) ≤ (k : Int) := by omega
      have i1 : (k : Int) < (n0 : Int) := by omega
      by_cases hk : k = 0
      · have i2 : ¬ (0 : Int) < (k : Int) := by omega
        replace hk := hide hk
        go_wp2_with fail
        go_at_call 7
        refine (hpc _).mono ?_
        rintro _ w1 ⟨rfl, hu1⟩
        have HU := hide (hu.out.trans hu1)
        clear hpc hu1 hu l0 l1 l2 l3
        go_wp2
        go_roundw
        case rel =>
          refine ⟨k + 1, _, by omega, by go_num, rfl, ?_, HU.out⟩
          have e : l.take k = [] := by rw [hk.out]; rfl
          rw [hst.out, e, List.nil_append, rowB_first, HS.out, e, HP.out, str_append]
          rfl
        case measure => simp [intOf]; omega
      · have i2 : (0 : Int) < (k : Int) := by omega
        go_wp2_with fail
        go_at_call 7
        refine (hpc _).mono ?_
        rintro _ w1 ⟨rfl, hu1⟩
        have HU := hide (hu.out.trans hu1)
        clear hpc hu1 hu l0 l1 l2 l3
        go_wp2
        go_roundw
        case rel =>
          refine ⟨k + 1, _, by omega, by go_num, rfl, ?_, HU.out⟩
          have e : l.take k ≠ [] := fun e => by
            have h := congrArg List.length e
            rw [List.length_take, HL.out] at h
            simp at h
            omega
          rw [hst.out, rowB_next _ _ e, HS.out, HP.out]
          show ((⟨(rowB (l.take k)).toArray⟩ : ByteArray) ++ ⟨[44, 32].toArray⟩) ++ ⟨(prnV (q, n, s, f)).toArray⟩ = _
          rw [str_append, str_append, List.append_assoc]
          rfl
        case measure => simp [intOf]; omega
    · obtain rfl : k = n0 := by omega
      have hend : Hid (S = ⟨(rowB l).toArray⟩) := by
        have h := HS.out
        rw [List.take_of_length_le (by rw [HL.out]; exact Nat.le_refl _)] at h
        exact h
      clear HS
      replace hu := hide hu
      go_wp2
      go_ret
      refine ⟨?_, hu.out⟩
      show Ending.returned (.string (S ++ ⟨#[41]⟩)) = _
      rw [hend.out]
      show Ending.returned (.string ((⟨(rowB l).toArray⟩ : ByteArray) ++ ⟨[41].toArray⟩)) = _
      rw [str_append]
      rfl

theorem rrow_none (a : Option Addr) (c : Nat) (w : World) : Calls Tryz.prog 9 #[.slice a 0 c] w fun e w' => e = .returned (.string ⟨(rowT []).toArray⟩) ∧ Up w w' := by
  go_enter Tryz.func9, Tryz.ntmps9
  go_wp2_with fail
  refine wp_loop_rounds 1 ?_
  rw [rounds_succ]
  go_wp2
  go_ret
  exact ⟨rfl, Up.refl _⟩

theorem rrow_calls (a : Option Addr) (n c : Nat) (l : List VT) (w : World) (hn : n ≤ 1000) (h : Vals w a n l) : Calls Tryz.prog 9 #[.slice a n c] w fun e w' => e = .returned (.string ⟨(rowT l).toArray⟩) ∧ Up w w' := by
  obtain ⟨hl, hf, h0 | ⟨b, off, rfl, hx⟩⟩ := h
  · subst h0
    obtain rfl : l = [] := List.length_eq_zero_iff.1 hl
    exact rrow_none a c w
  · exact rrow_some b off n c l w hl hn hf hx

end Go.Proofs.YtjnnmghehoodhaaGreatDoor
