/-
  What strconv.AppendInt answers at base 10 where the row that it appends to is a constant's one byte, and where it is any row that the call may append to.
  What putValue and Print of package text answer, as their text runs.
-/
import Derived.Test.YtjnnmghehoodhaaGreatDoorTextPut
import Derived.Test.YtjnnmghehoodhaaGreatDoorTabs
import Derived.Lib.AppendIntMem
namespace Go.Proofs.YtjnnmghehoodhaaGreatDoor
open Go.ChangeShapes Go.WideShapes Go.ChangeAt Go.RowKit
attribute [local go_sem ↓] Go.wp_at_zero Go.wp_at_succ
set_option linter.unusedVariables false
set_option maxRecDepth 100000

theorem dec_digits (n : Nat) : Go.Lib.decDigits n = decN n := by
  induction n using Nat.strongRecOn with
  | _ n ih =>
    by_cases h : n < 10
    · rw [decN_small h, Go.Lib.decDigits, dif_pos h]
    · rw [decN_great h, Go.Lib.decDigits, dif_neg h, ih (n / 10) (by omega)]
theorem itoa_dec (n : Int) : Go.Lib.itoa n = decI n := by
  unfold Go.Lib.itoa decI
  by_cases h : n < 0
  · rw [if_pos h, if_pos h, dec_digits]
  · rw [if_neg h, if_neg h, dec_digits]
    congr 1
    omega

/-- What a writer is asked for. -/
abbrev PutPost (base : Nat) (l : List UInt8) (p : List UInt8) (w : World) (e : Ending) (w' : World) : Prop := ∃ v', e = .returned v' ∧ Own w' base v' (l ++ p) ∧ Below base w w'

set_option maxHeartbeats 8000000 in
theorem appU_small (base : Nat) (v : Value) (l : List UInt8) (u : Nat) (hu : u < 100) (w : World) (hm : Mk w base v l) (hb : base ≤ w.heap.size) (hlen : l.length ≤ 1000000) :
    Calls Tryz.prog 63 #[v, .int .u64 u, .int .i64 10] w fun e w' => PutPost base l (decN u) w e w' := by
  have hS := Tryz.internal_strconv_small u hu
  rw [dec_digits] at hS
  obtain ⟨t, ht⟩ : ∃ t : ByteArray, t = ⟨(decN u).toArray⟩ := ⟨_, rfl⟩
  have htl : Hid (t.data.toList = decN u) := by rw [ht]; exact rfl
  have hz : 0 < t.size ∧ t.size ≤ 20 := by
    have h1 : t.size = (decN u).length := by rw [ht]; rfl
    have h2 := decN_len 1 u (by omega)
    have h3 := decN_ne u
    cases hd : decN u with
    | nil => exact absurd hd h3
    | cons a r => rw [hd] at h1 h2; simp at h1 h2; omega
  rw [← ht] at hS
  have iu : (u : Int) < 100 := by omega
  clear ht
  go_enter Tryz.func63, Tryz.ntmps63
  go_wp2_with (first
    | (go_at_call 76; refine (hS _).mono ?_; rintro _ _ ⟨rfl, rfl⟩)
    | (at_builtin; refine mk_append_str rfl _ _ rfl base _ _ rfl hm t rfl hz.1 (by omega) hb ?_))
  intro v' w1 ho hg
  have HB := hide (mk_below_grow (Below.refl _ _) hb hm hg)
  rw [htl.out] at ho
  replace ho := hide ho
  clear hg hm
  go_wp2
  go_ret
  exact ⟨_, rfl, ho.out, HB.out⟩

set_option maxHeartbeats 8000000 in
theorem appU_big (base : Nat) (v : Value) (l : List UInt8) (u : Nat) (hu : 100 ≤ u) (hu64 : u < 18446744073709551616) (w : World) (hm : Mk w base v l) (hb : base ≤ w.heap.size) (hlen : l.length ≤ 1000000) (hT : Tabs w) :
    Calls Tryz.prog 63 #[v, .int .u64 u, .int .i64 10] w fun e w' => PutPost base l (decN u) w e w' := by
  have hnl : (decN u).length = Go.Lib.nDigits u := by rw [← dec_digits, Go.Lib.decDigits_length]
  have hnd : Go.Lib.nDigits u ≤ 20 := by rw [← hnl]; exact decN_len 19 u (by omega)
  have hnp : 0 < Go.Lib.nDigits u := by
    rw [← hnl]
    cases hd : decN u with
    | nil => exact absurd hd (decN_ne u)
    | cons a r => simp
  have hN := fun W (h : Tabs W) => Tryz.internal_strconv_numDigits u (by omega) hu64 W h.pow
  have hlt := Go.Lib.lt_pow_nDigits u
  have hal : Tryz.prog.arrayLen 94 = 24 := by kernel_rfl
  have hH0 := Go.Lib.holds_zero0 w 94 (Go.Lib.nDigits u) (by omega)
  have hfmt := Tryz.internal_strconv_formatBase10 w.heap.size 0 24 u (Array.replicate (Go.Lib.nDigits u) 0) (w.alloc (.cells Go.Lib.zeros24 94)) hH0 (by rw [Array.size_replicate]; exact hlt) hu64 (by rw [Array.size_replicate]; omega)
  rw [Array.size_replicate] at hfmt
  have hsl : ∀ W, (Instr.sliceAt 94 (.pointer (some ⟨w.heap.size, 0, none⟩)) none (some (.int .i64 (Go.Lib.nDigits u : Int))) none).run Tryz.prog W = .ok (.slice (some ⟨w.heap.size, 0, none⟩) (Go.Lib.nDigits u) 24) W := fun W => by
    rw [run_sliceAt_array_h W 94 ⟨w.heap.size, 0, none⟩ (by kernel_rfl) .i64 (Go.Lib.nDigits u : Int) (by omega) (by rw [hal]; omega)]
    go_simp
  have HH0 := hide hH0
  have iu : (100 : Int) ≤ (u : Int) := by omega
  have HT := hide hT
  clear hH0 hal hT hlt
  go_enter Tryz.func63, Tryz.ntmps63
  go_wp2_with (first
    | (go_at_call 77; refine (hN _ (HT.out.alloc _)).mono ?_; rintro _ _ ⟨rfl, rfl⟩))
  go_at_call 78
  refine hfmt.mono ?_
  rintro _ w' ⟨rfl, k, v', dk, rfl, hF⟩
  have hcells : ∀ j x, (bcells (decN u))[j]? = some x → ((Go.Sort.putRow (fun (b : UInt8) => Value.int .u8 (b.toNat : Int)) (w.alloc (.cells Go.Lib.zeros24 94)) w.heap.size 0 dk).drewN k).cell? ((⟨w.heap.size, 0, none⟩ : Addr).add j) = some x := by
    intro j x hj
    have hjl : j < (Go.Lib.decDigits u).length := by
      have h5 := (List.getElem?_eq_some_iff.1 hj).1
      rwa [bcells_length, ← dec_digits] at h5
    rw [bcells_get, ← dec_digits, List.getElem?_eq_getElem hjl] at hj
    obtain rfl := Option.some.inj hj
    rw [Go.Lib.row_is_numeral hF j hjl, Go.Lib.add_plain, World.cell?_drewN]
    exact Go.Sort.cell?_putRow (fun (b : UInt8) => Value.int .u8 (b.toNat : Int)) _ w.heap.size 0 _ dk HH0.out (by rw [hF.size, Array.size_replicate]) j (by rw [hF.size]; rw [Go.Lib.decDigits_length] at hjl; exact hjl)
  obtain ⟨os, eo⟩ := Go.Lib.fin_at w (.cells Go.Lib.zeros24 94) dk k 0
  have hu2 : Up w ((Go.Sort.putRow (fun (b : UInt8) => Value.int .u8 (b.toNat : Int)) (w.alloc (.cells Go.Lib.zeros24 94)) w.heap.size 0 dk).drewN k) := by rw [eo]; exact Go.Lib.below_grow w.heap.size w (Nat.le_refl _) k os
  generalize (Go.Sort.putRow (fun (b : UInt8) => Value.int .u8 (b.toNat : Int)) (w.alloc (.cells Go.Lib.zeros24 94)) w.heap.size 0 dk).drewN k = W2 at hcells hu2 ⊢
  have hm2 := hm.up hu2
  have hb2 := Nat.le_trans hb hu2.size
  have HB2 := hide (Below.mono hu2.below hb)
  clear eo HH0 hfmt hN
  go_wp2_with (at_builtin; refine mk_append_bytes rfl _ _ rfl base _ _ rfl hm2 ⟨w.heap.size, 0, none⟩ (Go.Lib.nDigits u) 24 (decN u) rfl hnl hnp hcells (by omega) hb2 ?_)
  intro v2 w3 ho hg
  have HB := hide (mk_below_grow HB2.out hb2 hm2 hg)
  replace ho := hide ho
  clear hg hm2 hcells hF hsl
  go_wp2
  go_ret
  exact ⟨_, rfl, ho.out, HB.out⟩

theorem appU (base : Nat) (v : Value) (l : List UInt8) (u : Nat) (hu64 : u < 18446744073709551616) (w : World) (hm : Mk w base v l) (hb : base ≤ w.heap.size) (hlen : l.length ≤ 1000000) (hT : Tabs w) :
    Calls Tryz.prog 63 #[v, .int .u64 u, .int .i64 10] w fun e w' => PutPost base l (decN u) w e w' := by
  by_cases h : u < 100
  · exact appU_small base v l u h w hm hb hlen
  · exact appU_big base v l u (by omega) hu64 w hm hb hlen hT

set_option maxHeartbeats 8000000 in
theorem appI (base : Nat) (v : Value) (l : List UInt8) (i : Int) (h0 : -9223372036854775808 ≤ i) (h1 : i ≤ 9223372036854775807) (w : World) (hm : Mk w base v l) (hb : base ≤ w.heap.size) (hlen : l.length ≤ 999999) (hT : Tabs w) (hg : 9 ≤ base) :
    Calls Tryz.prog 50 #[v, .int .i64 i, .int .i64 10] w fun e w' => PutPost base l (decI i) w e w' := by
  by_cases hneg : i < 0
  · obtain ⟨u, rfl⟩ : ∃ u : Nat, i = -(u : Int) := ⟨i.natAbs, by omega⟩
    have hwr : IntKind.u64.wrap (-IntKind.u64.wrap (-(u : Int))) = (u : Int) := by rw [IntKind.wrap_u64, IntKind.wrap_u64]; omega
    have hD : Hid (decI (-(u : Int)) = 45 :: decN u) := by
      show decI (-(u : Int)) = _
      rw [decI, if_pos hneg, show (-(u : Int)).natAbs = u by omega]
    have HT := hide hT
    clear hT
    go_enter Tryz.func50, Tryz.ntmps50
    go_wp2_with (at_builtin; refine mk_append_bytes rfl _ _ rfl base _ _ rfl (hm.alloc _) _ 1 1 [45] rfl rfl (by decide) (byte_new rfl) (by omega) (Nat.le_trans hb (by simp)) ?_)
    intro v1 w1 ho1 hg1
    have hb1 := mk_below (Below.refl _ _) hb hm hg1
    have hbs1 := Nat.le_trans hb hb1.size
    have hA := appU base v1 _ u (by omega) w1 ho1.mk hbs1 (by rw [List.length_append, List.length_singleton]; omega) (HT.out.below hg hb1)
    have HB1 := hide hb1
    clear hg1 ho1 hb1 hm
    go_wp2_with fail
    go_at_call 63
    refine hA.mono ?_
    rintro _ w2 ⟨v2, rfl, ho2, hb2⟩
    have HB2 := hide (HB1.out.trans hb2)
    replace ho2 := hide ho2
    clear hA hb2
    go_wp2
    go_ret
    exact ⟨_, rfl, by rw [hD.out]; simpa using ho2.out, HB2.out⟩
  · obtain ⟨u, rfl⟩ : ∃ u : Nat, i = (u : Int) := ⟨i.toNat, by omega⟩
    have hD : Hid (decI (u : Int) = decN u) := by
      show decI (u : Int) = _
      rw [decI, if_neg hneg]; rfl
    have hA := appU base v l u (by omega) w hm hb (by omega) hT
    clear hT hm
    go_enter Tryz.func50, Tryz.ntmps50
    go_wp2_with fail
    go_at_call 63
    refine hA.mono ?_
    rintro _ w2 ⟨v2, rfl, ho2, hb2⟩
    have HB2 := hide hb2
    replace ho2 := hide ho2
    clear hA hb2
    go_wp2
    go_ret
    exact ⟨_, rfl, by rw [hD.out]; exact ho2.out, HB2.out⟩

theorem appendInt_calls (base : Nat) (v : Value) (l : List UInt8) (i : Int) (h0 : -9223372036854775808 ≤ i) (h1 : i ≤ 9223372036854775807) (w : World) (hm : Mk w base v l) (hb : base ≤ w.heap.size) (hlen : l.length ≤ 999999) (hT : Tabs w) (hg : 9 ≤ base) :
    Calls Tryz.prog 29 #[v, .int .i64 i, .int .i64 10] w fun e w' => PutPost base l (decI i) w e w' := by
  have hA := appI base v l i h0 h1 w hm hb hlen hT hg
  clear hT hm
  go_enter Tryz.func29, Tryz.ntmps29
  go_wp2_with fail
  go_at_call 50
  refine hA.mono ?_
  rintro _ w2 ⟨v2, rfl, ho2, hb2⟩
  have HB2 := hide hb2
  replace ho2 := hide ho2
  clear hA hb2
  go_wp2
  go_ret
  exact ⟨_, rfl, ho2.out, HB2.out⟩

end Go.Proofs.YtjnnmghehoodhaaGreatDoor

namespace Go.Proofs.YtjnnmghehoodhaaGreatDoor
open Go.ChangeShapes Go.WideShapes Go.ChangeAt Go.RowKit
attribute [local go_sem ↓] Go.wp_at_zero Go.wp_at_succ
attribute [local go_sem] run_store_float
set_option linter.unusedVariables false

theorem cell_in {w : World} {g i : Nat} {cs : Array Value} {t : TypeId} {fz : Nat × Nat} (h : w.heap[g]? = some (.cells cs t fz)) : w.cell? ⟨g, i, none⟩ = cs[i]? := by
  simp [World.cell?, h]

theorem boolText_calls (n : Int) (hn : n = 0 ∨ n = 1) (w : World) : Calls Tryz.prog 30 #[.int .i64 n] w fun e w' => e = .returned (.string ⟨(if n = 1 then trueL else falseL).toArray⟩) ∧ w' = w := by
  rcases hn with rfl | rfl
  · go_enter Tryz.func30, Tryz.ntmps30
    go_wp2
    go_ret
    exact ⟨rfl, rfl⟩
  · go_enter Tryz.func30, Tryz.ntmps30
    go_wp2
    go_ret
    exact ⟨rfl, rfl⟩

set_option maxHeartbeats 4000000 in
theorem tputValue_calls (base : Nat) (v : Value) (l : List UInt8) (k n : Int) (s : ByteArray) (f : Nat) (w : World) (hf : Fits (k, n, s, f)) (hT : Tabs w) (hg : 9 ≤ base) (hown : Mk w base v l) (hb : base ≤ w.heap.size) (hlen : l.length ≤ 999999) :
    Calls Tryz.prog 16 #[v, .agg #[.int .i64 k, .int .i64 n, .string s, .float .f64 f]] w fun e w' => PutPost base l (prnV (k, n, s, f)) w e w' := by
  obtain ⟨W, hW⟩ : ∃ W, w.alloc (.cells #[.int .i64 k, .int .i64 n, .string s, .float .f64 f] 24) = W := ⟨_, rfl⟩
  have hu : Hid (Up w W) := by subst hW; exact (Up.refl _).alloc _
  have c0 : W.cell? ⟨w.heap.size, 0, none⟩ = some (.int .i64 k) := by subst hW; simp
  have c1 : W.cell? ⟨w.heap.size, 1, none⟩ = some (.int .i64 n) := by subst hW; simp
  have c2 : W.cell? ⟨w.heap.size, 2, none⟩ = some (.string s) := by subst hW; simp
  have c3 : W.cell? ⟨w.heap.size, 3, none⟩ = some (.float .f64 f) := by subst hW; simp
  have hTH := hide hT
  have hOH := hide hown
  clear hT hown
  go_enter Tryz.func16, Tryz.ntmps16
  go_wp2_with fail
  go_at_call 28
  refine (vis_calls _ _ _ _ _).mono ?_
  rintro _ w1 ⟨rfl, hu1⟩
  replace c0 := hu1.cell c0
  replace c1 := hu1.cell c1
  replace c2 := hu1.cell c2
  replace c3 := hu1.cell c3
  replace hu := hide (hu.out.trans hu1)
  have ho : Mk w1 base v l := hOH.out.up hu.out
  have hbel : Below base w w1 := Below.mono hu.out.below hb
  have hbs : base ≤ w1.heap.size := Nat.le_trans hb hu.out.size
  have hT1 := hide (hTH.out.up hu.out)
  replace hbel := hide hbel
  clear hu1 hW hOH hTH hu
  cases hbb : isB (k, n, s, f) with
  | false =>
    have HP : Hid (prnV (k, n, s, f) = [63]) := by rw [prnV, if_neg (by rw [hbb]; simp)]; exact rfl
    clear hbb
    go_wp2_with (at_builtin; refine mk_append_str rfl _ _ rfl base _ _ rfl ho ⟨#[63]⟩ rfl (by decide) (by show l.length + 1 ≤ _; omega) hbs ?_)
    intro u2 w2 ho2 hg2
    have hb2 := hide (mk_below_grow hbel.out hbs ho hg2)
    replace ho2 := hide ho2
    clear hg2 ho hbel c0 c1 c2 c3
    go_wp2
    go_ret
    exact ⟨_, rfl, by rw [HP.out]; exact ho2.out, hb2.out⟩
  | true =>
    have hcs := t_cases hbb
    have HF := hide hf
    clear hf
    rcases hcs with ⟨rfl, rfl, rfl⟩ | ⟨rfl, hn, rfl, rfl⟩ | ⟨rfl | rfl, rfl, hs, rfl⟩ | ⟨rfl, rfl, rfl⟩
    · have HP := hide (prn_int n)
      obtain ⟨_, _, hn0, hn1, _⟩ := HF.out
      have m0 : IntKind.i64.min = -9223372036854775808 := by decide
      have m1 : IntKind.i64.max = 9223372036854775807 := by decide
      have hn0' : -9223372036854775808 ≤ n := by rw [← m0]; exact hn0
      have hn1' : n ≤ 9223372036854775807 := by rw [← m1]; exact hn1
      have hA := appendInt_calls base v l n hn0' hn1' w1 ho hbs hlen hT1.out hg
      clear hn0 hn1 hn0' hn1' m0 m1 hbb
      go_wp2_with fail
      go_at_call 29
      refine hA.mono ?_
      rintro _ w2 ⟨u2, rfl, ho2, hb2⟩
      have ho3 := hide ho2
      replace hbel := hide (hbel.out.trans hb2)
      clear hA hb2 ho2 ho
      go_wp2
      go_ret
      exact ⟨_, rfl, by rw [HP.out]; exact ho3.out, hbel.out⟩
    · have HP : Hid (prnV (2, n, ⟨#[]⟩, 0) = (if n = 1 then trueL else falseL)) := by
        rw [prnV, if_pos (t_bool hn), if_neg (show ¬ (2 : Int) = 1 by decide), if_pos rfl]; exact rfl
      have hbt := boolText_calls n hn
      have hsz : 0 < (⟨(if n = 1 then trueL else falseL).toArray⟩ : ByteArray).size ∧ (⟨(if n = 1 then trueL else falseL).toArray⟩ : ByteArray).size ≤ 5 := by rcases hn with rfl | rfl <;> decide
      obtain ⟨t, ht⟩ : ∃ t : ByteArray, t = ⟨(if n = 1 then trueL else falseL).toArray⟩ := ⟨_, rfl⟩
      have HT : Hid (t.data.toList = if n = 1 then trueL else falseL) := by rw [ht]; exact rfl
      rw [← ht] at hbt hsz
      clear ht hn hbb
      go_wp2_with fail
      go_at_call 30
      refine (hbt _).mono ?_
      rintro _ w2 ⟨rfl, hw2⟩
      obtain rfl : w1 = w2 := hw2.symm
      go_wp2_with (at_builtin; refine mk_append_str rfl _ _ rfl base _ _ rfl ho t rfl hsz.1 (by omega) hbs ?_)
      intro u2 w2 ho2 hg2
      have hb2 := hide (mk_below_grow hbel.out hbs ho hg2)
      replace ho2 := hide ho2
      clear hg2 ho hbel c0 c1 c2 c3 hbt
      go_wp2
      go_ret
      exact ⟨_, rfl, by rw [HP.out, ← HT.out]; exact ho2.out, hb2.out⟩
    · have HP := hide (prn_str hs)
      clear hbb
      go_wp2_with fail
      go_at_call 31
      refine (tputString_calls base _ _ s (by omega) _ ho hbs (by omega)).mono ?_
      rintro _ w2 ⟨u2, rfl, ho2, hb2⟩
      replace hbel := hide (hbel.out.trans hb2)
      replace ho2 := hide ho2
      clear hb2 ho
      go_wp2
      go_ret
      exact ⟨_, rfl, by rw [HP.out]; exact ho2.out, hbel.out⟩
    · have HP := hide (prn_bytes hs)
      clear hbb
      go_wp2_with fail
      go_at_call 32
      refine (putBytes_calls base _ _ s (by omega) _ ho hbs (by omega)).mono ?_
      rintro _ w2 ⟨u2, rfl, ho2, hb2⟩
      replace hbel := hide (hbel.out.trans hb2)
      replace ho2 := hide ho2
      clear hb2 ho
      go_wp2
      go_ret
      exact ⟨_, rfl, by rw [HP.out]; exact ho2.out, hbel.out⟩
    · have HP := hide (prn_float f)
      clear hbb
      go_wp2_with fail
      go_at_call 33
      refine (putFloat_calls base _ _ f _ ho hbs (by omega)).mono ?_
      rintro _ w2 ⟨u2, rfl, ho2, hb2⟩
      replace hbel := hide (hbel.out.trans hb2)
      replace ho2 := hide ho2
      clear hb2 ho
      go_wp2
      go_ret
      exact ⟨_, rfl, by rw [HP.out]; exact ho2.out, hbel.out⟩

set_option maxHeartbeats 4000000 in
theorem tprint_calls (k n : Int) (s : ByteArray) (f : Nat) (w : World) (hf : Fits (k, n, s, f)) (hT : Tabs w) :
    Calls Tryz.prog 6 #[.agg #[.int .i64 k, .int .i64 n, .string s, .float .f64 f]] w fun e w' => e = .returned (.string ⟨(prnV (k, n, s, f)).toArray⟩) ∧ Up w w' := by
  obtain ⟨W, hW⟩ : ∃ W, w.alloc (.cells #[.int .i64 k, .int .i64 n, .string s, .float .f64 f] 24) = W := ⟨_, rfl⟩
  have c0 : W.cell? ⟨w.heap.size, 0, none⟩ = some (.int .i64 k) := by subst hW; simp
  have c1 : W.cell? ⟨w.heap.size, 1, none⟩ = some (.int .i64 n) := by subst hW; simp
  have c2 : W.cell? ⟨w.heap.size, 2, none⟩ = some (.string s) := by subst hW; simp
  have c3 : W.cell? ⟨w.heap.size, 3, none⟩ = some (.float .f64 f) := by subst hW; simp
  have hu : Up w W := by subst hW; exact (Up.refl _).alloc _
  have hT1 := hT.up hu
  have hP := tputValue_calls w.heap.size (.slice none 0 0) [] k n s f W hf hT1 hT.big (Own.nil _ _).mk hu.size (by simp)
  obtain ⟨p, hp⟩ : ∃ p, p = prnV (k, n, s, f) := ⟨_, rfl⟩
  rw [← hp] at hP ⊢
  replace hu := hide hu
  clear hp hT hT1 hf
  go_enter Tryz.func6, Tryz.ntmps6
  go_wp2_with fail
  go_at_call 16
  refine hP.mono ?_
  rintro _ w1 ⟨v1, rfl, ho1, hb1⟩
  have hcv := ho1.conv
  rw [List.nil_append] at hcv
  have hu1 : Hid (Up w w1) := hu.out.below.trans hb1
  clear ho1 hb1 hP hu c0 c1 c2 c3
  go_wp2
  go_ret
  exact ⟨rfl, hu1.out⟩

end Go.Proofs.YtjnnmghehoodhaaGreatDoor
