/-
  What the document's own readers (package rialtoref3: value, Get) answer of every slice of bytes that isn't too long: the same as package code's.
-/
import Derived.Test.YtlhaohioolagoaaRefValueS
import Derived.Test.YtlhaohioolagoaaCodeGet
namespace Go.Proofs.Ytlhaohioolagoaa
open Go.ChangeShapes Go.WideShapes Go.ChangeAt Go.RowKit
attribute [local go_sem ↓] Go.wp_at_zero Go.wp_at_succ
attribute [local go_sem] run_store_float

def RValPost (w : World) (l : List UInt8) (e : Ending) (w' : World) : Prop :=
  Up w w' ∧ ((∃ (v : VT) (k : Nat), takeV l = some (v, l.drop k) ∧ 0 < k ∧ k ≤ l.length ∧ e = .returned (.tuple #[.agg #[.int .i64 v.1, .int .i64 v.2.1, .string v.2.2.1, .float .f64 v.2.2.2], .int .i64 (k : Int)])) ∨
    (takeV l = none ∧ ∃ v : VT, e = .returned (.tuple #[.agg #[.int .i64 v.1, .int .i64 v.2.1, .string v.2.2.1, .float .f64 v.2.2.2], .int .i64 0])))

theorem rstr_post {w w' : World} {l : List UInt8} {K : Int} {e : Ending} (hK : takeV l = takeS K (l.drop 1)) (h : RStr w (l.drop 1) l K e w') : RValPost w l e w' := by
  refine ⟨h.1, ?_⟩
  rcases h.2 with ⟨t, k, hu, h60, hk0, hkl, he⟩ | ⟨hu | ⟨t, r, hu, h60⟩, v, he⟩
  · refine .inl ⟨(K, 0, ⟨t.toArray⟩, 0), k, ?_, hk0, hkl, he⟩
    rw [hK, takeS, hu]; simp [h60]
  · refine .inr ⟨?_, v, he⟩
    rw [hK, takeS, hu]
  · refine .inr ⟨?_, v, he⟩
    rw [hK, takeS, hu]; simp [h60]

theorem rvalue_some (b off n c : Nat) (l : List UInt8) (w : World) (hn : n ≤ 1000000) (h0 : 0 < n) (hc : n ≤ c) (hm : c ≤ maxLen) (hl : l.length = n) (hx : ∀ i, i < n → w.cell? ⟨b, off + i, none⟩ = some (.int .u8 ((l.getD i 0).toNat : Int))) :
    Calls Try.prog 23 #[.slice (some ⟨b, off, none⟩) n c] w fun e w' => RValPost w l e w' := by
  have ht := takeV_cons (l := l) (by omega)
  have hd1 : (l.drop 1).length = n - 1 := by rw [List.length_drop, hl]
  obtain ⟨x, hxe⟩ : ∃ x, l.getD 0 0 = x := ⟨_, rfl⟩
  rw [hxe] at ht
  by_cases h1 : x = 1
  · subst h1
    by_cases h9 : 9 ≤ n
    · refine (rv_int b off n c l w hn h0 hc hm hl hx _ (l.drop 1) rfl hxe h9 rfl).mono fun e w' h => ⟨h.1, .inl ⟨_, 9, ?_, by omega, by omega, h.2⟩⟩
      rw [ht, if_pos rfl, takeW, if_pos (by omega), List.drop_drop]; rfl
    · refine (rv_short1 b off n c l w hn h0 hc hm hl hx hxe (by omega)).mono fun e w' h => ⟨h.1, .inr ⟨?_, h.2⟩⟩
      rw [ht, if_pos rfl, takeW, if_neg (by omega)]
  by_cases h2 : x = 2
  · subst h2
    by_cases hn1 : n < 2
    · refine (rv_boolnone b off n c l w hn h0 hc hm hl hx hxe hn1).mono fun e w' h => ⟨h.1, .inr ⟨?_, h.2⟩⟩
      rw [ht, List.drop_eq_nil_of_le (by omega)]; rfl
    · have hd : l.drop 1 = l.getD 1 0 :: l.drop 2 := drop_byte (by omega)
      obtain ⟨y, hy⟩ : ∃ y, l.getD 1 0 = y := ⟨_, rfl⟩
      rw [hy] at hd
      have ht2 : takeV l = if y.toNat ≤ 1 then some ((2, (y.toNat : Int), ⟨#[]⟩, 0), l.drop 2) else none := by
        rw [ht, hd]; rfl
      by_cases hyy : y.toNat ≤ 1
      · refine (rv_bool b off n c l w hn h0 hc hm hl hx y hxe (by omega) hy hyy).mono fun e w' h => ⟨h.1, .inl ⟨_, 2, ?_, by omega, by omega, h.2⟩⟩
        rw [ht2, if_pos hyy]
      · refine (rv_boolbad b off n c l w hn h0 hc hm hl hx y hxe (by omega) hy hyy).mono fun e w' h => ⟨h.1, .inr ⟨?_, h.2⟩⟩
        rw [ht2, if_neg hyy]
  by_cases h3 : x = 3
  · subst h3
    exact (rv_str3 b off n c l w hn h0 hc hm hl hx (l.drop 1) rfl hxe).mono fun e w' h => rstr_post ht h
  by_cases h4 : x = 4
  · subst h4
    exact (rv_str4 b off n c l w hn h0 hc hm hl hx (l.drop 1) rfl hxe).mono fun e w' h => rstr_post ht h
  by_cases h5 : x = 5
  · subst h5
    have ht5 : takeV l = takeW 5 (l.drop 1) := ht
    by_cases h9 : 9 ≤ n
    · refine (rv_float b off n c l w hn h0 hc hm hl hx _ (l.drop 1) rfl hxe h9 rfl numL_whole).mono fun e w' h => ⟨h.1, .inl ⟨_, 9, ?_, by omega, by omega, h.2⟩⟩
      rw [ht5, takeW, if_pos (by omega), List.drop_drop]; rfl
    · refine (rv_short5 b off n c l w hn h0 hc hm hl hx hxe (by omega)).mono fun e w' h => ⟨h.1, .inr ⟨?_, h.2⟩⟩
      rw [ht5, takeW, if_neg (by omega)]
  · refine (rv_other b off n c l w hn h0 hc hm hl hx x hxe h1 h2 h3 h4 h5).mono fun e w' h => ⟨h.1, .inr ⟨?_, h.2⟩⟩
    rw [ht, if_neg h1, if_neg h2, if_neg h3, if_neg h4, if_neg h5]

theorem rvalue_calls (r : Value) (l : List UInt8) (w : World) (hn : l.length ≤ 1000000) (h0 : 0 < l.length) (hs : Sl w r l) : Calls Try.prog 23 #[r] w fun e w' => RValPost w l e w' := by
  obtain ⟨a, c, rfl, hc, hm, hl, h⟩ := hs
  rcases h with h | ⟨b, off, rfl, hx⟩
  · omega
  · exact rvalue_some b off l.length c l w hn h0 hc hm rfl hx

theorem rget_none (a : Option Addr) (c : Nat) (w : World) : Calls Try.prog 13 #[.slice a 0 c] w fun e w' => GetPost w [] 20 e w' := by
  go_enter Try.func13, Try.ntmps13
  go_wp2_with fail
  refine wp_loop_rounds 1 ?_
  rw [rounds_succ]
  go_wp2
  go_ret2
  exact ⟨Up.refl _, .inl ⟨[], _, getL_nil, fun i => by simpa using fits_zero, Nat.le_refl _, rfl, OwnV.nil _ _⟩⟩

set_option maxHeartbeats 4000000 in
theorem rget_some (b off n c : Nat) (l : List UInt8) (w : World) (hn : n ≤ 1000000) (hc : n ≤ c) (hm : c ≤ maxLen) (hl : l.length = n) (hx : ∀ i, i < n → w.cell? ⟨b, off + i, none⟩ = some (.int .u8 ((l.getD i 0).toNat : Int))) :
    Calls Try.prog 13 #[.slice (some ⟨b, off, none⟩) n c] w fun e w' => GetPost w l 20 e w' := by
  have HX := hide hx
  have HL := hide hl
  have HM := hide hm
  clear hx hl hm
  go_enter Try.func13, Try.ntmps13
  go_wp2_with fail
  go_loopw [4, 5] (fun g i wr => ∃ (k : Nat) (got : List VT), k ≤ n ∧ i = .int .i64 k ∧ got.length ≤ k ∧ OwnV wr w.heap.size g got ∧ (∀ i, Fits (got.getD i zeroT)) ∧ Up w wr ∧ Hid (getL l = (getL (l.drop k)).map fun x => got ++ x)) (fun _ i _ => n - (intOf i).toNat)
  case atStart => exact ⟨0, [], Nat.zero_le _, rfl, Nat.le_refl _, OwnV.nil _ _, fun i => by simpa using fits_zero, Up.refl _, by simp [Hid]⟩
  case round =>
    obtain ⟨k, got, hk, rfl, hgl, ho, hf, hu, he⟩ := hrel
    have HF := hide hf
    clear hf
    by_cases hlt : k < n
    · have hsl := hide ((sl_drop HL.out hc HM.out HX.out k).up hu)
      have i0 : (0 : Int) ≤ (k : Int) := by omega
      have i1 : (k : Int) < (n : Int) := by omega
      have i2 : (k : Int) ≤ (n : Int) := by omega
      have hck : ¬ c = k := by omega
      have hdl : (l.drop k).length = n - k := by rw [List.length_drop, HL.out]
      replace hu := hide hu
      go_wp2_with fail
      go_at_call 23
      refine (rvalue_calls _ (l.drop k) wr (by omega) (by omega) hsl.out).mono ?_
      rintro _ w1 ⟨hu1, ⟨v, j, ht, hj0, hjl, rfl⟩ | ⟨ht, v, rfl⟩⟩
      · have hst := hide (getL_step ht)
        have HFV := hide (takeV_fits ht)
        have HU := hide (hu.out.trans hu1)
        have ho1 := ho.up hu1
        obtain ⟨q, z, s, f⟩ := v
        obtain ⟨W, hW⟩ : ∃ W, w1.alloc (.cells #[.int .i64 q, .int .i64 z, .string s, .float .f64 f] 41) = W := ⟨_, rfl⟩
        have e0 : W.cell? ⟨w1.heap.size, 0, none⟩ = some (.int .i64 q) := by subst hW; simp
        have e1 : W.cell? ⟨w1.heap.size, 1, none⟩ = some (.int .i64 z) := by subst hW; simp
        have e2 : W.cell? ⟨w1.heap.size, 2, none⟩ = some (.string s) := by subst hW; simp
        have e3 : W.cell? ⟨w1.heap.size, 3, none⟩ = some (.float .f64 f) := by subst hW; simp
        have hoW : OwnV W w.heap.size u4 got := by subst hW; exact ho1.alloc _
        have HUW : Hid (Up w W) := by subst hW; exact HU.out.alloc _
        have hbs := HUW.out.size
        have hjz : ((j : Int) == 0) = false := beq_eq_false_iff_ne.2 (by omega)
        have hjn : (k : Int) + (j : Int) ≤ (n : Int) := by omega
        clear ht hu1 hu ho1 ho
        go_wp2_with (at_builtin; refine append_value rfl (.tmp 21) (.tmp 23) rfl w.heap.size _ _ rfl (hoW.alloc _) _ 1 1 [(q, z, s, f)] rfl rfl (value_new (q, z, s, f)) (by omega) (Nat.le_trans hbs (by simp)) ?_)
        intro g2 w2 ho2 hg2
        have HU2 : Hid (Up w w2) := hide (below_appendV HUW.out hbs hoW hg2)
        replace ho2 := hide ho2
        clear hg2 hoW HUW HU hbs e0 e1 e2 e3 hW
        go_wp2
        go_roundw
        case rel =>
          refine ⟨k + j, got ++ [(q, z, s, f)], by omega, by go_num, by simp; omega, ho2.out, fits_add HF.out HFV.out, HU2.out, ?_⟩
          show getL l = _
          rw [he.out, hst.out, List.drop_drop]
          cases getL (l.drop (k + j)) <;> simp
        case measure => simp [intOf]; omega
      · have hno : getL l = none := by
          rw [he.out, getL_none (fun h => by rw [h] at hdl; simp at hdl; omega) ht]; rfl
        replace hno := hide hno
        have HU := hide (hu.out.trans hu1)
        clear ht hu1 hu he
        go_wp2
        go_ret2
        exact ⟨HU.out.alloc _, .inr ⟨hno.out, rfl⟩⟩
    · obtain rfl : k = n := by omega
      have hyes : getL l = some got := by
        rw [he.out, List.drop_eq_nil_of_le (by rw [HL.out]; exact Nat.le_refl _), getL_nil]; simp
      replace hyes := hide hyes
      replace ho := hide ho
      replace hu := hide hu
      clear he
      go_wp2
      go_ret2
      exact ⟨hu.out, .inl ⟨_, _, hyes.out, HF.out, by rw [HL.out]; exact hgl, rfl, ho.out⟩⟩

theorem rget_calls (r : Value) (l : List UInt8) (w : World) (hn : l.length ≤ 1000000) (hs : Sl w r l) : Calls Try.prog 13 #[r] w fun e w' => GetPost w l 20 e w' := by
  obtain ⟨a, c, rfl, hc, hm, hl, h⟩ := hs
  rcases h with h | ⟨b, off, rfl, hx⟩
  · obtain rfl : l = [] := List.length_eq_zero_iff.1 h
    exact rget_none _ _ _
  · exact rget_some b off l.length c l w hn hc hm rfl hx

end Go.Proofs.Ytlhaohioolagoaa
