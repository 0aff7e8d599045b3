/-
  What bytes are read as, told in plain words; that takeValue of package code reads them so.
-/
import Derived.Test.YtlhaohioolagoaaCodeTakeVa
import Derived.Test.YtlhaohioolagoaaCodeTakeVb
import Derived.Test.YtlhaohioolagoaaCodeTakeVc
namespace Go.Proofs.Ytlhaohioolagoaa
open Go.RowKit

/-- The Int of which this is the number that isn't below nought. -/
def downI (x : Nat) : Int := wrap64 (IntKind.u64.wrap ((x : Int) - 9223372036854775808))
def takeB : List UInt8 → Option (VT × List UInt8)
  | [] => none
  | y :: r => if y.toNat ≤ 1 then some ((2, (y.toNat : Int), ⟨#[]⟩, 0), r) else none
def takeW (k : Int) (r : List UInt8) : Option (VT × List UInt8) :=
  if 8 ≤ r.length then some ((if k = 1 then (1, downI (numL (r.take 8)), ⟨#[]⟩, 0) else (5, 0, ⟨#[]⟩, ofN (numL (r.take 8)))), r.drop 8) else none
def takeS (k : Int) (r : List UInt8) : Option (VT × List UInt8) :=
  match unescL r with
  | none => none
  | some (t, r) => if t.length ≤ 60 then some ((k, 0, ⟨t.toArray⟩, 0), r) else none
/-- A value at the beginning, and what is behind it. -/
def takeV : List UInt8 → Option (VT × List UInt8)
  | [] => none
  | x :: r => if x = 1 then takeW 1 r else if x = 2 then takeB r else if x = 3 then takeS 3 r else if x = 4 then takeS 4 r else if x = 5 then takeW 5 r else none

/-- What takeValue leaves. -/
def TakePost (w0 w : World) (l : List UInt8) (e : Ending) (w' : World) : Prop :=
  (∃ v r, takeV l = some (v, r) ∧ TookPost w0 w v r e w') ∨ (takeV l = none ∧ NonePost w e w')

theorem numL_whole {l : List UInt8} : numL (l.take 8) < whole := by
  have h := numL_lt (l.take 8)
  have h2 : 256 ^ (l.take 8).length ≤ 256 ^ 8 := Nat.pow_le_pow_right (by omega) (by rw [List.length_take]; omega)
  exact Nat.lt_of_lt_of_le h (Nat.le_trans h2 (by decide))

theorem takeV_cons {l : List UInt8} (h : 0 < l.length) : takeV l = if l.getD 0 0 = 1 then takeW 1 (l.drop 1) else if l.getD 0 0 = 2 then takeB (l.drop 1) else if l.getD 0 0 = 3 then takeS 3 (l.drop 1) else if l.getD 0 0 = 4 then takeS 4 (l.drop 1) else if l.getD 0 0 = 5 then takeW 5 (l.drop 1) else none := by
  cases l with
  | nil => simp at h
  | cons x r => simp [takeV]

theorem takeValue_one (b off : Nat) (l : List UInt8) (w0 w : World) (hu0 : Up w0 w) (hl : l.length = 1) (hx : w0.cell? ⟨b, off, none⟩ = some (.int .u8 ((l.getD 0 0).toNat : Int))) :
    Calls Try.prog 22 #[.slice (some ⟨b, off, none⟩) 1 1] w fun e w' => TakePost w0 w l e w' := by
  have hd : l.drop 1 = [] := List.drop_eq_nil_of_le (by omega)
  have ht := takeV_cons (l := l) (by omega)
  rw [hd] at ht
  have hc := hu0.cell hx
  obtain ⟨x, hxe⟩ : ∃ x, x = l.getD 0 0 := ⟨_, rfl⟩
  rw [← hxe] at ht hc
  by_cases h1 : x = 1
  · subst h1
    refine (tv_short11 b off w0 w hu0 hc).mono fun e w' h => .inr ⟨?_, h⟩
    rw [ht]; rfl
  by_cases h2 : x = 2
  · subst h2
    refine (tv_boolnone1 b off w0 w hu0 hc).mono fun e w' h => .inr ⟨?_, h⟩
    rw [ht]; rfl
  by_cases h3 : x = 3
  · subst h3
    refine (tv_none31 b off w0 w hu0 hc).mono fun e w' h => .inr ⟨?_, h⟩
    rw [ht]; simp [takeS, unescL_nil]
  by_cases h4 : x = 4
  · subst h4
    refine (tv_none41 b off w0 w hu0 hc).mono fun e w' h => .inr ⟨?_, h⟩
    rw [ht]; simp [takeS, unescL_nil]
  by_cases h5 : x = 5
  · subst h5
    refine (tv_short51 b off w0 w hu0 hc).mono fun e w' h => .inr ⟨?_, h⟩
    rw [ht]; rfl
  · refine (tv_other1 x b off w0 w hu0 hc h1 h2 h3 h4 h5).mono fun e w' h => .inr ⟨?_, h⟩
    rw [ht, if_neg h1, if_neg h2, if_neg h3, if_neg h4, if_neg h5]

theorem takeValue_many (b off n c : Nat) (l : List UInt8) (w0 w : World) (hu0 : Up w0 w) (hn : n ≤ 1000000) (h0 : 0 < n) (hc1 : ¬ c = 1) (hc : n ≤ c) (hm : c ≤ maxLen) (hl : l.length = n)
    (hx : ∀ i, i < n → w0.cell? ⟨b, off + i, none⟩ = some (.int .u8 ((l.getD i 0).toNat : Int))) :
    Calls Try.prog 22 #[.slice (some ⟨b, off, none⟩) n c] w fun e w' => TakePost w0 w l e w' := by
  have ht := takeV_cons (l := l) (by omega)
  obtain ⟨x, hxe⟩ : ∃ x, l.getD 0 0 = x := ⟨_, rfl⟩
  rw [hxe] at ht
  by_cases h1 : x = 1
  · subst h1
    by_cases h8 : 8 ≤ (l.drop 1).length
    · refine (tv_int b off n c l w0 w hu0 hn h0 hc1 hc hm hl hx _ hxe h8 rfl).mono fun e w' h => .inl ⟨_, _, ?_, h⟩
      rw [ht, if_pos rfl, takeW, if_pos h8]; rfl
    · refine (tv_short1 b off n c l w0 w hu0 hn h0 hc1 hc hm hl hx hxe (by omega)).mono fun e w' h => .inr ⟨?_, h⟩
      rw [ht, if_pos rfl, takeW, if_neg h8]
  by_cases h2 : x = 2
  · subst h2
    by_cases hn1 : n = 1
    · refine (tv_boolnone b off n c l w0 w hu0 hn h0 hc1 hc hm hl hx hxe hn1).mono fun e w' h => .inr ⟨?_, h⟩
      rw [ht, List.drop_eq_nil_of_le (by omega)]; rfl
    · obtain ⟨p, rfl⟩ : ∃ p, n = p + 1 := ⟨n - 1, by omega⟩
      obtain ⟨q, rfl⟩ : ∃ q, c = q + 1 := ⟨c - 1, by omega⟩
      have c0 := hu0.cell (hx 0 (by omega))
      rw [hxe] at c0
      have c1 := hu0.cell (hx 1 (by omega))
      have hd : l.drop 1 = l.getD 1 0 :: l.drop 2 := drop_byte (by omega)
      obtain ⟨y, hy⟩ : ∃ y, y = l.getD 1 0 := ⟨_, rfl⟩
      rw [← hy] at c1 hd
      have ht2 : takeV l = if y.toNat ≤ 1 then some ((2, (y.toNat : Int), ⟨#[]⟩, 0), l.drop 2) else none := by
        rw [ht, hd]; rfl
      by_cases hq : q = 1
      · have hp1 : p = 1 := by omega
        have hs : Sl w0 (.slice (some ⟨b, off + 1, none⟩) 0 0) (l.drop 2) := by
          rw [List.drop_eq_nil_of_le (by omega)]
          exact ⟨_, _, rfl, Nat.le_refl _, Nat.zero_le _, rfl, .inl rfl⟩
        by_cases hyy : y.toNat ≤ 1
        · refine (tv_boolByes b off p q (l.drop 2) w0 w y (by omega) (by omega) hq hp1 c0 c1 hs hyy).mono fun e w' h => .inl ⟨_, _, ?_, h⟩
          rw [ht2, if_pos hyy]
        · refine (tv_boolBno b off p q (l.drop 2) w0 w y (by omega) (by omega) hq hp1 c0 c1 hs hyy).mono fun e w' h => .inr ⟨?_, h⟩
          rw [ht2, if_neg hyy]
      · have hs : Sl w0 (.slice (some ⟨b, off + 1 + 1, none⟩) (p - 1) (q - 1)) (l.drop 2) := by
          have := sl_drop hl hc hm hx 2
          rw [show p + 1 - 2 = p - 1 by omega, show q + 1 - 2 = q - 1 by omega] at this
          exact this
        by_cases hyy : y.toNat ≤ 1
        · refine (tv_boolAyes b off p q (l.drop 2) w0 w y (by omega) (by omega) hq c0 c1 hs hyy).mono fun e w' h => .inl ⟨_, _, ?_, h⟩
          rw [ht2, if_pos hyy]
        · refine (tv_boolAno b off p q (l.drop 2) w0 w y (by omega) (by omega) hq c0 c1 hs hyy).mono fun e w' h => .inr ⟨?_, h⟩
          rw [ht2, if_neg hyy]
  by_cases h3 : x = 3
  · subst h3
    have ht3 : takeV l = takeS 3 (l.drop 1) := ht
    cases hs : unescL (l.drop 1) with
    | none =>
      refine (tv_none3 b off n c l w0 w hu0 hn h0 hc1 hc hm hl hx hxe hs).mono fun e w' h => .inr ⟨?_, h⟩
      rw [ht3, takeS, hs]
    | some p =>
      obtain ⟨t, r⟩ := p
      by_cases h60 : t.length ≤ 60
      · refine (tv_str3 b off n c l w0 w hu0 hn h0 hc1 hc hm hl hx t r hxe hs h60).mono fun e w' h => .inl ⟨_, _, ?_, h⟩
        rw [ht3, takeS, hs]; simp [h60]
      · refine (tv_long3 b off n c l w0 w hu0 hn h0 hc1 hc hm hl hx t r hxe hs h60).mono fun e w' h => .inr ⟨?_, h⟩
        rw [ht3, takeS, hs]; simp [h60]
  by_cases h4 : x = 4
  · subst h4
    have ht3 : takeV l = takeS 4 (l.drop 1) := ht
    cases hs : unescL (l.drop 1) with
    | none =>
      refine (tv_none4 b off n c l w0 w hu0 hn h0 hc1 hc hm hl hx hxe hs).mono fun e w' h => .inr ⟨?_, h⟩
      rw [ht3, takeS, hs]
    | some p =>
      obtain ⟨t, r⟩ := p
      by_cases h60 : t.length ≤ 60
      · refine (tv_str4 b off n c l w0 w hu0 hn h0 hc1 hc hm hl hx t r hxe hs h60).mono fun e w' h => .inl ⟨_, _, ?_, h⟩
        rw [ht3, takeS, hs]; simp [h60]
      · refine (tv_long4 b off n c l w0 w hu0 hn h0 hc1 hc hm hl hx t r hxe hs h60).mono fun e w' h => .inr ⟨?_, h⟩
        rw [ht3, takeS, hs]; simp [h60]
  by_cases h5 : x = 5
  · subst h5
    by_cases h8 : 8 ≤ (l.drop 1).length
    · refine (tv_float b off n c l w0 w hu0 hn h0 hc1 hc hm hl hx _ hxe h8 rfl numL_whole).mono fun e w' h => .inl ⟨_, _, ?_, h⟩
      have ht5 : takeV l = takeW 5 (l.drop 1) := ht
      rw [ht5, takeW, if_pos h8]; rfl
    · refine (tv_short5 b off n c l w0 w hu0 hn h0 hc1 hc hm hl hx hxe (by omega)).mono fun e w' h => .inr ⟨?_, h⟩
      have ht5 : takeV l = takeW 5 (l.drop 1) := ht
      rw [ht5, takeW, if_neg h8]
  · refine (tv_other x b off n c l w0 w hu0 hn h0 hc1 hc hm hl hx h1 h2 h3 h4 h5 hxe).mono fun e w' h => .inr ⟨?_, h⟩
    rw [ht, if_neg h1, if_neg h2, if_neg h3, if_neg h4, if_neg h5]

theorem takeValue_calls (r : Value) (l : List UInt8) (w0 w : World) (hu0 : Up w0 w) (hn : l.length ≤ 1000000) (h0 : 0 < l.length) (hs : Sl w0 r l) : Calls Try.prog 22 #[r] w fun e w' => TakePost w0 w l e w' := by
  obtain ⟨a, c, rfl, hc, hm, hl, h⟩ := hs
  rcases h with h | ⟨b, off, rfl, hx⟩
  · omega
  · by_cases hc1 : c = 1
    · subst hc1
      have e : l.length = 1 := by omega
      rw [e]
      exact takeValue_one b off l w0 w hu0 e (hx 0 (by omega))
    · exact takeValue_many b off l.length c l w0 w hu0 hn h0 hc1 hc hm rfl hx

end Go.Proofs.Ytlhaohioolagoaa
