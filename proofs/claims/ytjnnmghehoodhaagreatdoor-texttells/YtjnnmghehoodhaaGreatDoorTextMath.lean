/-
  A plain reader of texts: it reads just what is printed. No program is named here.
-/
import Derived.Test.YtjnnmghehoodhaaGreatDoorTextModel
import Derived.Lib.Bytealg
namespace Go.Proofs.YtjnnmghehoodhaaGreatDoor

theorem t_empty {s : ByteArray} (hs : s.toList.isEmpty = true) : s = ⟨#[]⟩ := by
  have e : s.toList = [] := List.isEmpty_iff.mp hs
  rw [Go.Lib.toList_data] at e
  have h : s.data = #[] := Array.toList_inj.1 (by rw [e])
  cases s
  simp_all
theorem t_cases {k n : Int} {s : ByteArray} {f : Nat} (h : isB (k, n, s, f) = true) :
    (k = 1 ∧ s = ⟨#[]⟩ ∧ f = 0) ∨ (k = 2 ∧ (n = 0 ∨ n = 1) ∧ s = ⟨#[]⟩ ∧ f = 0) ∨ ((k = 3 ∨ k = 4) ∧ n = 0 ∧ s.size ≤ 60 ∧ f = 0) ∨ (k = 5 ∧ n = 0 ∧ s = ⟨#[]⟩) := by
  unfold isB at h
  simp only at h
  split at h
  · next h1 =>
    simp only [Bool.and_eq_true, beq_iff_eq] at h
    exact .inl ⟨h1, t_empty h.1, by omega⟩
  split at h
  · next h2 =>
    simp only [Bool.and_eq_true, Bool.or_eq_true, beq_iff_eq] at h
    exact .inr (.inl ⟨h2, h.1.1, t_empty h.1.2, by omega⟩)
  split at h
  · next h3 =>
    simp only [Bool.and_eq_true, beq_iff_eq, decide_eq_true_eq] at h
    exact .inr (.inr (.inl ⟨h3, h.1.1, by omega, by omega⟩))
  split at h
  · next h5 =>
    simp only [Bool.and_eq_true, beq_iff_eq] at h
    exact .inr (.inr (.inr ⟨h5, h.1, t_empty h.2⟩))
  · exact absurd h (by simp)
theorem t_int (n : Int) : isB (1, n, ⟨#[]⟩, 0) = true := by simp [isB, Go.Lib.toList_data]
theorem t_bool {n : Int} (h : n = 0 ∨ n = 1) : isB (2, n, ⟨#[]⟩, 0) = true := by simp [isB, Go.Lib.toList_data, h]
theorem t_str {k : Int} (hk : k = 3 ∨ k = 4) {s : ByteArray} (h : s.size ≤ 60) : isB (k, 0, s, 0) = true := by
  have h1 : ¬ k = 1 := by omega
  have h2 : ¬ k = 2 := by omega
  unfold isB
  rw [if_neg h1, if_neg h2, if_pos hk]
  simp; omega
theorem t_float (f : Nat) : isB (5, 0, ⟨#[]⟩, f) = true := by simp [isB, Go.Lib.toList_data]

/-- What each sort of value is printed as. -/
theorem prn_int (n : Int) : prnV (1, n, ⟨#[]⟩, 0) = decI n := by
  rw [prnV, if_pos (t_int n), if_pos rfl]
theorem prn_true : prnV (2, 1, ⟨#[]⟩, 0) = trueL := by
  rw [prnV, if_pos (t_bool (.inr rfl))]; rfl
theorem prn_false : prnV (2, 0, ⟨#[]⟩, 0) = falseL := by
  rw [prnV, if_pos (t_bool (.inl rfl))]; rfl
theorem prn_str {s : ByteArray} (h : s.size ≤ 60) : prnV (3, 0, s, 0) = quoS s.data.toList := by
  rw [prnV, if_pos (t_str (.inl rfl) h)]; rfl
theorem prn_bytes {s : ByteArray} (h : s.size ≤ 60) : prnV (4, 0, s, 0) = 120 :: hexL s.data.toList := by
  rw [prnV, if_pos (t_str (.inr rfl) h)]; rfl
theorem prn_float (f : Nat) : prnV (5, 0, ⟨#[]⟩, f) = 102 :: hexL (wordL f) := by
  rw [prnV, if_pos (t_float f)]; rfl

/-- A number out of eight bytes. -/
def numT (l : List UInt8) : Nat := l.foldl (fun n c => n * 256 + c.toNat) 0
theorem t_div (x d : Nat) : x / d = x / (d * 256) * 256 + x / d % 256 := by
  have := Nat.div_add_mod (x / d) 256
  rw [Nat.div_div_eq_div_mul] at this
  omega
theorem t_byte (x d : Nat) : (byteOf x d).toNat = x / d % 256 := by
  unfold byteOf
  rw [UInt8.toNat_ofNat']
theorem numT_wordL (x : Nat) (h : x < whole) : numT (wordL x) = x := by
  have s0 := t_div x 1
  have s1 := t_div x 256
  have s2 := t_div x 65536
  have s3 := t_div x 16777216
  have s4 := t_div x 4294967296
  have s5 := t_div x 1099511627776
  have s6 := t_div x 281474976710656
  have s7 := t_div x 72057594037927936
  have s8 : x / (72057594037927936 * 256) = 0 := Nat.div_eq_of_lt (by simpa [whole] using h)
  simp only [Nat.reduceMul, Nat.div_one] at s0 s1 s2 s3 s4 s5 s6 s7 s8
  simp only [numT, wordL, List.foldl_cons, List.foldl_nil, t_byte, Nat.div_one]
  omega
theorem numT_lt : ∀ (l : List UInt8), numT l < 256 ^ l.length := by
  intro l
  have key : ∀ (l : List UInt8) (x : Nat), l.foldl (fun n c => n * 256 + c.toNat) x < (x + 1) * 256 ^ l.length := by
    intro l
    induction l with
    | nil => intro x; simp
    | cons c l ih =>
      intro x
      have h1 := ih (x * 256 + c.toNat)
      have hc := c.toNat_lt
      have h2 : (x * 256 + c.toNat + 1) * 256 ^ l.length ≤ ((x + 1) * 256) * 256 ^ l.length := Nat.mul_le_mul_right _ (by omega)
      rw [List.foldl_cons, List.length_cons, Nat.pow_succ, Nat.mul_comm (256 ^ l.length) 256, ← Nat.mul_assoc]
      omega
  have := key l 0
  simpa [numT] using this
/-- Two lists of bytes of one length that mean one number are the same. -/
theorem numT_inj : ∀ (a b : List UInt8), a.length = b.length → numT a = numT b → a = b := by
  intro a b hl h
  have snoc : ∀ (l : List UInt8) (c : UInt8), numT (l ++ [c]) = numT l * 256 + c.toNat := fun l c => by
    unfold numT; rw [List.foldl_append]; rfl
  generalize hk : a.length = k
  induction k generalizing a b with
  | zero =>
    have hb0 : b.length = 0 := by omega
    rw [List.length_eq_zero_iff.mp hk, List.length_eq_zero_iff.mp hb0]
  | succ k ih =>
    have ha : a ≠ [] := fun e => by rw [e] at hk; simp at hk
    have hb : b ≠ [] := fun e => by rw [e] at hl; rw [hl] at hk; simp at hk
    obtain ⟨p, c, rfl⟩ : ∃ p c, a = p ++ [c] := ⟨a.dropLast, a.getLast ha, (List.dropLast_concat_getLast ha).symm⟩
    obtain ⟨q, d, rfl⟩ : ∃ q d, b = q ++ [d] := ⟨b.dropLast, b.getLast hb, (List.dropLast_concat_getLast hb).symm⟩
    rw [snoc, snoc] at h
    have hc := c.toNat_lt
    have hd := d.toNat_lt
    simp only [List.length_append, List.length_cons, List.length_nil] at hl hk
    rw [ih p q (by omega) (by omega) (by omega), UInt8.toNat_inj.1 (by omega : c.toNat = d.toNat)]
theorem wordL_numT {l : List UInt8} (h : l.length = 8) : wordL (numT l) = l := by
  refine numT_inj _ _ (by rw [h]; rfl) (numT_wordL _ ?_)
  have := numT_lt l
  rw [h] at this
  simpa [whole] using this

/-- The byte of two digits, if they are. -/
def hexAt : List UInt8 → Option UInt8
  | a :: b :: _ => match unhexD a, unhexD b with
    | some x, some y => some (UInt8.ofNat (16 * x + y))
    | _, _ => none
  | _ => none
/-- What stands within quotes; the last byte isn't looked at. -/
def unqL : List UInt8 → List UInt8
  | [] => []
  | [_] => []
  | [c, d] => if c = 92 then d :: unqL [] else c :: unqL [d]
  | [c, d, a] => if c = 92 then d :: unqL [a] else c :: unqL [d, a]
  | c :: d :: a :: b :: r =>
    if c = 92 then
      match (if d = 120 then hexAt (a :: b :: r) else none) with
      | some x => x :: unqL r
      | none => d :: unqL (a :: b :: r)
    else c :: unqL (d :: a :: b :: r)
theorem unqL_nil : unqL [] = [] := by rw [unqL]
theorem unqL_one (c : UInt8) : unqL [c] = [] := by rw [unqL]
theorem unqL_plain {c : UInt8} (h : ¬ c = 92) (d : UInt8) (r : List UInt8) : unqL (c :: d :: r) = c :: unqL (d :: r) := by
  match r with
  | [] => exact if_neg h
  | [a] => exact if_neg h
  | a :: b :: r => rw [unqL, if_neg h]
theorem unqL_hex {r : List UInt8} {x : UInt8} (h : hexAt r = some x) : unqL (92 :: 120 :: r) = x :: unqL (r.drop 2) := by
  match r, h with
  | [], h => cases h
  | [a], h => cases h
  | a :: b :: r, h => rw [unqL, if_pos rfl, if_pos rfl, h]; rfl
theorem unqL_nohex {r : List UInt8} (h : hexAt r = none) : unqL (92 :: 120 :: r) = 120 :: unqL r := by
  match r, h with
  | [], h => exact if_pos rfl
  | [a], h => exact if_pos rfl
  | a :: b :: r, h => rw [unqL, if_pos rfl, if_pos rfl, h]
theorem unqL_sign {d : UInt8} (h : ¬ d = 120) (r : List UInt8) : unqL (92 :: d :: r) = d :: unqL r := by
  match r with
  | [] => exact if_pos rfl
  | [a] => exact if_pos rfl
  | a :: b :: r => rw [unqL, if_pos rfl, if_neg h]
theorem unqL_quoC (c e : UInt8) (t : List UInt8) : unqL (quoC c ++ e :: t) = c :: unqL (e :: t) := by
  unfold quoC
  split
  · next h =>
    have hx : ¬ c = 120 := by rcases h with rfl | rfl <;> decide
    exact unqL_sign hx _
  · next h =>
    split
    · exact unqL_plain (fun hc => h (.inr hc)) _ _
    · have hh : hexAt (hexHi c :: hexLo c :: e :: t) = some c := by
        show (match unhexD (hexHi c), unhexD (hexLo c) with
          | some x, some y => some (UInt8.ofNat (16 * x + y))
          | _, _ => none) = _
        rw [unhex_hi, unhex_lo]
        simp only [hi_lo]
      exact unqL_hex hh
theorem unqL_quoL (l : List UInt8) (e : UInt8) : unqL (quoL l ++ [e]) = l := by
  induction l with
  | nil => exact unqL_one e
  | cons c l ih =>
    obtain ⟨d, t, ht⟩ : ∃ d t, quoL l ++ [e] = d :: t := by
      cases hq : quoL l with
      | nil => exact ⟨e, [], rfl⟩
      | cons d t => exact ⟨d, t ++ [e], rfl⟩
    rw [quoL, List.append_assoc, ht, unqL_quoC, ← ht, ih]

/-- Digits one behind the other, what is none passed by. -/
def digF (u : Nat) (c : UInt8) : Nat := if 48 ≤ c.toNat ∧ c.toNat ≤ 57 then (10 * u + (c.toNat - 48)) % whole else u
def digV (s : List UInt8) : Nat := s.foldl digF 0
theorem digF_lt {u : Nat} (h : u < whole) (c : UInt8) : digF u c < whole := by
  unfold digF
  split
  · exact Nat.mod_lt _ (by simp [whole])
  · exact h
theorem digV_lt (s : List UInt8) : digV s < whole := by
  unfold digV
  have : ∀ (s : List UInt8) (u : Nat), u < whole → s.foldl digF u < whole := by
    intro s
    induction s with
    | nil => exact fun u h => h
    | cons c s ih => exact fun u h => ih _ (digF_lt h c)
  exact this s 0 (by simp [whole])
theorem digV_snoc (l : List UInt8) (c : UInt8) : digV (l ++ [c]) = digF (digV l) c := by
  unfold digV; rw [List.foldl_append]; rfl
theorem digV_decN (n : Nat) (h : n < whole) : digV (decN n) = n := by
  induction n using Nat.strongRecOn with
  | _ n ih =>
    by_cases h9 : n < 10
    · rw [decN_small h9]
      show digF 0 _ = n
      rw [digF, dig_toNat h9, if_pos (by omega), Nat.mod_eq_of_lt (by simp [whole]; omega)]; omega
    · rw [decN_great h9, digV_snoc, ih _ (by omega) (by omega), digF, dig_toNat (by omega), if_pos (by omega), show 10 * (n / 10) + (48 + n % 10 - 48) = n by omega, Nat.mod_eq_of_lt h]
theorem digV_minus (s : List UInt8) : digV (45 :: s) = digV s := by
  unfold digV; rw [List.foldl_cons]; rfl
/-- An Int out of digits. -/
def intU (u : Nat) : Int := if u < 9223372036854775808 then (u : Int) else (u : Int) - 18446744073709551616
def negU (u : Nat) : Nat := (whole - u) % whole
def rdI (s : List UInt8) : Int := if s.head? = some 45 then intU (negU (digV s)) else intU (digV s)
theorem rdI_decI (n : Int) (h : IntKind.i64.min ≤ n ∧ n ≤ IntKind.i64.max) : rdI (decI n) = n := by
  have h1 : IntKind.i64.min = -9223372036854775808 := by decide
  have h2 : IntKind.i64.max = 9223372036854775807 := by decide
  rw [h1, h2] at h
  have hw : whole = 18446744073709551616 := rfl
  unfold decI
  split
  · next hn =>
    rw [rdI, if_pos List.head?_cons, digV_minus, digV_decN _ (by omega), negU, intU, Nat.mod_eq_of_lt (by omega), hw]
    split
    · omega
    · omega
  · next hn =>
    have hh : ¬ (decN n.natAbs).head? = some 45 := fun e => by
      obtain ⟨r, hr⟩ := List.head?_eq_some_iff.mp e
      have := decN_digs n.natAbs 45 (by rw [hr]; simp)
      exact absurd this.1 (by decide)
    rw [rdI, if_neg hh, digV_decN _ (by omega), intU, if_pos (by omega)]
    omega
theorem rdI_fits (s : List UInt8) : IntKind.i64.min ≤ rdI s ∧ rdI s ≤ IntKind.i64.max := by
  have h1 : IntKind.i64.min = -9223372036854775808 := by decide
  have h2 : IntKind.i64.max = 9223372036854775807 := by decide
  have hw : whole = 18446744073709551616 := rfl
  have key : ∀ u, u < whole → IntKind.i64.min ≤ intU u ∧ intU u ≤ IntKind.i64.max := fun u hu => by
    rw [h1, h2, intU]
    split <;> omega
  unfold rdI
  split
  · exact key _ (Nat.mod_lt _ (by omega))
  · exact key _ (digV_lt s)

/-- A text read as a value, of whatever form. -/
def rdV (s : List UInt8) : VT :=
  if s = trueL then (2, 1, ⟨#[]⟩, 0) else if s = falseL then (2, 0, ⟨#[]⟩, 0)
  else if s.head? = some 34 then (3, 0, ⟨(unqL s.tail).toArray⟩, 0)
  else if s.head? = some 120 then (4, 0, ⟨((unhexL s.tail).getD []).toArray⟩, 0)
  else if s.length = 17 ∧ s.head? = some 102 then (5, 0, ⟨#[]⟩, numT ((unhexL s.tail).getD []))
  else (1, rdI s, ⟨#[]⟩, 0)

theorem decI_head (n : Int) : ∃ c r, decI n = c :: r ∧ (c = 45 ∨ (48 ≤ c.toNat ∧ c.toNat ≤ 57)) := by
  unfold decI
  split
  · exact ⟨_, _, rfl, .inl rfl⟩
  · cases h : decN n.natAbs with
    | nil => exact absurd h (decN_ne _)
    | cons c r => exact ⟨c, r, rfl, .inr (decN_digs _ c (by rw [h]; simp))⟩

theorem rd_prn (v : VT) (hv : isB v = true) (hf : Fits v) : rdV (prnV v) = v := by
  obtain ⟨k, n, s, f⟩ := v
  rcases t_cases hv with ⟨rfl, rfl, rfl⟩ | ⟨rfl, hn, rfl, rfl⟩ | ⟨hk, rfl, hs, rfl⟩ | ⟨rfl, rfl, rfl⟩
  · rw [prn_int]
    have hi := rdI_decI n ⟨hf.2.2.1, hf.2.2.2.1⟩
    obtain ⟨c, r, he, hc⟩ := decI_head n
    rw [he] at hi ⊢
    have ne : ∀ d : UInt8, d.toNat = 116 ∨ d.toNat = 102 ∨ d.toNat = 34 ∨ d.toNat = 120 → ¬ c = d := fun d hd e => by
      rcases hc with rfl | hc
      · have h45 : (45 : UInt8).toNat = 45 := rfl
        rw [← e, h45] at hd; omega
      · rw [← e] at hd; omega
    rw [rdV, if_neg, if_neg, if_neg, if_neg, if_neg, hi]
    · rintro ⟨-, e⟩; exact ne 102 (by decide) (by simpa using e)
    · intro e; exact ne 120 (by decide) (by simpa using e)
    · intro e; exact ne 34 (by decide) (by simpa using e)
    · intro e; exact ne 102 (by decide) (by simp [falseL] at e; exact e.1)
    · intro e; exact ne 116 (by decide) (by simp [trueL] at e; exact e.1)
  · rcases hn with rfl | rfl
    · rw [prn_false]; rfl
    · rw [prn_true]; rfl
  · rcases hk with rfl | rfl
    · rw [prn_str hs, quoS, rdV, if_neg (by simp [trueL]), if_neg (by simp [falseL]), if_pos List.head?_cons, List.tail_cons, unqL_quoL]
    · rw [prn_bytes hs, rdV, if_neg (by simp [trueL]), if_neg (by simp [falseL]), if_neg (by simp), if_pos List.head?_cons, List.tail_cons, unhexL_hexL]
      rfl
  · have hl : (hexL (wordL f)).length = 16 := by rw [hexL_length]; rfl
    rw [prn_float, rdV, if_neg (by simp [trueL]), if_neg, if_neg (by simp), if_neg (by simp), if_pos ⟨by rw [List.length_cons, hl], rfl⟩, List.tail_cons, unhexL_hexL]
    · show (5, 0, _, numT (wordL f)) = _
      rw [numT_wordL f hf.2.2.2.2.2]
    · intro e
      have := congrArg List.length e
      rw [List.length_cons, hl] at this
      exact absurd this (by decide)

/-- What is printed alike is the same. -/
theorem prn_inj {u v : VT} (hu : isB u = true) (hv : isB v = true) (fu : Fits u) (fv : Fits v) (h : prnV u = prnV v) : u = v := by
  rw [← rd_prn u hu fu, h, rd_prn v hv fv]

end Go.Proofs.YtjnnmghehoodhaaGreatDoor
