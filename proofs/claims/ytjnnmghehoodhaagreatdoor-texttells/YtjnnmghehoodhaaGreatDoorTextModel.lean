/-
  Values as texts, told in plain words: what a value and a row are printed as, and that a plain reader reads them back. No program is named here.
-/
import Derived.Test.YtjnnmghehoodhaaGreatDoorCodeModel
import Derived.Test.YtjnnmghehoodhaaGreatDoorValIs
namespace Go.Proofs.YtjnnmghehoodhaaGreatDoor

/-- A digit of sixteen. -/
def hexD (n : Nat) : UInt8 := if n < 10 then UInt8.ofNat (48 + n) else UInt8.ofNat (87 + n)
/-- What a digit of sixteen means. -/
def unhexD (c : UInt8) : Option Nat := if 48 ≤ c.toNat ∧ c.toNat ≤ 57 then some (c.toNat - 48) else if 97 ≤ c.toNat ∧ c.toNat ≤ 102 then some (c.toNat - 87) else none
theorem unhexD_hexD : ∀ n, n < 16 → unhexD (hexD n) = some n := by decide
theorem hexD_range : ∀ n, n < 16 → (48 ≤ (hexD n).toNat ∧ (hexD n).toNat ≤ 57) ∨ (97 ≤ (hexD n).toNat ∧ (hexD n).toNat ≤ 102) := by decide
theorem hexD_plain : ∀ n, n < 16 → hexD n ≠ 34 ∧ hexD n ≠ 92 ∧ hexD n ≠ 44 := by decide
theorem unhexD_lt {c : UInt8} {n : Nat} (h : unhexD c = some n) : n < 16 ∧ hexD n = c := by
  unfold unhexD at h
  split at h
  · next hc =>
    obtain rfl := Option.some.inj h
    refine ⟨by omega, ?_⟩
    rw [hexD, if_pos (by omega), show 48 + (c.toNat - 48) = c.toNat by omega, UInt8.ofNat_toNat]
  · split at h
    · next hc =>
      obtain rfl := Option.some.inj h
      refine ⟨by omega, ?_⟩
      rw [hexD, if_neg (by omega), show 87 + (c.toNat - 87) = c.toNat by omega, UInt8.ofNat_toNat]
    · exact absurd h (by simp)

/-- A byte's two digits. -/
def hexHi (c : UInt8) : UInt8 := hexD (c.toNat / 16)
def hexLo (c : UInt8) : UInt8 := hexD (c.toNat % 16)
theorem hi_lt (c : UInt8) : c.toNat / 16 < 16 := by have := c.toNat_lt; omega
theorem lo_lt (c : UInt8) : c.toNat % 16 < 16 := by omega
theorem unhex_hi (c : UInt8) : unhexD (hexHi c) = some (c.toNat / 16) := unhexD_hexD _ (hi_lt c)
theorem unhex_lo (c : UInt8) : unhexD (hexLo c) = some (c.toNat % 16) := unhexD_hexD _ (lo_lt c)
theorem hi_lo (c : UInt8) : UInt8.ofNat (16 * (c.toNat / 16) + c.toNat % 16) = c := by
  rw [show 16 * (c.toNat / 16) + c.toNat % 16 = c.toNat by omega, UInt8.ofNat_toNat]
theorem hi_lo_of {x y : Nat} (hx : x < 16) (hy : y < 16) : hexHi (UInt8.ofNat (16 * x + y)) = hexD x ∧ hexLo (UInt8.ofNat (16 * x + y)) = hexD y := by
  unfold hexHi hexLo
  rw [UInt8.toNat_ofNat']
  constructor
  · congr 1; omega
  · congr 1; omega

/-- Bytes as digits of sixteen. -/
def hexL : List UInt8 → List UInt8
  | [] => []
  | c :: l => hexHi c :: hexLo c :: hexL l
theorem hexL_append (l m : List UInt8) : hexL (l ++ m) = hexL l ++ hexL m := by
  induction l with
  | nil => rfl
  | cons c l ih => simp [hexL, ih]
theorem hexL_length (l : List UInt8) : (hexL l).length = 2 * l.length := by
  induction l with
  | nil => rfl
  | cons c l ih => simp [hexL, ih]; omega
theorem hexL_plain (l : List UInt8) : ∀ c ∈ hexL l, c ≠ 34 ∧ c ≠ 92 ∧ c ≠ 44 := by
  induction l with
  | nil => simp [hexL]
  | cons c l ih =>
    intro d hd
    simp only [hexL, List.mem_cons] at hd
    rcases hd with rfl | rfl | hd
    · exact hexD_plain _ (hi_lt c)
    · exact hexD_plain _ (lo_lt c)
    · exact ih d hd
/-- Bytes out of digits of sixteen. -/
def unhexL : List UInt8 → Option (List UInt8)
  | [] => some []
  | [_] => none
  | a :: b :: r => match unhexD a, unhexD b with
    | some x, some y => (unhexL r).map fun l => UInt8.ofNat (16 * x + y) :: l
    | _, _ => none
theorem unhexL_hexL (l : List UInt8) : unhexL (hexL l) = some l := by
  induction l with
  | nil => rfl
  | cons c l ih =>
    rw [hexL, unhexL, unhex_hi, unhex_lo]
    simp only [ih, Option.map_some, hi_lo]
theorem hexL_unhexL : ∀ (n : Nat) (s l : List UInt8), s.length ≤ n → unhexL s = some l → hexL l = s
  | _, [], l, _, h => by
    rw [unhexL] at h
    obtain rfl := Option.some.inj h
    rfl
  | _, [_], l, _, h => by
    rw [unhexL] at h
    exact absurd h (by simp)
  | 0, _ :: _ :: _, _, hn, _ => by simp at hn
  | n + 1, a :: b :: r, l, hn, h => by
    rw [unhexL] at h
    cases hx : unhexD a with
    | none => rw [hx] at h; exact absurd h (by simp)
    | some x =>
      cases hy : unhexD b with
      | none => rw [hx, hy] at h; exact absurd h (by simp)
      | some y =>
        rw [hx, hy] at h
        cases hr : unhexL r with
        | none => rw [hr] at h; exact absurd h (by simp)
        | some m =>
          rw [hr] at h
          obtain rfl := Option.some.inj h
          have ih := hexL_unhexL n r m (by simp at hn; omega) hr
          obtain ⟨lx, ex⟩ := unhexD_lt hx
          obtain ⟨ly, ey⟩ := unhexD_lt hy
          obtain ⟨h1, h2⟩ := hi_lo_of lx ly
          rw [hexL, h1, h2, ex, ey, ih]

/-- A number's decimal digits. -/
def decN (n : Nat) : List UInt8 := if h : n < 10 then [UInt8.ofNat (48 + n)] else decN (n / 10) ++ [UInt8.ofNat (48 + n % 10)]
theorem decN_small {n : Nat} (h : n < 10) : decN n = [UInt8.ofNat (48 + n)] := by
  rw [decN, dif_pos h]
theorem decN_great {n : Nat} (h : ¬ n < 10) : decN n = decN (n / 10) ++ [UInt8.ofNat (48 + n % 10)] := by
  rw [decN, dif_neg h]
theorem dig_toNat {d : Nat} (h : d < 10) : (UInt8.ofNat (48 + d)).toNat = 48 + d := by
  rw [UInt8.toNat_ofNat']; omega
/-- Digits alone. -/
def Digs (l : List UInt8) : Prop := ∀ c ∈ l, 48 ≤ c.toNat ∧ c.toNat ≤ 57
theorem decN_digs (n : Nat) : Digs (decN n) := by
  induction n using Nat.strongRecOn with
  | _ n ih =>
    intro c hc
    by_cases h : n < 10
    · rw [decN_small h, List.mem_singleton] at hc
      rw [hc, dig_toNat h]; omega
    · rw [decN_great h, List.mem_append, List.mem_singleton] at hc
      rcases hc with hc | rfl
      · exact ih _ (by omega) c hc
      · rw [dig_toNat (by omega)]; omega
theorem decN_ne (n : Nat) : decN n ≠ [] := by
  by_cases h : n < 10
  · rw [decN_small h]; simp
  · rw [decN_great h]; simp
/-- What digits mean, one behind the other. -/
def decV (l : List UInt8) : Nat := l.foldl (fun n c => 10 * n + (c.toNat - 48)) 0
theorem decV_snoc (l : List UInt8) (c : UInt8) : decV (l ++ [c]) = 10 * decV l + (c.toNat - 48) := by
  unfold decV
  rw [List.foldl_append]; rfl
theorem decV_decN (n : Nat) : decV (decN n) = n := by
  induction n using Nat.strongRecOn with
  | _ n ih =>
    by_cases h : n < 10
    · rw [decN_small h]
      show 10 * 0 + ((UInt8.ofNat (48 + n)).toNat - 48) = n
      rw [dig_toNat h]; omega
    · rw [decN_great h, decV_snoc, ih _ (by omega), dig_toNat (by omega)]; omega
/-- The first digit is a nought of nought alone. -/
theorem decN_head (n : Nat) (h : n ≠ 0) : ∃ c l, decN n = c :: l ∧ 49 ≤ c.toNat ∧ c.toNat ≤ 57 := by
  induction n using Nat.strongRecOn with
  | _ n ih =>
    by_cases h9 : n < 10
    · exact ⟨_, _, decN_small h9, by rw [dig_toNat h9]; omega, by rw [dig_toNat h9]; omega⟩
    · obtain ⟨c, l, he, hc⟩ := ih (n / 10) (by omega) (by omega)
      exact ⟨c, l ++ [UInt8.ofNat (48 + n % 10)], by rw [decN_great h9, he]; rfl, hc⟩
/-- Digits without a nought ahead are those of what they mean. -/
theorem decN_decV : ∀ (k : Nat) (l : List UInt8), l.length = k → Digs l → l ≠ [] → (∀ r, l ≠ 48 :: r ∨ r = []) → decN (decV l) = l
  | 0, l, hk, _, hn, _ => absurd (List.length_eq_zero_iff.mp hk) hn
  | k + 1, l, hk, hd, hn, hz => by
    obtain ⟨m, c, rfl⟩ : ∃ m c, l = m ++ [c] := ⟨l.dropLast, l.getLast hn, (List.dropLast_concat_getLast hn).symm⟩
    have hc := hd c (by simp)
    rw [decV_snoc]
    by_cases hm : m = []
    · subst hm
      rw [show decV [] = 0 from rfl, decN_small (by omega), show 48 + (10 * 0 + (c.toNat - 48)) = c.toNat by omega, UInt8.ofNat_toNat]
      rfl
    · have hlen : m.length = k := by simp at hk; exact hk
      have hmz : ∀ r, m ≠ 48 :: r ∨ r = [] := fun r => by
        refine .inl fun e => ?_
        rcases hz (r ++ [c]) with h | h
        · exact h (by rw [e]; rfl)
        · simp at h
      have ih := decN_decV k m hlen (fun x hx => hd x (by simp [hx])) hm hmz
      have hpos : decV m ≠ 0 := fun e => by
        rw [e] at ih
        rw [decN_small (by omega)] at ih
        rcases hz [c] with h | h
        · exact h (by rw [← ih]; rfl)
        · simp at h
      rw [decN_great (by omega), show (10 * decV m + (c.toNat - 48)) / 10 = decV m by omega, ih, show 48 + (10 * decV m + (c.toNat - 48)) % 10 = c.toNat by omega, UInt8.ofNat_toNat]

/-- An Int's digits. -/
def decI (n : Int) : List UInt8 := if n < 0 then 45 :: decN n.natAbs else decN n.natAbs

/-- A byte within quotes. -/
def quoC (c : UInt8) : List UInt8 := if c = 34 ∨ c = 92 then [92, c] else if 32 ≤ c.toNat ∧ c.toNat ≤ 126 then [c] else [92, 120, hexHi c, hexLo c]
def quoL : List UInt8 → List UInt8
  | [] => []
  | c :: l => quoC c ++ quoL l
theorem quoL_append (l m : List UInt8) : quoL (l ++ m) = quoL l ++ quoL m := by
  induction l with
  | nil => rfl
  | cons c l ih => simp [quoL, ih]
theorem quoC_length (c : UInt8) : (quoC c).length ≤ 4 ∧ 0 < (quoC c).length := by
  unfold quoC
  split
  · simp
  · split <;> simp
theorem quoL_length (l : List UInt8) : (quoL l).length ≤ 4 * l.length := by
  induction l with
  | nil => simp [quoL]
  | cons c l ih => have := (quoC_length c).1; simp [quoL]; omega
/-- All of it can be printed. -/
theorem quoC_seen (c : UInt8) : ∀ d ∈ quoC c, 32 ≤ d.toNat ∧ d.toNat ≤ 126 := by
  intro d hd
  unfold quoC at hd
  split at hd
  · next h =>
    simp only [List.mem_cons, List.not_mem_nil, or_false] at hd
    rcases hd with rfl | rfl
    · decide
    · rcases h with rfl | rfl <;> decide
  · split at hd
    · next h =>
      simp only [List.mem_cons, List.not_mem_nil, or_false] at hd
      rw [hd]; exact h
    · simp only [List.mem_cons, List.not_mem_nil, or_false] at hd
      rcases hd with rfl | rfl | rfl | rfl
      · decide
      · decide
      · have := hexD_range _ (hi_lt c); unfold hexHi; omega
      · have := hexD_range _ (lo_lt c); unfold hexLo; omega
theorem quoL_seen (l : List UInt8) : ∀ d ∈ quoL l, 32 ≤ d.toNat ∧ d.toNat ≤ 126 := by
  induction l with
  | nil => simp [quoL]
  | cons c l ih =>
    intro d hd
    simp only [quoL, List.mem_append] at hd
    exact hd.elim (quoC_seen c d) (ih d)

/-- What a value is printed as. -/
def quoS (l : List UInt8) : List UInt8 := 34 :: (quoL l ++ [34])
def trueL : List UInt8 := [116, 114, 117, 101]
def falseL : List UInt8 := [102, 97, 108, 115, 101]
def prnV (v : VT) : List UInt8 :=
  if isB v = true then
    if v.1 = 1 then decI v.2.1 else if v.1 = 2 then (if v.2.1 = 1 then trueL else falseL) else if v.1 = 3 then quoS v.2.2.1.data.toList
    else if v.1 = 4 then 120 :: hexL v.2.2.1.data.toList else 102 :: hexL (wordL v.2.2.2)
  else [63]
/-- Several, one behind the other, and what a row is printed as. -/
def joinT : List (List UInt8) → List UInt8
  | [] => []
  | [t] => t
  | t :: u :: l => t ++ 44 :: 32 :: joinT (u :: l)
def rowT (l : List VT) : List UInt8 := 40 :: (joinT (l.map prnV) ++ [41])

end Go.Proofs.YtjnnmghehoodhaaGreatDoor
