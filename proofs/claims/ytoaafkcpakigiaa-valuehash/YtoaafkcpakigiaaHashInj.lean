/-
  A byte that is changed changes the number that a row's bytes make: plain facts of the hash.
-/
import Derived.Test.YtoaafkcpakigiaaValHash
namespace Go.Proofs.Ytoaafkcpakigiaa
open Go.RowKit

theorem prime_back (z : Nat) (hz : z < whole) : (z * 1099511628211 % whole) * 14886173955864302971 % whole = z := by
  rw [Nat.mul_mod, Nat.mod_mod, ← Nat.mul_mod, Nat.mul_assoc, Nat.mul_mod, show 1099511628211 * 14886173955864302971 % whole = 1 from by decide +kernel, Nat.mul_one, Nat.mod_mod, Nat.mod_eq_of_lt hz]
theorem prime_inj {x y : Nat} (hx : x < whole) (hy : y < whole) (h : x * 1099511628211 % whole = y * 1099511628211 % whole) : x = y := by
  rw [← prime_back x hx, h, prime_back y hy]

theorem xor_lt {h b : Nat} (hh : h < whole) (hb : b < 256) : h ^^^ b < whole := by
  have e : whole = 2 ^ 64 := by decide +kernel
  rw [e] at hh ⊢
  exact Nat.xor_lt_two_pow hh (by omega)
theorem xor_back (x y : Nat) : x ^^^ (x ^^^ y) = y := by rw [← Nat.xor_assoc, Nat.xor_self, Nat.zero_xor]

theorem hb_inj {h h' b b' : Nat} (hh : h < whole) (hh' : h' < whole) (hb1 : b < 256) (hb2 : b' < 256) (e : hb h b = hb h' b') : h ^^^ b = h' ^^^ b' :=
  prime_inj (xor_lt hh hb1) (xor_lt hh' hb2) e
theorem hb_byte {h b b' : Nat} (hh : h < whole) (hb1 : b < 256) (hb2 : b' < 256) (e : hb h b = hb h b') : b = b' := by
  have := hb_inj hh hh hb1 hb2 e
  rw [← xor_back h b, this, xor_back]
theorem hb_start {h h' b : Nat} (hh : h < whole) (hh' : h' < whole) (hb1 : b < 256) (e : hb h b = hb h' b) : h = h' := by
  have := hb_inj hh hh' hb1 hb1 e
  rw [Nat.xor_comm h, Nat.xor_comm h'] at this
  rw [← xor_back b h, this, xor_back]
theorem hw_start (k : Nat) : ∀ {h h' n : Nat}, h < whole → h' < whole → hw k h n = hw k h' n → h = h' := by
  induction k with
  | zero => intro h h' n _ _ e; exact e
  | succ k ih => intro h h' n hh hh' e; exact hb_start hh hh' (Nat.mod_lt _ (by decide)) (ih (hb_lt _ _) (hb_lt _ _) e)
theorem hs_start (l : List UInt8) : ∀ {h h' : Nat}, h < whole → h' < whole → hs h l = hs h' l → h = h' := by
  induction l with
  | nil => intro h h' _ _ e; exact e
  | cons c l ih => intro h h' hh hh' e; exact hb_start hh hh' c.toNat_lt (ih (hb_lt _ _) (hb_lt _ _) e)

theorem xor_one_div (n : Nat) : (n ^^^ 1) / 256 = n / 256 := by
  have := Nat.xor_div_two_pow (a := n) (b := 1) (n := 8)
  simpa using this
theorem xor_one_mod (n : Nat) : ¬ (n ^^^ 1) % 256 = n % 256 := by
  intro e
  have h := Nat.xor_mod_two_pow (a := n) (b := 1) (n := 8)
  have h2 : (n ^^^ 1) % 256 = (n % 256) ^^^ 1 := by simpa using h
  rw [e] at h2
  have h3 := xor_back (n % 256) 1
  rw [← h2, Nat.xor_self] at h3
  cases h3

/-- A number with its lowest bit turned makes another hash. -/
theorem hw_bit {k h n : Nat} (hh : h < whole) : ¬ hw (k + 1) h (n ^^^ 1) = hw (k + 1) h n := by
  intro e
  rw [hw, hw, xor_one_div] at e
  have := hw_start k (hb_lt _ _) (hb_lt _ _) e
  exact xor_one_mod n (hb_byte hh (Nat.mod_lt _ (by decide)) (Nat.mod_lt _ (by decide)) this)

theorem xor_i64 (n : Int) : (bits .xor .i64 n 1 % 18446744073709551616).toNat = (n % 18446744073709551616).toNat ^^^ 1 := by
  have e : bits .xor .i64 n 1 = IntKind.i64.wrap ((BitVec.ofInt 64 n ^^^ BitVec.ofInt 64 1).toNat : Int) := rfl
  have h1 : (BitVec.ofInt 64 n).toNat = (n % 18446744073709551616).toNat := by
    rw [BitVec.toNat_ofInt]; rfl
  rw [e, BitVec.toNat_xor, h1, show (BitVec.ofInt 64 1).toNat = 1 from rfl]
  have hlt : (n % 18446744073709551616).toNat ^^^ 1 < 2 ^ 64 := Nat.xor_lt_two_pow (by omega) (by omega)
  generalize (n % 18446744073709551616).toNat ^^^ 1 = x at hlt ⊢
  rw [IntKind.wrap_i64]
  omega

theorem hv_num (h : Nat) (n : Int) : hv h (1, n, ⟨#[]⟩, 0) = hw 8 (hw 8 (hw 8 (hb h 1) (n % 18446744073709551616).toNat) 0) (ordN 0) := by
  unfold hv
  simp only
  rw [show ((1 : Int) % 256).toNat = 1 from rfl, show ByteArray.size ⟨#[]⟩ = 0 from rfl]
  unfold hs
  rw [List.foldl_nil]

theorem hash_turned (l : List VT) (n : Int) : ¬ hashV (l ++ [(1, bits .xor .i64 n 1, ⟨#[]⟩, 0)]) = hashV (l ++ [(1, n, ⟨#[]⟩, 0)]) := by
  intro e
  unfold hashV at e
  rw [List.foldl_append, List.foldl_append, List.foldl_cons, List.foldl_nil, List.foldl_cons, List.foldl_nil, hv_num, hv_num, xor_i64] at e
  have a1 := hw_start 8 (hw_lt _ _ _ (hw_lt _ _ _ (hb_lt _ _))) (hw_lt _ _ _ (hw_lt _ _ _ (hb_lt _ _))) e
  have a3 := hw_start 8 (hw_lt _ _ _ (hb_lt _ _)) (hw_lt _ _ _ (hb_lt _ _)) a1
  exact hw_bit (hb_lt _ _) a3

theorem hashV_lt (l : List VT) : hashV l < whole := by
  unfold hashV
  have : ∀ (l : List VT) (h : Nat), h < whole → l.foldl hv h < whole := by
    intro l
    induction l with
    | nil => intro h hh; exact hh
    | cons v l ih => intro h hh; exact ih _ (hv_lt _ _)
  exact this l _ (by decide +kernel)

end Go.Proofs.Ytoaafkcpakigiaa
