/-
  What takeWord of package code answers of every slice of bytes, as its text runs.
-/
import Derived.Test.YtlhaohioolagoaaBytes
import Derived.Test.YtlhaohioolagoaaCodeModel
import Derived.BigQuiet
import Derived.Deep.QuietTactic
namespace Go.Proofs.Ytlhaohioolagoaa
open Go.ChangeShapes Go.WideShapes Go.ChangeAt Go.RowKit
attribute [local go_sem ↓] Go.wp_at_zero Go.wp_at_succ
attribute [local go_sem] run_store_float

/-- A number out of its bytes. -/
def numL (l : List UInt8) : Nat := l.foldl (fun n c => n * 256 + c.toNat) 0

theorem takeWord_short (a : Option Addr) (n c : Nat) (w : World) (hn : n < 8) :
    Calls Try.prog 32 #[.slice a n c] w fun e w' => e = .returned (.tuple #[.int .u64 0, .slice none 0 0, .bool false]) ∧ w' = w := by
  have h0 : (n : Int) < 8 := by omega
  go_enter Try.func32, Try.ntmps32
  go_wp2
  go_ret3
  exact ⟨rfl, rfl⟩

theorem numL_take (l : List UInt8) (k : Nat) (h : k < l.length) : numL (l.take (k + 1)) = numL (l.take k) * 256 + (l.getD k 0).toNat := by
  unfold numL
  rw [List.take_add_one, List.foldl_append, List.getElem?_eq_getElem h, List.getD_eq_getElem?_getD, List.getElem?_eq_getElem h]
  rfl
theorem numL_lt (l : List UInt8) : numL l < 256 ^ l.length := by
  have key : ∀ (l : List UInt8) (x d : Nat), x < d → l.foldl (fun n c => n * 256 + c.toNat) x < d * 256 ^ l.length := by
    intro l
    induction l with
    | nil => intro x d h; simpa using h
    | cons c l ih =>
      intro x d h
      rw [List.foldl_cons, List.length_cons, Nat.pow_succ]
      have := ih (x * 256 + c.toNat) (d * 256) (by have := c.toNat_lt; omega)
      rw [Nat.mul_assoc] at this
      rw [Nat.mul_comm (256 ^ l.length) 256]
      exact this
  have := key l 0 1 (by omega)
  simpa [numL] using this

theorem or_byte (x : Nat) (c : UInt8) (hx : x < 72057594037927936) : bits .or .u64 (IntKind.u64.wrap ((x : Int) * 256)) (IntKind.u64.wrap (c.toNat : Int)) = ((x * 256 + c.toNat : Nat) : Int) := by
  have hc := c.toNat_lt
  have e1 : IntKind.u64.wrap ((x : Int) * 256) = ((x * 256 : Nat) : Int) := by rw [IntKind.wrap_u64]; omega
  have e2 : IntKind.u64.wrap (c.toNat : Int) = (c.toNat : Int) := by rw [IntKind.wrap_u64]; omega
  rw [e1, e2, u64_or_nat (x * 256) c.toNat (by omega) (by omega), nat_join 8 (x * 256) c.toNat (by omega) hc]

set_option maxHeartbeats 4000000 in
theorem takeWord_long (b off n c : Nat) (l : List UInt8) (w0 w : World) (hu0 : Up w0 w) (hn : 8 ≤ n) (hc : n ≤ c) (hm : c ≤ maxLen) (hl : l.length = n) (hx : ∀ i, i < n → w0.cell? ⟨b, off + i, none⟩ = some (.int .u8 ((l.getD i 0).toNat : Int))) :
    Calls Try.prog 32 #[.slice (some ⟨b, off, none⟩) n c] w fun e w' => ∃ r, e = .returned (.tuple #[.int .u64 (numL (l.take 8) : Int), r, .bool true]) ∧ Sl w0 r (l.drop 8) ∧ Up w w' := by
  have H0 := hide hx
  have H : Hid (∀ i, i < n → w.cell? ⟨b, off + i, none⟩ = some (.int .u8 ((l.getD i 0).toNat : Int))) := hide fun i hi => hu0.cell (hx i hi)
  have HL := hide hl
  clear hx hl hu0
  have HM := hide hm
  unfold maxLen at hm
  have h0 : ¬ (n : Int) < 8 := by omega
  have h1 : (8 : Int) ≤ (c : Int) := by omega
  go_enter Try.func32, Try.ntmps32
  go_wp2_with fail
  go_loop [2, 13] (fun x i => ∃ k : Nat, k ≤ 8 ∧ i = .int .i64 k ∧ x = .int .u64 (numL (l.take k) : Int)) (fun _ i => 8 - (intOf i).toNat)
  case atStart => exact ⟨0, by omega, rfl, by simp [numL]⟩
  case round =>
    obtain ⟨k, hk, rfl, rfl⟩ := hrel
    by_cases hlt : k < 8
    · have hcell := H.out k (by omega)
      have i0 : (0 : Int) ≤ (k : Int) := by omega
      have i1 : (k : Int) < 8 := by omega
      obtain ⟨d, hd⟩ : ∃ d, d = l.getD k 0 := ⟨_, rfl⟩
      have hst := numL_take l k (by rw [HL.out]; omega)
      rw [← hd] at hcell hst
      have hlt2 := numL_lt (l.take k)
      rw [List.length_take, HL.out, Nat.min_eq_left (by omega)] at hlt2
      have hp : 256 ^ k ≤ 256 ^ 7 := Nat.pow_le_pow_right (by omega) (by omega)
      have hor := or_byte (numL (l.take k)) d (Nat.lt_of_lt_of_le hlt2 (Nat.le_trans hp (by decide)))
      rw [← hst] at hor
      replace hd := hide hd
      clear hst hlt2 hp
      go_wp2
      exact ⟨⟨k + 1, by omega, by go_num, rfl⟩, by simp [intOf]; omega⟩
    · obtain rfl : k = 8 := by omega
      go_wp2_with fail
      go_quiet (fail)
      go_wp2
      all_goals go_ret3
      · exact ⟨_, rfl, (sl_end HL.out (by omega) _ (Nat.zero_le _)), (Up.refl _).drewN _⟩
      · exact ⟨_, rfl, sl_drop HL.out hc HM.out H0.out 8, (Up.refl _).drewN _⟩

end Go.Proofs.Ytlhaohioolagoaa
