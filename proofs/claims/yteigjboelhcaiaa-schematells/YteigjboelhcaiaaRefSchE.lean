/-
  What the document's own Def (package rialtoref5) answers of every shape and definition, as its text runs.
-/
import Derived.Test.YteigjboelhcaiaaRefSchD
import Derived.Test.YteigjboelhcaiaaRefSchK
import Derived.Test.YteigjboelhcaiaaRefSchP
import Derived.Test.YteigjboelhcaiaaRefSchS
namespace Go.Proofs.Yteigjboelhcaiaa
open Go.ChangeShapes Go.WideShapes Go.ChangeAt Go.RowKit
attribute [local go_sem ↓] Go.wp_at_zero Go.wp_at_succ

theorem rdef_calls (a : Option Addr) (n c : Nat) (l : List FT) (s : ByteArray) (k : Int) (a1 : Option Addr) (n1 c1 : Nat) (P : List PT) (m : Int) (a2 : Option Addr) (n2 c2 : Nat) (E : List Bool) (a3 : Option Addr) (n3 c3 : Nat) (C : List Bool) (w : World)
    (hn : n ≤ maxLen) (hs : s.size ≤ maxLen) (hv : Flds w a n l) (hP : Prts w a1 n1 P) (hE : Blns w a2 n2 E) (hC : Blns w a3 n3 C) :
    Calls Try.prog 19 #[.slice a n c, .agg #[.string s, .int .i64 k, .slice a1 n1 c1, .int .i64 m], .slice a2 n2 c2, .slice a3 n3 c3] w fun e w' => e = .returned (.int .i64 (defN l s k P m E C)) ∧ Up w w' := by
  cases hb : isF l with
  | false => exact rdef_schema a n c l s k a1 n1 c1 P m a2 n2 c2 E a3 n3 c3 C w hn hv hP hE hC hb
  | true =>
    cases g1 : nameB s with
    | false => exact rdef_name a n c l s k a1 n1 c1 P m a2 n2 c2 E a3 n3 c3 C w hn hs hv hP hE hC hb g1
    | true =>
      by_cases h0 : k < 1 ∨ 7 < k ∨ 3 < n1
      · refine rdef_kind a n c l s k a1 n1 c1 P m a2 n2 c2 E a3 n3 c3 C w hn hs hv hP hE hC hb g1 (defN_many hb ?_) _ _ _ rfl rfl rfl ?_
        · rw [hP.1]; unfold ManyOk; omega
        · simp only [Bool.or_eq_true, decide_eq_true_eq]; omega
      have q1 : decide (k < 1) = false := decide_eq_false (by omega)
      have q2 : decide (7 < k) = false := decide_eq_false (by omega)
      have q3 : decide ((3 : Int) < n1) = false := decide_eq_false (by omega)
      by_cases hm : ManyOk k n1
      · by_cases h5 : k = 5
        · exact rdef_seq a n c l s k a1 n1 c1 P m a2 n2 c2 E a3 n3 c3 C w hn hs hv hP hE hC hb g1 q1 q2 q3 (by rw [beq_iff_eq]; exact h5) (by rw [beq_eq_false_iff_ne]; omega) (by rw [beq_iff_eq]; unfold ManyOk at hm; omega) (by omega) hm
        by_cases h6 : k = 6
        · exact rdef_pos a n c l s k a1 n1 c1 P m a2 n2 c2 E a3 n3 c3 C w hn hs hv hP hE hC hb g1 q1 q2 q3 (by rw [beq_eq_false_iff_ne]; exact h5) (by rw [beq_iff_eq]; exact h6) (by rw [beq_eq_false_iff_ne]; omega) (by rw [beq_iff_eq]; unfold ManyOk at hm; omega) (by omega) hm
        by_cases h7 : k = 7
        · exact rdef_prefix a n c l s k a1 n1 c1 P m a2 n2 c2 E a3 n3 c3 C w hn hs hv hP hE hC hb g1 q1 q2 q3 (by rw [beq_eq_false_iff_ne]; exact h5) (by rw [beq_eq_false_iff_ne]; exact h6) (by rw [beq_iff_eq]; exact h7) (by rw [beq_eq_false_iff_ne]; unfold ManyOk at hm; omega) (by rw [bne_eq_false_iff_eq]; unfold ManyOk at hm; omega) (hide h7) hm
        · exact rdef_keys a n c l s k a1 n1 c1 P m a2 n2 c2 E a3 n3 c3 C w hn hs hv hP hE hC hb g1 q1 q2 q3 (by rw [beq_eq_false_iff_ne]; exact h5) (by rw [beq_eq_false_iff_ne]; exact h6) (by rw [beq_eq_false_iff_ne]; exact h7) (by rw [beq_eq_false_iff_ne]; unfold ManyOk at hm; omega) h7 hm
      · refine rdef_many a n c l s k a1 n1 c1 P m a2 n2 c2 E a3 n3 c3 C w hn hs hv hP hE hC hb g1 (defN_many hb (by rw [hP.1]; exact hm)) _ _ _ _ _ q1 q2 q3 rfl rfl rfl rfl rfl ?_
        unfold ManyOk at hm
        by_cases h5 : k = 5 ∨ k = 6
        · have z0 : ((n1 : Int) == 0) = false := by rw [beq_eq_false_iff_ne]; omega
          rw [z0]
          rcases h5 with rfl | rfl <;> rfl
        · have z5 : (k == 5) = false := by rw [beq_eq_false_iff_ne]; omega
          have z6 : (k == 6) = false := by rw [beq_eq_false_iff_ne]; omega
          rw [z5, z6]
          by_cases h0 : n1 = 0
          · subst h0; rfl
          · have z7 : (k == 7) = true := by rw [beq_iff_eq]; omega
            have z9 : ((n1 : Int) != 1) = true := by rw [bne_iff_ne]; omega
            rw [z7, z9, Bool.and_self, Bool.or_true]

end Go.Proofs.Yteigjboelhcaiaa
