/-
  What the landed package schema answers of kinds of indexes, comparators, parts (mayHave, mayCompare, isPart, mayBeStr), as its text runs.
-/
import Derived.Test.YteigjboelhcaiaaSchLand
namespace Go.Proofs.Yteigjboelhcaiaa
open Go.ChangeShapes Go.WideShapes Go.ChangeAt Go.RowKit
attribute [local go_sem ↓] Go.wp_at_zero Go.wp_at_succ

/-- A function is there. -/
def fnB : Value → Bool
  | .func _ _ _ => true
  | _ => false
def FitsFn (v : Value) : Prop := v = .nilFunc ∨ ∃ f x y, v = .func f x y
/-- A row of functions. -/
abbrev Fns := Slc 1 (fun v => [v]) Value.nilFunc FitsFn
theorem Slc.fn {w : World} {a : Option Addr} {n : Nat} {l : List Value} (h : Fns w a n l) {i : Nat} (hi : i < n) :
    ∃ b off, a = some ⟨b, off, none⟩ ∧ w.cell? ⟨b, off + i, none⟩ = some (l.getD i .nilFunc) := by
  rcases h.2.2 with h0 | ⟨b, off, ha, hx⟩
  · omega
  · exact ⟨b, off, ha, by simpa using hx i hi 0 _ rfl⟩

theorem fnB_map (l : List Value) (i : Nat) : (l.map fnB).getD i false = fnB (l.getD i .nilFunc) := by
  simp only [List.getD_eq_getElem?_getD, List.getElem?_map]
  cases l[i]? <;> rfl

theorem have_calls (k : Int) (n : Nat) (w : World) :
    Calls Try.prog 28 #[.int .i64 k, .int .i64 n] w fun e w' => e = .returned (.bool (manyB k n)) ∧ w' = w := by
  go_enter Try.func28, Try.ntmps28
  go_wp2
  all_goals (go_ret; refine ⟨ret_bool ?_, rfl⟩; rw [Bool.eq_iff_iff, manyB_iff]; unfold ManyOk; simp only [beq_iff_eq, beq_eq_false_iff_ne, decide_eq_true_eq, Bool.false_eq_true, iff_false] at *; omega)

theorem str_calls (a : Option Addr) (n c : Nat) (l : List FT) (p q : Int) (w : World) (hv : Flds w a n l) (hp : p = -1 ∨ 0 ≤ p ∧ p < n) :
    Calls Try.prog 31 #[.slice a n c, .agg #[.int .i64 p, .int .i64 q]] w fun e w' => e = .returned (.bool (strB l p)) ∧ Up w w' := by
  by_cases h1 : p = -1
  · subst h1
    have e : strB l (-1) = true := strB_iff.2 (.inl rfl)
    go_enter Try.func31, Try.ntmps31
    go_wp2
    go_ret
    exact ⟨ret_bool e, (Up.refl _).alloc _⟩
  · obtain ⟨k, rfl⟩ : ∃ k : Nat, p = k := ⟨p.toNat, by omega⟩
    have hk : k < n := by omega
    obtain ⟨b, off, rfl, _, l1⟩ := hv.fld hk
    obtain ⟨y, hy⟩ : ∃ y, y = (l.getD k zeroF).2 := ⟨_, rfl⟩
    rw [← hy] at l1
    have e : strB l k = (y == 3) := by
      rw [Bool.eq_iff_iff, strB_iff, beq_iff_eq, hy]
      simp [h1]
    replace hy := hide hy
    replace e := hide e
    have t1 : ((k : Int) == -1) = false := by rw [beq_eq_false_iff_ne]; exact h1
    replace hv := hide hv
    clear hp
    go_enter Try.func31, Try.ntmps31
    have l1' := ((Up.refl w).alloc (.cells #[.int .i64 k, .int .i64 q] 52)).cell l1
    clear l1
    go_wp2
    go_ret
    exact ⟨ret_bool e.out, (Up.refl _).alloc _⟩

/-- A function held against nil. -/
theorem run_equalIn_nil {P : Program} {t : TypeId} {ps rs : Array TypeId} {vd : Bool} (h : P.underlying t = some (.func ps rs vd)) (w : World) (d : Nat) : (Op.equalIn (d + 1) t .nilFunc .nilFunc).run P w = .ok true w := by
  simp [Op.equalIn, run_underlying h]
theorem run_equalIn_fn {P : Program} {t : TypeId} {ps rs : Array TypeId} {vd : Bool} (h : P.underlying t = some (.func ps rs vd)) (w : World) (d : Nat) (f : Fn) (x y : Array Value) : (Op.equalIn (d + 1) t (.func f x y) .nilFunc).run P w = .ok false w := by
  simp [Op.equalIn, run_underlying h]
theorem run_neq_nil {P : Program} {t : TypeId} {ps rs : Array TypeId} {vd : Bool} (h : P.underlying t = some (.func ps rs vd)) (w : World) : (binOp .neq t .nilFunc .nilFunc).run P w = .ok (.bool false) w := by
  have e := run_equalIn_nil h w 9999
  simp only [binOp, Op.equal, Op.maxDepth, Sem.run_bind]
  rw [e]
  rfl
theorem run_neq_fn {P : Program} {t : TypeId} {ps rs : Array TypeId} {vd : Bool} (h : P.underlying t = some (.func ps rs vd)) (w : World) (f : Fn) (x y : Array Value) : (binOp .neq t (.func f x y) .nilFunc).run P w = .ok (.bool true) w := by
  have e := run_equalIn_fn h w 9999 f x y
  simp only [binOp, Op.equal, Op.maxDepth, Sem.run_bind]
  rw [e]
  rfl

theorem numB_iff {n c : Int} : numB n c = true ↔ 0 ≤ n ∧ n < c := by
  unfold numB
  simp only [Bool.and_eq_true, decide_eq_true_eq]

set_option maxRecDepth 20000 in
set_option maxHeartbeats 1000000 in
theorem part_calls (a : Option Addr) (n c : Nat) (l : List FT) (p q : Int) (a' : Option Addr) (n' c' : Nat) (E : List Value) (w : World) (hv : Flds w a n l) (hE : Fns w a' n' E) :
    Calls Try.prog 30 #[.slice a n c, .agg #[.int .i64 p, .int .i64 q], .slice a' n' c'] w fun e w' => e = .returned (.bool (partB l 0 (E.map fnB) (p, q))) ∧ Up w w' := by
  by_cases h1 : p = -1
  · subst h1
    cases h2 : numB q n' with
    | false =>
      have e : partB l 0 (E.map fnB) (-1, q) = false := by
        rw [Bool.eq_false_iff]
        intro h
        rcases partB_iff.1 h with ⟨_, h3, h4, _⟩ | ⟨h3, _⟩
        · rw [List.length_map, hE.1] at h4
          exact Bool.false_ne_true (h2.symm.trans (numB_iff.2 ⟨h3, h4⟩))
        · exact absurd h3 (show ¬ (0 : Int) ≤ -1 by decide)
      replace e := hide e
      replace hv := hide hv
      replace hE := hide hE
      go_enter Try.func30, Try.ntmps30
      go_wp2_with (go_at_call 38; refine (number_calls _ _ _).mono ?_; rintro _ _ ⟨rfl, rfl⟩)
      go_ret
      exact ⟨ret_bool e.out, (Up.refl _).alloc _⟩
    | true =>
      obtain ⟨h3, h4⟩ := numB_iff.1 h2
      obtain ⟨k, rfl⟩ : ∃ k : Nat, q = k := ⟨q.toNat, by omega⟩
      have hk : k < n' := by omega
      have hfit := hE.2.1 k
      obtain ⟨b, off, rfl, l0⟩ := hE.fn hk
      obtain ⟨y, hy⟩ : ∃ y, y = E.getD k .nilFunc := ⟨_, rfl⟩
      rw [← hy] at l0 hfit
      have e : partB l 0 (E.map fnB) (-1, (k : Int)) = fnB y := by
        rw [Bool.eq_iff_iff, partB_iff, hy, ← fnB_map]
        unfold PartOk
        rw [List.length_map, hE.1, Int.toNat_natCast]
        constructor
        · rintro (h | h)
          · exact h.2.2.2
          · exact absurd h.1 (show ¬ (0 : Int) ≤ -1 by decide)
        · exact fun h => .inl ⟨rfl, by omega, by omega, h⟩
      have l0' := ((Up.refl w).alloc (.cells #[.int .i64 (-1), .int .i64 k] 52)).cell l0
      clear l0 hy h3 h4
      replace e := hide e
      replace hv := hide hv
      replace hE := hide hE
      have n0 := run_neq_nil Try.underlying66
      have n1 := run_neq_fn Try.underlying66
      rcases hfit with rfl | ⟨f, x, z, rfl⟩
      · go_enter Try.func30, Try.ntmps30
        go_wp2_with (go_at_call 38; refine (number_calls _ _ _).mono ?_; rintro _ _ ⟨rfl, rfl⟩)
        go_ret
        exact ⟨ret_bool e.out, (Up.refl _).alloc _⟩
      · go_enter Try.func30, Try.ntmps30
        go_wp2_with (go_at_call 38; refine (number_calls _ _ _).mono ?_; rintro _ _ ⟨rfl, rfl⟩)
        go_ret
        exact ⟨ret_bool e.out, (Up.refl _).alloc _⟩
  · have t1 : (p == -1) = false := by rw [beq_eq_false_iff_ne]; exact h1
    have e : partB l 0 (E.map fnB) (p, q) = (numB p n && (q == 0)) := by
      rw [Bool.eq_iff_iff, partB_iff, Bool.and_eq_true, numB_iff, beq_iff_eq]
      unfold PartOk
      rw [hv.1]
      constructor
      · rintro (h | h)
        · exact absurd h.1 h1
        · exact ⟨⟨h.1, h.2.1⟩, h.2.2.1⟩
      · exact fun h => .inr ⟨h.1.1, h.1.2, h.2, fun h => absurd h (by decide)⟩
    replace hv := hide hv
    replace hE := hide hE
    cases h2 : numB p n with
    | false =>
      rw [h2] at e
      replace e := hide e
      go_enter Try.func30, Try.ntmps30
      go_wp2_with (go_at_call 38; refine (number_calls _ _ _).mono ?_; rintro _ _ ⟨rfl, rfl⟩)
      go_ret
      exact ⟨ret_bool e.out, (Up.refl _).alloc _⟩
    | true =>
      rw [h2] at e
      replace e := hide e
      go_enter Try.func30, Try.ntmps30
      go_wp2_with (go_at_call 38; refine (number_calls _ _ _).mono ?_; rintro _ _ ⟨rfl, rfl⟩)
      all_goals go_ret
      all_goals exact ⟨ret_bool (e.out.trans (by simp_all)), (Up.refl _).alloc _⟩

theorem cmp_at (s : ByteArray) (k : Int) (a : Option Addr) (n c : Nat) (m : Int) (b off n' c' : Nat) (y : Value) (B : Bool) (w : World) (t1 : (m == -1) = false) (h2 : numB m n' = true) (hfit : FitsFn y) (e : B = fnB y)
    (hk : k = 3 ∨ k = 4) (l0 : w.cell? ⟨b, off + m.toNat, none⟩ = some y) :
    Calls Try.prog 29 #[.agg #[.string s, .int .i64 k, .slice a n c, .int .i64 m], .slice (some ⟨b, off, none⟩) n' c'] w fun e w' => e = .returned (.bool B) ∧ Up w w' := by
  obtain ⟨h3, h4⟩ := numB_iff.1 h2
  obtain ⟨j, rfl⟩ : ∃ j : Nat, m = j := ⟨m.toNat, by omega⟩
  rw [Int.toNat_natCast] at l0
  have hj : j < n' := by omega
  clear h3 h4
  replace e := hide e
  have n0 := run_neq_nil Try.underlying68
  have n1 := run_neq_fn Try.underlying68
  have l0' := ((Up.refl w).alloc (.cells #[.string s, .int .i64 k, .slice a n c, .int .i64 j] 26)).cell l0
  clear l0
  rcases hfit with rfl | ⟨f, x, z, rfl⟩
  · rcases hk with rfl | rfl
    · go_enter Try.func29, Try.ntmps29
      go_wp2_with (go_at_call 38; refine (number_calls _ _ _).mono ?_; rintro _ _ ⟨rfl, rfl⟩)
      all_goals go_ret
      all_goals exact ⟨ret_bool e.out, (Up.refl _).alloc _⟩
    · go_enter Try.func29, Try.ntmps29
      go_wp2_with (go_at_call 38; refine (number_calls _ _ _).mono ?_; rintro _ _ ⟨rfl, rfl⟩)
      all_goals go_ret
      all_goals exact ⟨ret_bool e.out, (Up.refl _).alloc _⟩
  · rcases hk with rfl | rfl
    · go_enter Try.func29, Try.ntmps29
      go_wp2_with (go_at_call 38; refine (number_calls _ _ _).mono ?_; rintro _ _ ⟨rfl, rfl⟩)
      all_goals go_ret
      all_goals exact ⟨ret_bool e.out, (Up.refl _).alloc _⟩
    · go_enter Try.func29, Try.ntmps29
      go_wp2_with (go_at_call 38; refine (number_calls _ _ _).mono ?_; rintro _ _ ⟨rfl, rfl⟩)
      all_goals go_ret
      all_goals exact ⟨ret_bool e.out, (Up.refl _).alloc _⟩

theorem cmp_calls (s : ByteArray) (k : Int) (a : Option Addr) (n c : Nat) (m : Int) (a' : Option Addr) (n' c' : Nat) (C : List Value) (w : World) (hC : Fns w a' n' C) :
    Calls Try.prog 29 #[.agg #[.string s, .int .i64 k, .slice a n c, .int .i64 m], .slice a' n' c'] w fun e w' => e = .returned (.bool (cmpOkB k m (C.map fnB))) ∧ Up w w' := by
  by_cases h1 : m = -1
  · subst h1
    have e := hide (cmpOkB_iff.2 (.inl rfl) : cmpOkB k (-1) (C.map fnB) = true)
    clear hC
    go_enter Try.func29, Try.ntmps29
    go_wp2_with (go_at_call 38; refine (number_calls _ _ _).mono ?_; rintro _ _ ⟨rfl, rfl⟩)
    all_goals go_ret
    all_goals exact ⟨ret_bool e.out, (Up.refl _).alloc _⟩
  · have t1 : (m == -1) = false := by rw [beq_eq_false_iff_ne]; exact h1
    by_cases hk : k = 3 ∨ k = 4
    · cases h2 : numB m n' with
      | false =>
        have e : cmpOkB k m (C.map fnB) = false := by
          rw [Bool.eq_false_iff]
          intro h
          rcases cmpOkB_iff.1 h with h3 | ⟨_, h3, h4, _⟩
          · exact h1 h3
          · rw [List.length_map, hC.1] at h4
            exact Bool.false_ne_true (h2.symm.trans (numB_iff.2 ⟨h3, h4⟩))
        replace e := hide e
        clear hC h1
        rcases hk with rfl | rfl
        · go_enter Try.func29, Try.ntmps29
          go_wp2_with (go_at_call 38; refine (number_calls _ _ _).mono ?_; rintro _ _ ⟨rfl, rfl⟩)
          all_goals go_ret
          all_goals exact ⟨ret_bool e.out, (Up.refl _).alloc _⟩
        · go_enter Try.func29, Try.ntmps29
          go_wp2_with (go_at_call 38; refine (number_calls _ _ _).mono ?_; rintro _ _ ⟨rfl, rfl⟩)
          all_goals go_ret
          all_goals exact ⟨ret_bool e.out, (Up.refl _).alloc _⟩
      | true =>
        obtain ⟨h3, h4⟩ := numB_iff.1 h2
        obtain ⟨b, off, rfl, l0⟩ := hC.fn (i := m.toNat) (by omega)
        refine cmp_at s k a n c m b off n' c' _ _ w t1 h2 (hC.2.1 m.toNat) ?_ hk l0
        rw [Bool.eq_iff_iff, cmpOkB_iff, ← fnB_map]
        unfold CmpOk
        rw [List.length_map, hC.1]
        constructor
        · rintro (h | h)
          · exact absurd h h1
          · exact h.2.2.2
        · exact fun h => .inr ⟨hk, h3, h4, h⟩
    · have e : cmpOkB k m (C.map fnB) = false := by
        rw [Bool.eq_false_iff]
        intro h
        rcases cmpOkB_iff.1 h with h3 | ⟨h3, _⟩
        · exact h1 h3
        · exact hk h3
      replace e := hide e
      have t2 : (k == 3) = false := by rw [beq_eq_false_iff_ne]; exact fun h => hk (.inl h)
      have t3 : (k == 4) = false := by rw [beq_eq_false_iff_ne]; exact fun h => hk (.inr h)
      clear hC h1 hk
      go_enter Try.func29, Try.ntmps29
      go_wp2_with (go_at_call 38; refine (number_calls _ _ _).mono ?_; rintro _ _ ⟨rfl, rfl⟩)
      all_goals go_ret
      all_goals exact ⟨ret_bool e.out, (Up.refl _).alloc _⟩

end Go.Proofs.Yteigjboelhcaiaa
