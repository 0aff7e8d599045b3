/-
  HeapSorts, walked; append of a whole row to a row that a call owns.
-/
import Derived.Test.YtcemdiloiachlaaHeapSrt
import Derived.Test.YtcemdiloiachlaaHeapKnw
import Derived.Laws.AppendOwnNone
namespace Go.Proofs.Ytcemdiloiachlaa
open Go.ChangeShapes Go.WideShapes Go.ChangeAt Go.RowKit
set_option linter.unusedVariables false

theorem append_rowI {w : World} {ops : Array Oper} {rest : List Oper} {o : Oper} {a : Act} {Q : Exit → Act → World → Prop} (hgd : o.guard = none) (s x : Operand)
    (ho : o.op = .call { callee := .builtin .append, args := #[s, x], argTypes := #[24, 24] }) (base : Nat) (v : Value) (l : List ETI) (hs : a.eval s = v) (hown : OwnEI w base v l)
    (base' : Nat) (vx : Value) (m : List ETI) (hx : a.eval x = vx) (hsrc : OwnEI w base' vx m) (hlen : l.length + m.length ≤ 1000000) (hbase : base ≤ w.heap.size)
    (h : ∀ v' w', OwnEI w' base v' (l ++ m) → w.grownBy w' v.ownBlock → wpList Try.prog ops Q rest (a.put o.dst v') w') : wpList Try.prog ops Q (o :: rest) a w := by
  obtain ⟨i0, hi, hz0, hz1, hz2⟩ := info_parts info_eI
  have hsrc0 := hsrc
  rcases hsrc.2 with ⟨rfl, hn⟩ | ⟨g, cap, cur, rfl, hb, hg, h1, h2, h3, h4⟩
  · have hm : m = [] := List.length_eq_zero_iff.1 hn
    subst hm
    refine wpList_append_own_none hgd s x _ ho base 30 i0 2 Try.underlying24 hi v l.length (l.flatMap eCellsI) hs hown hx (h v w ?_ ⟨rfl, rfl, rfl, Nat.le_refl _, fun _ _ _ => rfl⟩)
    rw [List.append_nil]
    exact hown
  · refine wpList_append_own w hgd s x _ ho base 30 i0 (.agg #[.int .i64 0, .int .i64 0]) 2 16 Try.underlying24 hi hz0 hz1 hz2 rfl (by decide) v l.length (l.flatMap eCellsI) hs hown ⟨g, 0, none⟩ m.length cap (m.flatMap eCellsI) hx (flatG_length (k := 2) (fun _ => rfl) m) ?_ ?_ (by unfold maxLen; omega) (by omega) hbase fun v' w' h5 h6 _ => h v' w' ?_ h6
    · exact World.ownsRow.cells hsrc0 rfl
    · intro u hu
      obtain ⟨y, _, hy⟩ := List.mem_flatMap.1 hu
      exact eI_one y u hy
    · unfold OwnEI OwnG
      rw [List.length_append, List.flatMap_append]
      exact h5
theorem OwnG.inI {w : World} {base : Nat} {v : Value} {l : List ETI} (h : OwnEI w base v l) : ∃ a c, v = .slice a l.length c ∧ InEI w a l.length c l := by
  obtain ⟨a, c, h1, h2, _⟩ := OwnG.inG (z := eZeroI) h (fun _ => rfl)
  exact ⟨a, c, h1, h2⟩

set_option maxRecDepth 20000 in
set_option maxHeartbeats 16000000 in
theorem heapSorts_all (a : Option Addr) (len c : Nat) (l : List Int) (n : Int) (w : World) (h : In8 w a len c l) (hr : ∀ i, -128 ≤ l.getD i 0 ∧ l.getD i 0 ≤ 127) :
    Calls Try.prog 3 #[.slice a len c, .int .i64 n] w fun e w' => e = .returned (.bool true) ∧ Up w w' := by
  have H := hide h
  have HR := hide hr
  have hl := h.1
  clear h hr
  go_enter Try.func3, Try.ntmps3
  go_wp2_with fail
  go_at_call 8
  refine (known_calls w).mono ?_
  rintro _ w1 ⟨rfl, hu1⟩
  have U := hide hu1
  clear hu1
  by_cases hbig : 150 < len
  · have t1 : decide ((len : Int) > 150) = true := decide_eq_true (by omega)
    go_wp2
    go_ret
    exact ⟨rfl, U.out⟩
  have t1 : decide ((len : Int) > 150) = false := decide_eq_false (by omega)
  go_wp2_with fail
  go_at_call 9
  refine (items_calls a len c l w1 (by omega) (H.out.up U.out) HR.out).mono ?_
  rintro _ w2 ⟨v5, rfl, ho5, hu2⟩
  obtain ⟨X, hX⟩ : ∃ X, X = itemsL l := ⟨_, rfl⟩
  have hXl : X.length = len := by rw [hX, itemsL_length, hl]
  rw [← hX] at ho5
  have O5 := hide ho5
  replace U : Hid (Up w w2) := U.out.trans hu2
  clear ho5 hu2 hX H HR
  go_wp2_with (at_builtin; refine append_rowI rfl _ _ rfl w2.heap.size _ [] rfl (OwnG.nil _ _ _ _ _) _ _ X rfl O5.out (by simp; omega) (Nat.le_refl _) ?_)
  intro v6 w3 ho6 hg3
  try rw [List.nil_append] at ho6
  have hu3 : Up w2 w3 := Below.grown (Below.refl _ _) hg3 (Nat.le_refl _) (fun g hg => by cases hg)
  replace U : Hid (Up w w3) := U.out.trans hu3
  replace O5 := hide (O5.out.up hu3)
  have O6 := hide ho6
  clear ho6 hg3 hu3
  obtain ⟨ax, cx, rfl, ix⟩ := OwnG.inI O5.out
  obtain ⟨aw, cw, rfl, iw⟩ := OwnG.inI O6.out
  have IX := hide ix
  have IW := hide iw
  rw [hXl] at IX IW ⊢
  clear ix iw O5 O6
  go_wp2_with fail
  go_at_call 10
  refine (sorted_calls ax len cx X w3 (by omega) IX.out).mono ?_
  rintro _ w4 ⟨v7, rfl, ho7, hu4⟩
  obtain ⟨Y, hY⟩ : ∃ Y, Y = isort rkI X := ⟨_, rfl⟩
  have hYl : Y.length = len := by rw [hY, isort_length, hXl]
  rw [← hY] at ho7
  replace U : Hid (Up w w4) := U.out.trans hu4
  replace IX := hide (IX.out.up hu4)
  replace IW := hide (IW.out.up hu4)
  clear hu4
  have O7 := hide ho7
  obtain ⟨a7, c7, hv7, i7⟩ := OwnG.inI ho7
  rw [hYl] at hv7 i7
  clear ho7
  have I7 := hide i7
  clear i7
  rw [hv7]
  go_wp2_with fail
  go_at_call 12
  refine (sortI_calls _ rkI before_less ax len cx X w4 (by omega) IX.out).mono ?_
  rintro _ w5 ⟨v20, rfl, ho20, hu5⟩
  rw [← hY] at ho20
  obtain ⟨a20, c20, rfl, i20⟩ := OwnG.inI ho20
  have I20 := hide i20
  rw [hYl] at I20 ⊢
  clear ho20 i20
  replace U : Hid (Up w w5) := U.out.trans hu5
  replace IX := hide (IX.out.up hu5)
  replace IW := hide (IW.out.up hu5)
  replace I7 := hide (I7.out.up hu5)
  replace O7 := hide (O7.out.up hu5)
  clear hu5
  go_wp2_with fail
  go_at_call 11
  refine (same_calls a20 a7 len c20 len c7 Y Y w5 (by omega) I20.out I7.out).mono ?_
  rintro _ w6 ⟨rfl, hu6⟩
  rw [decide_eq_true rfl]
  replace U : Hid (Up w w6) := U.out.trans hu6
  replace IX := hide (IX.out.up hu6)
  replace IW := hide (IW.out.up hu6)
  replace I7 := hide (I7.out.up hu6)
  replace O7 := hide (O7.out.up hu6)
  clear hu6 I20
  go_wp2_with fail
  go_at_call 11
  refine (same_calls ax aw len cx len cw X X w6 (by omega) IX.out IW.out).mono ?_
  rintro _ w7 ⟨rfl, hu7⟩
  rw [decide_eq_true rfl]
  replace U : Hid (Up w w7) := U.out.trans hu7
  replace IX := hide (IX.out.up hu7)
  replace IW := hide (IW.out.up hu7)
  replace I7 := hide (I7.out.up hu7)
  replace O7 := hide (O7.out.up hu7)
  clear hu7
  go_wp2_with fail
  have hc7 := I7.out.2.1
  have hm7 := I7.out.2.2.1
  have hf : (a7 = none ∧ len = 0 ∧ c7 = 0) ∨ ∃ g, a7 = some ⟨g, 0, none⟩ := by
    rcases O7.out.2 with ⟨e7, hn⟩ | ⟨g, c9, cur, e7, _⟩
    · rw [hv7] at e7
      exact .inl ⟨by injection e7, by omega, by injection e7⟩
    · rw [hv7] at e7
      exact .inr ⟨g, by injection e7⟩
  clear hv7
  rcases hf with ⟨rfl, hlz, rfl⟩ | ⟨g, rfl⟩
  · subst hlz
    rcases (show n ≤ 0 ∨ 0 < n by omega) with q | q
    · have q1 : ¬ (0 : Int) < n := by omega
      have b1 : (0 : Int) ≤ (0 : Int) := by omega
      have b2 : (0 : Int) ≤ (0 : Int) := by omega
      have b3 : (0 : Int) ≤ (0 : Int) := by omega
      have b4 : ((0 : Nat) : Int) ≤ (0 : Int) := by omega
      have b5 : (0 : Int) ≤ ((0 : Nat) : Int) := by omega
      have hcl : clampN n 0 = 0 := by unfold clampN; rw [if_pos (by omega)]
      have HS1 : Hid (∀ y a32 c32, Up w7 y → InEI y a32 ((isort rkI X).take (clampN n 0)).length c32 ((isort rkI X).take (clampN n 0)) → Calls Try.prog 11 #[.slice a32 ((isort rkI X).take (clampN n 0)).length c32, .slice none 0 0] y fun e w' => e = .returned (.bool true) ∧ Up y w') := by
        intro y a32 c32 hy h32
        have h9 := same_calls a32 none _ c32 0 0 _ (Y.take (0)) y (by rw [List.length_take, isort_length]; omega) h32 (InG.take (I7.out.up hy) (by omega))
        rw [decide_eq_true (by rw [hY, hcl])] at h9
        exact h9
      have HS2 : Hid (∀ y, Up w7 y → Calls Try.prog 11 #[.slice ax 0 cx, .slice aw 0 cw] y fun e w' => e = .returned (.bool true) ∧ Up y w') := by
        intro y hy
        have h9 := same_calls ax aw 0 cx 0 cw X X y (by omega) (IX.out.up hy) (IW.out.up hy)
        rw [decide_eq_true rfl] at h9
        exact h9
      have HL1 : Hid (∀ y, Up w7 y → Calls Try.prog 14 #[.slice ax 0 cx, .int .i64 n, .func (.func 13) #[] #[]] y fun e w' => ∃ a32 c32, e = .returned (.slice a32 ((isort rkI X).take (clampN n 0)).length c32) ∧ InEI w' a32 ((isort rkI X).take (clampN n 0)).length c32 ((isort rkI X).take (clampN n 0)) ∧ Up y w') := by
        intro y hy
        refine (leastI_calls _ rkI before_less ax 0 cx n X y (by omega) (IX.out.up hy)).mono ?_
        rintro _ w' ⟨v, rfl, ho, hu⟩
        obtain ⟨a32, c32, rfl, i32⟩ := OwnG.inI ho
        exact ⟨a32, c32, rfl, i32, hu⟩
      clear IX IW I7 O7 hY hcl
      generalize (isort rkI X).take (clampN n 0) = Z at HS1 HL1
      have hk0 : Up w7 w7.drew := (Up.refl _).drew
      have tok1 : True := trivial
      have tok2 : True := trivial
      have tok3 : True := trivial
      go_region_law
        (first
          | (go_simp; clear tok1; go_at_call 14; refine (HL1.out _ ?_).mono ?_; assumption; rintro _ y ⟨a32, c32, rfl, i32, hy⟩; have hk5 : Up w7 y := Up.trans (by assumption) hy; replace i32 := hide i32; clear hy; dsimp only)
          | (go_simp; clear tok2; go_at_call 11; refine (HS1.out _ a32 c32 ?_ i32.out).mono ?_; assumption; rintro _ y2 ⟨rfl, hy2⟩; have hk6 : Up w7 y2 := Up.trans (by assumption) hy2; clear hy2; dsimp only)
          | (go_simp; clear tok3; go_at_call 11; refine (HS2.out _ ?_).mono ?_; assumption; rintro _ y3 ⟨rfl, hy3⟩; have hk7 : Up w7 y3 := Up.trans (by assumption) hy3; clear hy3; dsimp only))
      all_goals
        have V := hide hk7
        clear hk7 hk6 hk5 hk0 HS1 HS2 HL1 i32
        go_wp2
        go_ret
        exact ⟨rfl, U.out.trans V.out⟩
    · skip
      have b1 : (0 : Int) ≤ (0 : Int) := by omega
      have b2 : (0 : Int) ≤ (0 : Int) := by omega
      have b3 : (0 : Int) ≤ (0 : Int) := by omega
      have b4 : ((0 : Nat) : Int) ≤ (0 : Int) := by omega
      have b5 : (0 : Int) ≤ ((0 : Nat) : Int) := by omega
      have hcl : clampN n 0 = 0 := by unfold clampN; rw [if_neg (by omega), if_neg (by omega)]
      have HS1 : Hid (∀ y a32 c32, Up w7 y → InEI y a32 ((isort rkI X).take (clampN n 0)).length c32 ((isort rkI X).take (clampN n 0)) → Calls Try.prog 11 #[.slice a32 ((isort rkI X).take (clampN n 0)).length c32, .slice none 0 0] y fun e w' => e = .returned (.bool true) ∧ Up y w') := by
        intro y a32 c32 hy h32
        have h9 := same_calls a32 none _ c32 0 0 _ (Y.take (0)) y (by rw [List.length_take, isort_length]; omega) h32 (InG.take (I7.out.up hy) (by omega))
        rw [decide_eq_true (by rw [hY, hcl])] at h9
        exact h9
      have HS2 : Hid (∀ y, Up w7 y → Calls Try.prog 11 #[.slice ax 0 cx, .slice aw 0 cw] y fun e w' => e = .returned (.bool true) ∧ Up y w') := by
        intro y hy
        have h9 := same_calls ax aw 0 cx 0 cw X X y (by omega) (IX.out.up hy) (IW.out.up hy)
        rw [decide_eq_true rfl] at h9
        exact h9
      have HL1 : Hid (∀ y, Up w7 y → Calls Try.prog 14 #[.slice ax 0 cx, .int .i64 n, .func (.func 13) #[] #[]] y fun e w' => ∃ a32 c32, e = .returned (.slice a32 ((isort rkI X).take (clampN n 0)).length c32) ∧ InEI w' a32 ((isort rkI X).take (clampN n 0)).length c32 ((isort rkI X).take (clampN n 0)) ∧ Up y w') := by
        intro y hy
        refine (leastI_calls _ rkI before_less ax 0 cx n X y (by omega) (IX.out.up hy)).mono ?_
        rintro _ w' ⟨v, rfl, ho, hu⟩
        obtain ⟨a32, c32, rfl, i32⟩ := OwnG.inI ho
        exact ⟨a32, c32, rfl, i32, hu⟩
      clear IX IW I7 O7 hY hcl
      generalize (isort rkI X).take (clampN n 0) = Z at HS1 HL1
      have hk0 : Up w7 w7.drew := (Up.refl _).drew
      have tok1 : True := trivial
      have tok2 : True := trivial
      have tok3 : True := trivial
      go_region_law
        (first
          | (go_simp; clear tok1; go_at_call 14; refine (HL1.out _ ?_).mono ?_; assumption; rintro _ y ⟨a32, c32, rfl, i32, hy⟩; have hk5 : Up w7 y := Up.trans (by assumption) hy; replace i32 := hide i32; clear hy; dsimp only)
          | (go_simp; clear tok2; go_at_call 11; refine (HS1.out _ a32 c32 ?_ i32.out).mono ?_; assumption; rintro _ y2 ⟨rfl, hy2⟩; have hk6 : Up w7 y2 := Up.trans (by assumption) hy2; clear hy2; dsimp only)
          | (go_simp; clear tok3; go_at_call 11; refine (HS2.out _ ?_).mono ?_; assumption; rintro _ y3 ⟨rfl, hy3⟩; have hk7 : Up w7 y3 := Up.trans (by assumption) hy3; clear hy3; dsimp only))
      all_goals
        have V := hide hk7
        clear hk7 hk6 hk5 hk0 HS1 HS2 HL1 i32
        go_wp2
        go_ret
        exact ⟨rfl, U.out.trans V.out⟩
  · rcases (show n ≤ 0 ∨ (∃ k : Nat, n = k ∧ 0 < k ∧ k ≤ len) ∨ (len : Int) < n by
      by_cases h1 : n ≤ 0
      · exact .inl h1
      · by_cases h2 : n ≤ len
        · exact .inr (.inl ⟨n.toNat, by omega, by omega, by omega⟩)
        · exact .inr (.inr (by omega))) with q | ⟨k, rfl, q1, q2⟩ | q
    · have q1 : ¬ (len : Int) < n := by omega
      have q2 : ¬ 0 < n := by omega
      by_cases hc0 : c7 = 0
      · subst hc0
        have b1 : (0 : Int) ≤ (0 : Int) := by omega
        have b2 : (len : Int) ≤ (0 : Int) := by omega
        have b3 : (0 : Int) ≤ (len : Int) := by omega
        have b4 : ((0 : Nat) : Int) ≤ (0 : Int) := by omega
        have b5 : (0 : Int) ≤ ((0 : Nat) : Int) := by omega
        have hcl : clampN n len = 0 := by unfold clampN; rw [if_pos (by omega)]
        have HS1 : Hid (∀ y a32 c32, Up w7 y → InEI y a32 ((isort rkI X).take (clampN n len)).length c32 ((isort rkI X).take (clampN n len)) → Calls Try.prog 11 #[.slice a32 ((isort rkI X).take (clampN n len)).length c32, .slice (some ⟨g, 0, none⟩) 0 0] y fun e w' => e = .returned (.bool true) ∧ Up y w') := by
          intro y a32 c32 hy h32
          have h9 := same_calls a32 (some ⟨g, 0, none⟩) _ c32 0 0 _ (Y.take (0)) y (by rw [List.length_take, isort_length]; omega) h32 (InG.take (I7.out.up hy) (by omega))
          rw [decide_eq_true (by rw [hY, hcl])] at h9
          exact h9
        have HS2 : Hid (∀ y, Up w7 y → Calls Try.prog 11 #[.slice ax len cx, .slice aw len cw] y fun e w' => e = .returned (.bool true) ∧ Up y w') := by
          intro y hy
          have h9 := same_calls ax aw len cx len cw X X y (by omega) (IX.out.up hy) (IW.out.up hy)
          rw [decide_eq_true rfl] at h9
          exact h9
        have HL1 : Hid (∀ y, Up w7 y → Calls Try.prog 14 #[.slice ax len cx, .int .i64 n, .func (.func 13) #[] #[]] y fun e w' => ∃ a32 c32, e = .returned (.slice a32 ((isort rkI X).take (clampN n len)).length c32) ∧ InEI w' a32 ((isort rkI X).take (clampN n len)).length c32 ((isort rkI X).take (clampN n len)) ∧ Up y w') := by
          intro y hy
          refine (leastI_calls _ rkI before_less ax len cx n X y (by omega) (IX.out.up hy)).mono ?_
          rintro _ w' ⟨v, rfl, ho, hu⟩
          obtain ⟨a32, c32, rfl, i32⟩ := OwnG.inI ho
          exact ⟨a32, c32, rfl, i32, hu⟩
        clear IX IW I7 O7 hY hcl
        generalize (isort rkI X).take (clampN n len) = Z at HS1 HL1
        have hk0 : Up w7 w7.drew := (Up.refl _).drew
        have tok1 : True := trivial
        have tok2 : True := trivial
        have tok3 : True := trivial
        go_region_law
          (first
            | (go_simp; clear tok1; go_at_call 14; refine (HL1.out _ ?_).mono ?_; assumption; rintro _ y ⟨a32, c32, rfl, i32, hy⟩; have hk5 : Up w7 y := Up.trans (by assumption) hy; replace i32 := hide i32; clear hy; dsimp only)
            | (go_simp; clear tok2; go_at_call 11; refine (HS1.out _ a32 c32 ?_ i32.out).mono ?_; assumption; rintro _ y2 ⟨rfl, hy2⟩; have hk6 : Up w7 y2 := Up.trans (by assumption) hy2; clear hy2; dsimp only)
            | (go_simp; clear tok3; go_at_call 11; refine (HS2.out _ ?_).mono ?_; assumption; rintro _ y3 ⟨rfl, hy3⟩; have hk7 : Up w7 y3 := Up.trans (by assumption) hy3; clear hy3; dsimp only))
        all_goals
          have V := hide hk7
          clear hk7 hk6 hk5 hk0 HS1 HS2 HL1 i32
          go_wp2
          go_ret
          exact ⟨rfl, U.out.trans V.out⟩
      · skip
        have b1 : (0 : Int) ≤ (c7 : Int) := by omega
        have b2 : (len : Int) ≤ (c7 : Int) := by omega
        have b3 : (0 : Int) ≤ (len : Int) := by omega
        have b4 : ((0 : Nat) : Int) ≤ (c7 : Int) := by omega
        have b5 : (0 : Int) ≤ ((0 : Nat) : Int) := by omega
        have hcl : clampN n len = 0 := by unfold clampN; rw [if_pos (by omega)]
        have HS1 : Hid (∀ y a32 c32, Up w7 y → InEI y a32 ((isort rkI X).take (clampN n len)).length c32 ((isort rkI X).take (clampN n len)) → Calls Try.prog 11 #[.slice a32 ((isort rkI X).take (clampN n len)).length c32, .slice (some ⟨g, 0, none⟩) 0 c7] y fun e w' => e = .returned (.bool true) ∧ Up y w') := by
          intro y a32 c32 hy h32
          have h9 := same_calls a32 (some ⟨g, 0, none⟩) _ c32 0 c7 _ (Y.take (0)) y (by rw [List.length_take, isort_length]; omega) h32 (InG.take (I7.out.up hy) (by omega))
          rw [decide_eq_true (by rw [hY, hcl])] at h9
          exact h9
        have HS2 : Hid (∀ y, Up w7 y → Calls Try.prog 11 #[.slice ax len cx, .slice aw len cw] y fun e w' => e = .returned (.bool true) ∧ Up y w') := by
          intro y hy
          have h9 := same_calls ax aw len cx len cw X X y (by omega) (IX.out.up hy) (IW.out.up hy)
          rw [decide_eq_true rfl] at h9
          exact h9
        have HL1 : Hid (∀ y, Up w7 y → Calls Try.prog 14 #[.slice ax len cx, .int .i64 n, .func (.func 13) #[] #[]] y fun e w' => ∃ a32 c32, e = .returned (.slice a32 ((isort rkI X).take (clampN n len)).length c32) ∧ InEI w' a32 ((isort rkI X).take (clampN n len)).length c32 ((isort rkI X).take (clampN n len)) ∧ Up y w') := by
          intro y hy
          refine (leastI_calls _ rkI before_less ax len cx n X y (by omega) (IX.out.up hy)).mono ?_
          rintro _ w' ⟨v, rfl, ho, hu⟩
          obtain ⟨a32, c32, rfl, i32⟩ := OwnG.inI ho
          exact ⟨a32, c32, rfl, i32, hu⟩
        clear IX IW I7 O7 hY hcl
        generalize (isort rkI X).take (clampN n len) = Z at HS1 HL1
        have hk0 : Up w7 w7.drew := (Up.refl _).drew
        have tok1 : True := trivial
        have tok2 : True := trivial
        have tok3 : True := trivial
        go_region_law
          (first
            | (go_simp; clear tok1; go_at_call 14; refine (HL1.out _ ?_).mono ?_; assumption; rintro _ y ⟨a32, c32, rfl, i32, hy⟩; have hk5 : Up w7 y := Up.trans (by assumption) hy; replace i32 := hide i32; clear hy; dsimp only)
            | (go_simp; clear tok2; go_at_call 11; refine (HS1.out _ a32 c32 ?_ i32.out).mono ?_; assumption; rintro _ y2 ⟨rfl, hy2⟩; have hk6 : Up w7 y2 := Up.trans (by assumption) hy2; clear hy2; dsimp only)
            | (go_simp; clear tok3; go_at_call 11; refine (HS2.out _ ?_).mono ?_; assumption; rintro _ y3 ⟨rfl, hy3⟩; have hk7 : Up w7 y3 := Up.trans (by assumption) hy3; clear hy3; dsimp only))
        all_goals
          have V := hide hk7
          clear hk7 hk6 hk5 hk0 HS1 HS2 HL1 i32
          go_wp2
          go_ret
          exact ⟨rfl, U.out.trans V.out⟩
    · have q3 : ¬ (len : Int) < (k : Int) := by omega
      have q4 : (0 : Int) < (k : Int) := by omega
      have q7 : ¬ c7 = 0 := by omega
      have b1 : (0 : Int) ≤ (c7 : Int) := by omega
      have b2 : (len : Int) ≤ (c7 : Int) := by omega
      have b3 : (0 : Int) ≤ (len : Int) := by omega
      have b4 : ((k : Nat) : Int) ≤ (c7 : Int) := by omega
      have b5 : (0 : Int) ≤ ((k : Nat) : Int) := by omega
      have hcl : clampN (k : Int) len = k := by unfold clampN; rw [if_neg (by omega), if_pos (by omega)]; omega
      have HS1 : Hid (∀ y a32 c32, Up w7 y → InEI y a32 ((isort rkI X).take (clampN (k : Int) len)).length c32 ((isort rkI X).take (clampN (k : Int) len)) → Calls Try.prog 11 #[.slice a32 ((isort rkI X).take (clampN (k : Int) len)).length c32, .slice (some ⟨g, 0, none⟩) k c7] y fun e w' => e = .returned (.bool true) ∧ Up y w') := by
        intro y a32 c32 hy h32
        have h9 := same_calls a32 (some ⟨g, 0, none⟩) _ c32 k c7 _ (Y.take (k)) y (by rw [List.length_take, isort_length]; omega) h32 (InG.take (I7.out.up hy) (by omega))
        rw [decide_eq_true (by rw [hY, hcl])] at h9
        exact h9
      have HS2 : Hid (∀ y, Up w7 y → Calls Try.prog 11 #[.slice ax len cx, .slice aw len cw] y fun e w' => e = .returned (.bool true) ∧ Up y w') := by
        intro y hy
        have h9 := same_calls ax aw len cx len cw X X y (by omega) (IX.out.up hy) (IW.out.up hy)
        rw [decide_eq_true rfl] at h9
        exact h9
      have HL1 : Hid (∀ y, Up w7 y → Calls Try.prog 14 #[.slice ax len cx, .int .i64 (k : Int), .func (.func 13) #[] #[]] y fun e w' => ∃ a32 c32, e = .returned (.slice a32 ((isort rkI X).take (clampN (k : Int) len)).length c32) ∧ InEI w' a32 ((isort rkI X).take (clampN (k : Int) len)).length c32 ((isort rkI X).take (clampN (k : Int) len)) ∧ Up y w') := by
        intro y hy
        refine (leastI_calls _ rkI before_less ax len cx (k : Int) X y (by omega) (IX.out.up hy)).mono ?_
        rintro _ w' ⟨v, rfl, ho, hu⟩
        obtain ⟨a32, c32, rfl, i32⟩ := OwnG.inI ho
        exact ⟨a32, c32, rfl, i32, hu⟩
      clear IX IW I7 O7 hY hcl
      generalize (isort rkI X).take (clampN (k : Int) len) = Z at HS1 HL1
      have hk0 : Up w7 w7.drew := (Up.refl _).drew
      have tok1 : True := trivial
      have tok2 : True := trivial
      have tok3 : True := trivial
      go_region_law
        (first
          | (go_simp; clear tok1; go_at_call 14; refine (HL1.out _ ?_).mono ?_; assumption; rintro _ y ⟨a32, c32, rfl, i32, hy⟩; have hk5 : Up w7 y := Up.trans (by assumption) hy; replace i32 := hide i32; clear hy; dsimp only)
          | (go_simp; clear tok2; go_at_call 11; refine (HS1.out _ a32 c32 ?_ i32.out).mono ?_; assumption; rintro _ y2 ⟨rfl, hy2⟩; have hk6 : Up w7 y2 := Up.trans (by assumption) hy2; clear hy2; dsimp only)
          | (go_simp; clear tok3; go_at_call 11; refine (HS2.out _ ?_).mono ?_; assumption; rintro _ y3 ⟨rfl, hy3⟩; have hk7 : Up w7 y3 := Up.trans (by assumption) hy3; clear hy3; dsimp only))
      all_goals
        have V := hide hk7
        clear hk7 hk6 hk5 hk0 HS1 HS2 HL1 i32
        go_wp2
        go_ret
        exact ⟨rfl, U.out.trans V.out⟩
    · by_cases hl0 : len = 0
      · subst hl0
        have q8 : (0 : Int) < n := by omega
        clear q
        by_cases hc0 : c7 = 0
        · subst hc0
          have b1 : (0 : Int) ≤ (0 : Int) := by omega
          have b2 : (0 : Int) ≤ (0 : Int) := by omega
          have b3 : (0 : Int) ≤ (0 : Int) := by omega
          have b4 : ((0 : Nat) : Int) ≤ (0 : Int) := by omega
          have b5 : (0 : Int) ≤ ((0 : Nat) : Int) := by omega
          have hcl : clampN n 0 = 0 := by unfold clampN; rw [if_neg (by omega), if_neg (by omega)]
          have HS1 : Hid (∀ y a32 c32, Up w7 y → InEI y a32 ((isort rkI X).take (clampN n 0)).length c32 ((isort rkI X).take (clampN n 0)) → Calls Try.prog 11 #[.slice a32 ((isort rkI X).take (clampN n 0)).length c32, .slice (some ⟨g, 0, none⟩) 0 0] y fun e w' => e = .returned (.bool true) ∧ Up y w') := by
            intro y a32 c32 hy h32
            have h9 := same_calls a32 (some ⟨g, 0, none⟩) _ c32 0 0 _ (Y.take (0)) y (by rw [List.length_take, isort_length]; omega) h32 (InG.take (I7.out.up hy) (by omega))
            rw [decide_eq_true (by rw [hY, hcl])] at h9
            exact h9
          have HS2 : Hid (∀ y, Up w7 y → Calls Try.prog 11 #[.slice ax 0 cx, .slice aw 0 cw] y fun e w' => e = .returned (.bool true) ∧ Up y w') := by
            intro y hy
            have h9 := same_calls ax aw 0 cx 0 cw X X y (by omega) (IX.out.up hy) (IW.out.up hy)
            rw [decide_eq_true rfl] at h9
            exact h9
          have HL1 : Hid (∀ y, Up w7 y → Calls Try.prog 14 #[.slice ax 0 cx, .int .i64 n, .func (.func 13) #[] #[]] y fun e w' => ∃ a32 c32, e = .returned (.slice a32 ((isort rkI X).take (clampN n 0)).length c32) ∧ InEI w' a32 ((isort rkI X).take (clampN n 0)).length c32 ((isort rkI X).take (clampN n 0)) ∧ Up y w') := by
            intro y hy
            refine (leastI_calls _ rkI before_less ax 0 cx n X y (by omega) (IX.out.up hy)).mono ?_
            rintro _ w' ⟨v, rfl, ho, hu⟩
            obtain ⟨a32, c32, rfl, i32⟩ := OwnG.inI ho
            exact ⟨a32, c32, rfl, i32, hu⟩
          clear IX IW I7 O7 hY hcl
          generalize (isort rkI X).take (clampN n 0) = Z at HS1 HL1
          have hk0 : Up w7 w7.drew := (Up.refl _).drew
          have tok1 : True := trivial
          have tok2 : True := trivial
          have tok3 : True := trivial
          go_region_law
            (first
              | (go_simp; clear tok1; go_at_call 14; refine (HL1.out _ ?_).mono ?_; assumption; rintro _ y ⟨a32, c32, rfl, i32, hy⟩; have hk5 : Up w7 y := Up.trans (by assumption) hy; replace i32 := hide i32; clear hy; dsimp only)
              | (go_simp; clear tok2; go_at_call 11; refine (HS1.out _ a32 c32 ?_ i32.out).mono ?_; assumption; rintro _ y2 ⟨rfl, hy2⟩; have hk6 : Up w7 y2 := Up.trans (by assumption) hy2; clear hy2; dsimp only)
              | (go_simp; clear tok3; go_at_call 11; refine (HS2.out _ ?_).mono ?_; assumption; rintro _ y3 ⟨rfl, hy3⟩; have hk7 : Up w7 y3 := Up.trans (by assumption) hy3; clear hy3; dsimp only))
          all_goals
            have V := hide hk7
            clear hk7 hk6 hk5 hk0 HS1 HS2 HL1 i32
            go_wp2
            go_ret
            exact ⟨rfl, U.out.trans V.out⟩
        · skip
          have b1 : (0 : Int) ≤ (c7 : Int) := by omega
          have b2 : (0 : Int) ≤ (c7 : Int) := by omega
          have b3 : (0 : Int) ≤ (0 : Int) := by omega
          have b4 : ((0 : Nat) : Int) ≤ (c7 : Int) := by omega
          have b5 : (0 : Int) ≤ ((0 : Nat) : Int) := by omega
          have hcl : clampN n 0 = 0 := by unfold clampN; rw [if_neg (by omega), if_neg (by omega)]
          have HS1 : Hid (∀ y a32 c32, Up w7 y → InEI y a32 ((isort rkI X).take (clampN n 0)).length c32 ((isort rkI X).take (clampN n 0)) → Calls Try.prog 11 #[.slice a32 ((isort rkI X).take (clampN n 0)).length c32, .slice (some ⟨g, 0, none⟩) 0 c7] y fun e w' => e = .returned (.bool true) ∧ Up y w') := by
            intro y a32 c32 hy h32
            have h9 := same_calls a32 (some ⟨g, 0, none⟩) _ c32 0 c7 _ (Y.take (0)) y (by rw [List.length_take, isort_length]; omega) h32 (InG.take (I7.out.up hy) (by omega))
            rw [decide_eq_true (by rw [hY, hcl])] at h9
            exact h9
          have HS2 : Hid (∀ y, Up w7 y → Calls Try.prog 11 #[.slice ax 0 cx, .slice aw 0 cw] y fun e w' => e = .returned (.bool true) ∧ Up y w') := by
            intro y hy
            have h9 := same_calls ax aw 0 cx 0 cw X X y (by omega) (IX.out.up hy) (IW.out.up hy)
            rw [decide_eq_true rfl] at h9
            exact h9
          have HL1 : Hid (∀ y, Up w7 y → Calls Try.prog 14 #[.slice ax 0 cx, .int .i64 n, .func (.func 13) #[] #[]] y fun e w' => ∃ a32 c32, e = .returned (.slice a32 ((isort rkI X).take (clampN n 0)).length c32) ∧ InEI w' a32 ((isort rkI X).take (clampN n 0)).length c32 ((isort rkI X).take (clampN n 0)) ∧ Up y w') := by
            intro y hy
            refine (leastI_calls _ rkI before_less ax 0 cx n X y (by omega) (IX.out.up hy)).mono ?_
            rintro _ w' ⟨v, rfl, ho, hu⟩
            obtain ⟨a32, c32, rfl, i32⟩ := OwnG.inI ho
            exact ⟨a32, c32, rfl, i32, hu⟩
          clear IX IW I7 O7 hY hcl
          generalize (isort rkI X).take (clampN n 0) = Z at HS1 HL1
          have hk0 : Up w7 w7.drew := (Up.refl _).drew
          have tok1 : True := trivial
          have tok2 : True := trivial
          have tok3 : True := trivial
          go_region_law
            (first
              | (go_simp; clear tok1; go_at_call 14; refine (HL1.out _ ?_).mono ?_; assumption; rintro _ y ⟨a32, c32, rfl, i32, hy⟩; have hk5 : Up w7 y := Up.trans (by assumption) hy; replace i32 := hide i32; clear hy; dsimp only)
              | (go_simp; clear tok2; go_at_call 11; refine (HS1.out _ a32 c32 ?_ i32.out).mono ?_; assumption; rintro _ y2 ⟨rfl, hy2⟩; have hk6 : Up w7 y2 := Up.trans (by assumption) hy2; clear hy2; dsimp only)
              | (go_simp; clear tok3; go_at_call 11; refine (HS2.out _ ?_).mono ?_; assumption; rintro _ y3 ⟨rfl, hy3⟩; have hk7 : Up w7 y3 := Up.trans (by assumption) hy3; clear hy3; dsimp only))
          all_goals
            have V := hide hk7
            clear hk7 hk6 hk5 hk0 HS1 HS2 HL1 i32
            go_wp2
            go_ret
            exact ⟨rfl, U.out.trans V.out⟩
      · have q5 : 0 < len := by omega
        have q7 : ¬ c7 = 0 := by omega
        have b1 : (0 : Int) ≤ (c7 : Int) := by omega
        have b2 : (len : Int) ≤ (c7 : Int) := by omega
        have b3 : (0 : Int) ≤ (len : Int) := by omega
        have b4 : ((len : Nat) : Int) ≤ (c7 : Int) := by omega
        have b5 : (0 : Int) ≤ ((len : Nat) : Int) := by omega
        have hcl : clampN n len = len := by unfold clampN; rw [if_neg (by omega), if_neg (by omega)]
        have HS1 : Hid (∀ y a32 c32, Up w7 y → InEI y a32 ((isort rkI X).take (clampN n len)).length c32 ((isort rkI X).take (clampN n len)) → Calls Try.prog 11 #[.slice a32 ((isort rkI X).take (clampN n len)).length c32, .slice (some ⟨g, 0, none⟩) len c7] y fun e w' => e = .returned (.bool true) ∧ Up y w') := by
          intro y a32 c32 hy h32
          have h9 := same_calls a32 (some ⟨g, 0, none⟩) _ c32 len c7 _ (Y.take (len)) y (by rw [List.length_take, isort_length]; omega) h32 (InG.take (I7.out.up hy) (by omega))
          rw [decide_eq_true (by rw [hY, hcl])] at h9
          exact h9
        have HS2 : Hid (∀ y, Up w7 y → Calls Try.prog 11 #[.slice ax len cx, .slice aw len cw] y fun e w' => e = .returned (.bool true) ∧ Up y w') := by
          intro y hy
          have h9 := same_calls ax aw len cx len cw X X y (by omega) (IX.out.up hy) (IW.out.up hy)
          rw [decide_eq_true rfl] at h9
          exact h9
        have HL1 : Hid (∀ y, Up w7 y → Calls Try.prog 14 #[.slice ax len cx, .int .i64 n, .func (.func 13) #[] #[]] y fun e w' => ∃ a32 c32, e = .returned (.slice a32 ((isort rkI X).take (clampN n len)).length c32) ∧ InEI w' a32 ((isort rkI X).take (clampN n len)).length c32 ((isort rkI X).take (clampN n len)) ∧ Up y w') := by
          intro y hy
          refine (leastI_calls _ rkI before_less ax len cx n X y (by omega) (IX.out.up hy)).mono ?_
          rintro _ w' ⟨v, rfl, ho, hu⟩
          obtain ⟨a32, c32, rfl, i32⟩ := OwnG.inI ho
          exact ⟨a32, c32, rfl, i32, hu⟩
        clear IX IW I7 O7 hY hcl
        generalize (isort rkI X).take (clampN n len) = Z at HS1 HL1
        have hk0 : Up w7 w7.drew := (Up.refl _).drew
        have tok1 : True := trivial
        have tok2 : True := trivial
        have tok3 : True := trivial
        go_region_law
          (first
            | (go_simp; clear tok1; go_at_call 14; refine (HL1.out _ ?_).mono ?_; assumption; rintro _ y ⟨a32, c32, rfl, i32, hy⟩; have hk5 : Up w7 y := Up.trans (by assumption) hy; replace i32 := hide i32; clear hy; dsimp only)
            | (go_simp; clear tok2; go_at_call 11; refine (HS1.out _ a32 c32 ?_ i32.out).mono ?_; assumption; rintro _ y2 ⟨rfl, hy2⟩; have hk6 : Up w7 y2 := Up.trans (by assumption) hy2; clear hy2; dsimp only)
            | (go_simp; clear tok3; go_at_call 11; refine (HS2.out _ ?_).mono ?_; assumption; rintro _ y3 ⟨rfl, hy3⟩; have hk7 : Up w7 y3 := Up.trans (by assumption) hy3; clear hy3; dsimp only))
        all_goals
          have V := hide hk7
          clear hk7 hk6 hk5 hk0 HS1 HS2 HL1 i32
          go_wp2
          go_ret
          exact ⟨rfl, U.out.trans V.out⟩

end Go.Proofs.Ytcemdiloiachlaa
