/-
  What the landed package schema answers of records and definitions (Check, Def), as its text runs.
-/
import Derived.Test.YteigjboelhcaiaaSchFns
import Derived.Test.YteigjboelhcaiaaRefSchC
namespace Go.Proofs.Yteigjboelhcaiaa
open Go.ChangeShapes Go.WideShapes Go.ChangeAt Go.RowKit
attribute [local go_sem ↓] Go.wp_at_zero Go.wp_at_succ
attribute [local go_sem] run_store_float

theorem check_bad (a : Option Addr) (n c : Nat) (l : List FT) (a' : Option Addr) (n' c' : Nat) (m : List VT) (w : World) (hnc : n ≤ c) (hc : c ≤ maxLen) (hv : Flds w a n l) (hb : isF l = false) :
    Calls Try.prog 15 #[.slice a n c, .slice a' n' c'] w fun e w' => e = .returned (.int .i64 (checkN l m)) ∧ Up w w' := by
  have e := hide (checkN_schema (m := m) hb)
  go_enter Try.func15, Try.ntmps15
  go_wp2_with fail
  go_at_call 13
  refine (sis_calls _ _ _ l _ hnc hc hv).mono ?_
  rintro _ w1 ⟨rfl, hu1⟩
  replace hu1 := hide hu1
  go_wp2
  go_ret
  exact ⟨ret_int e.out, hu1.out⟩

theorem check_len (a : Option Addr) (n c : Nat) (l : List FT) (a' : Option Addr) (n' c' : Nat) (m : List VT) (w : World) (hnc : n ≤ c) (hc : c ≤ maxLen) (hv : Flds w a n l) (hb : isF l = true) (hm : m.length = n') (hd : ¬ n' = n) :
    Calls Try.prog 15 #[.slice a n c, .slice a' n' c'] w fun e w' => e = .returned (.int .i64 (checkN l m)) ∧ Up w w' := by
  have e := hide (checkN_len (m := m) hb (by rw [hm, hv.1]; exact hd))
  have t1 : ((n' : Int) != n) = true := by rw [bne_iff_ne]; omega
  go_enter Try.func15, Try.ntmps15
  go_wp2_with fail
  go_at_call 13
  refine (sis_calls _ _ _ l _ hnc hc hv).mono ?_
  rintro _ w1 ⟨rfl, hu1⟩
  replace hu1 := hide hu1
  clear hv hm hd
  go_wp2
  all_goals go_ret
  all_goals exact ⟨ret_int e.out, hu1.out⟩

set_option maxHeartbeats 4000000 in
theorem check_some (b off n c : Nat) (l : List FT) (b' off' c' : Nat) (m : List VT) (w : World) (hnc : n ≤ c) (hc : c ≤ maxLen) (hv : Flds w (some ⟨b, off, none⟩) n l) (hb : isF l = true) (hm : m.length = n) (hx : ∀ i, i < n → At w b' (off' + i * 4) (m.getD i zeroT)) :
    Calls Try.prog 15 #[.slice (some ⟨b, off, none⟩) n c, .slice (some ⟨b', off', none⟩) n c'] w fun e w' => e = .returned (.int .i64 (checkN l m)) ∧ Up w w' := by
  have hl := hide hv.1
  have H := hide hv
  have HM := hide hm
  have HX := hide hx
  have hN := Nat.le_trans hnc hc
  unfold maxLen at hN
  go_enter Try.func15, Try.ntmps15
  go_wp2_with fail
  go_at_call 13
  refine (sis_calls _ _ _ l _ hnc hc hv).mono ?_
  rintro _ w1 ⟨rfl, hu1⟩
  clear hv hm hx hnc hc
  replace hu1 := hide hu1
  go_wp2_with fail
  go_loopw [17] (fun i wr => ∃ k : Nat, k ≤ n ∧ i = .int .i64 k ∧ Up w wr ∧ Hid (∀ j, j < k → (isB (m.getD j zeroT) && decide ((m.getD j zeroT).1 = (l.getD j zeroF).2)) = true)) (fun i _ => n - (intOf i).toNat)
  case atStart => exact ⟨0, Nat.zero_le _, rfl, hu1.out, fun j hj => absurd hj (Nat.not_lt_zero j)⟩
  case round =>
    obtain ⟨k, hk, rfl, hu, he⟩ := hrel
    replace hu := hide hu
    by_cases hlt : k < n
    · obtain ⟨b2, off2, hb2, _, l1⟩ := (H.out.up hu.out).fld hlt
      obtain ⟨rfl, rfl⟩ : b = b2 ∧ off = off2 := by cases hb2; exact ⟨rfl, rfl⟩
      clear hb2
      have t3 : decide ((k : Int) < n) = true := decide_eq_true (by omega)
      obtain ⟨c0, c1, c2, c3⟩ := (HX.out k hlt).up hu.out
      have hf : Hid (∀ B, B = (isB (m.getD k zeroT) && decide ((m.getD k zeroT).1 = (l.getD k zeroF).2)) → B = false → checkN l m = 41) := fun B h1 h2 => checkN_bad hb (by have := hl.out; omega) (h1 ▸ h2)
      obtain ⟨y, hy⟩ : ∃ y, y = (l.getD k zeroF).2 := ⟨_, rfl⟩
      rw [← hy] at l1 hf
      obtain ⟨⟨q, z, s, f⟩, hv⟩ : ∃ v, v = m.getD k zeroT := ⟨_, rfl⟩
      rw [← hv] at c0 c1 c2 c3 hf
      dsimp only at c0 c1 c2 c3
      replace hy := hide hy
      replace hv := hide hv
      go_wp2_with fail
      clear c0 c1 c2 c3
      have hua : Up wr (wr.alloc (.cells #[.int .i64 q, .int .i64 z, .string s, .float .f64 f] 56)) := (Up.refl _).alloc _
      have c0 : (wr.alloc (.cells #[.int .i64 q, .int .i64 z, .string s, .float .f64 f] 56)).cell? ⟨wr.heap.size, 0, none⟩ = some (.int .i64 q) := by go_simp
      have c1 : (wr.alloc (.cells #[.int .i64 q, .int .i64 z, .string s, .float .f64 f] 56)).cell? ⟨wr.heap.size, 1, none⟩ = some (.int .i64 z) := by go_simp
      have c2 : (wr.alloc (.cells #[.int .i64 q, .int .i64 z, .string s, .float .f64 f] 56)).cell? ⟨wr.heap.size, 2, none⟩ = some (.string s) := by go_simp
      have c3 : (wr.alloc (.cells #[.int .i64 q, .int .i64 z, .string s, .float .f64 f] 56)).cell? ⟨wr.heap.size, 3, none⟩ = some (.float .f64 f) := by go_simp
      replace l1 := hua.cell l1
      replace hu := hide (hu.out.trans hua)
      clear hua
      generalize wr.alloc (.cells #[.int .i64 q, .int .i64 z, .string s, .float .f64 f] 56) = W at *
      by_cases g2 : q = y
      · have q2 : (q != y) = false := by rw [g2]; simp
        by_cases g1 : isB (q, z, s, f) = true
        · have hB : Hid ((isB (m.getD k zeroT) && decide ((m.getD k zeroT).1 = (l.getD k zeroF).2)) = true) := by
            show _ = true
            rw [← hv.out, ← hy.out, g1, decide_eq_true g2]; rfl
          clear hf g2
          refine region_up (by kernel_rfl) (by kernel_rfl) ?_
          repeat (first
            | go_big_quiet_skip
            | (go_big_quiet_want; go_big_quiet_op; go_big_quiet_on)
            | (go_big_quiet_want
               apply Exists.intro
               refine ⟨fun w' hw' => ?_, ?_⟩
               (skip
                have c0 := hw'.cell c0
                have c1 := hw'.cell c1
                have c2 := hw'.cell c2
                have c3 := hw'.cell c3
                have l1 := hw'.cell l1
                go_simp
                first
                | done
                | with_reducible rfl
                | (go_at_call 26; exact quiet_call hw' (vis_calls _ _ _ _ _))
               )
               go_big_quiet_on
               try simp only [Act.put, List.setIfInBounds_toArray, List.set_cons_zero, List.set_cons_succ]))
          intro w2 hu2
          go_wp2
          go_roundw
          case rel =>
            refine ⟨k + 1, by omega, by go_num, hu.out.trans hu2, fun j hj => ?_⟩
            rcases Nat.lt_succ_iff_lt_or_eq.1 hj with hj | rfl
            · exact he.out j hj
            · exact hB.out
          case measure => simp [intOf]; omega
        · replace g1 : isB (q, z, s, f) = false := Bool.eq_false_iff.2 g1
          have e := hide (hf.out _ rfl (by rw [g1]; rfl))
          clear hf g2
          refine region_up (by kernel_rfl) (by kernel_rfl) ?_
          repeat (first
            | go_big_quiet_skip
            | (go_big_quiet_want; go_big_quiet_op; go_big_quiet_on)
            | (go_big_quiet_want
               apply Exists.intro
               refine ⟨fun w' hw' => ?_, ?_⟩
               (skip
                have c0 := hw'.cell c0
                have c1 := hw'.cell c1
                have c2 := hw'.cell c2
                have c3 := hw'.cell c3
                have l1 := hw'.cell l1
                go_simp
                first
                | done
                | with_reducible rfl
                | (go_at_call 26; exact quiet_call hw' (vis_calls _ _ _ _ _))
               )
               go_big_quiet_on
               try simp only [Act.put, List.setIfInBounds_toArray, List.set_cons_zero, List.set_cons_succ]))
          intro w2 hu2
          go_wp2
          go_ret
          exact ⟨ret_int e.out, hu.out.trans hu2⟩
      · have q2 : (q != y) = true := by rw [bne_iff_ne]; exact g2
        have e := hide (hf.out _ rfl (by rw [decide_eq_false g2]; simp))
        clear hf g2
        refine region_up (by kernel_rfl) (by kernel_rfl) ?_
        repeat (first
          | go_big_quiet_skip
          | (go_big_quiet_want; go_big_quiet_op; go_big_quiet_on)
          | (go_big_quiet_want
             apply Exists.intro
             refine ⟨fun w' hw' => ?_, ?_⟩
             (skip
              have c0 := hw'.cell c0
              have c1 := hw'.cell c1
              have c2 := hw'.cell c2
              have c3 := hw'.cell c3
              have l1 := hw'.cell l1
              go_simp
              first
              | done
              | with_reducible rfl
              | (go_at_call 26; exact quiet_call hw' (vis_calls _ _ _ _ _))
             )
             go_big_quiet_on
             try simp only [Act.put, List.setIfInBounds_toArray, List.set_cons_zero, List.set_cons_succ]))
        intro w2 hu2
        go_wp2
        go_ret
        exact ⟨ret_int e.out, hu.out.trans hu2⟩
    · obtain rfl : k = n := by omega
      have t3 : decide ((k : Int) < k) = false := decide_eq_false (by omega)
      have e := hide (checkN_good hb (HM.out.trans hl.out.symm) (fun j hj => he.out j (by have := hl.out; omega)))
      go_wp2
      go_ret
      exact ⟨ret_int e.out, hu.out⟩

theorem check_calls (a : Option Addr) (n c : Nat) (l : List FT) (a' : Option Addr) (n' c' : Nat) (m : List VT) (w : World) (hnc : n ≤ c) (hc : c ≤ maxLen) (hv : Flds w a n l) (hm : Vals w a' n' m) :
    Calls Try.prog 15 #[.slice a n c, .slice a' n' c'] w fun e w' => e = .returned (.int .i64 (checkN l m)) ∧ Up w w' := by
  cases hb : isF l with
  | false => exact check_bad _ _ _ l _ _ _ m w hnc hc hv hb
  | true =>
    by_cases hd : n' = n
    · subst hd
      have h1 := isF_len hb
      rw [hv.1] at h1
      rcases hv.2.2 with h0 | ⟨b, off, rfl, _⟩
      · omega
      rcases hm.2.2 with h0 | ⟨b', off', rfl, hx⟩
      · omega
      exact check_some _ _ _ _ l _ _ _ m w hnc hc hv hb hm.1 hx
    · exact check_len _ _ _ l _ _ _ m w hnc hc hv hb hm.1 hd

theorem partOk_iff {l : List FT} {k : Int} {E : List Bool} {p : PT} : PartOk l k E p ↔ partB l 0 E p = true ∧ (k = 7 → strB l p.1 = true) := by
  rw [partB_iff, strB_iff]
  constructor
  · rintro (h | h)
    · exact ⟨.inl h, fun _ => .inl h.1⟩
    · exact ⟨.inr ⟨h.1, h.2.1, h.2.2.1, fun h => absurd h (by decide)⟩, fun hk => .inr (h.2.2.2 hk)⟩
  · rintro ⟨h | h, hk⟩
    · exact .inl h
    · refine .inr ⟨h.1, h.2.1, h.2.2.1, fun h7 => ?_⟩
      rcases hk h7 with h8 | h8
      · have := h.1; omega
      · exact h8
theorem partB_num {l : List FT} {E : List Bool} {p q : Int} (h : partB l 0 E (p, q) = true) : p = -1 ∨ 0 ≤ p ∧ p < l.length := by
  rcases partB_iff.1 h with h | h
  · exact .inl h.1
  · exact .inr ⟨h.1, h.2.1⟩

set_option maxHeartbeats 8000000 in
theorem def_calls (a : Option Addr) (n c : Nat) (l : List FT) (s : ByteArray) (k : Int) (a1 : Option Addr) (n1 c1 : Nat) (P : List PT) (m : Int) (a2 : Option Addr) (n2 c2 : Nat) (E : List Value) (a3 : Option Addr) (n3 c3 : Nat) (C : List Value) (w : World)
    (hnc : n ≤ c) (hc : c ≤ maxLen) (hs : s.size ≤ maxLen) (hn1 : n1 ≤ maxLen) (hv : Flds w a n l) (hP : Prts w a1 n1 P) (hE : Fns w a2 n2 E) (hC : Fns w a3 n3 C) :
    Calls Try.prog 17 #[.slice a n c, .agg #[.string s, .int .i64 k, .slice a1 n1 c1, .int .i64 m], .agg #[.slice a2 n2 c2, .slice a3 n3 c3]] w fun e w' => e = .returned (.int .i64 (defN l s k P m (E.map fnB) (C.map fnB))) ∧ Up w w' := by
  go_enter Try.func17, Try.ntmps17
  go_wp2_with fail
  have hua : Up w ((w.alloc (.cells #[.string s, .int .i64 k, .slice a1 n1 c1, .int .i64 m] 26)).alloc (.cells #[.slice a2 n2 c2, .slice a3 n3 c3] 42)) := ((Up.refl _).alloc _).alloc _
  go_at_call 13
  refine (sis_calls _ _ _ l _ hnc hc (hv.up hua)).mono ?_
  rintro _ w1 ⟨rfl, hu1⟩
  have d0 : w1.cell? ⟨w.heap.size, 0, none⟩ = some (.string s) := hu1.cell (by go_simp)
  have d1 : w1.cell? ⟨w.heap.size, 1, none⟩ = some (.int .i64 k) := hu1.cell (by go_simp)
  have d2 : w1.cell? ⟨w.heap.size, 2, none⟩ = some (.slice a1 n1 c1) := hu1.cell (by go_simp)
  have d3 : w1.cell? ⟨w.heap.size, 3, none⟩ = some (.int .i64 m) := hu1.cell (by go_simp)
  have e0 : w1.cell? ⟨w.heap.size + 1, 0, none⟩ = some (.slice a2 n2 c2) := hu1.cell (by go_simp)
  have e1 : w1.cell? ⟨w.heap.size + 1, 1, none⟩ = some (.slice a3 n3 c3) := hu1.cell (by go_simp)
  replace hu1 := hua.trans hu1
  clear hua
  have HL := hide (hv.up hu1)
  have HP := hide (hP.up hu1)
  have HE := hide (hE.up hu1)
  have HC := hide (hC.up hu1)
  have hlen := hide hP.1
  have hll := hide hv.1
  have hu := hide hu1
  clear hv hP hE hC hu1 hnc hc
  cases hb : isF l with
  | false =>
    have e := hide (defN_schema (s := s) (k := k) (P := P) (c := m) (E := E.map fnB) (C := C.map fnB) hb)
    go_wp2
    go_ret
    exact ⟨ret_int e.out, hu.out⟩
  | true =>
    cases g1 : nameB s with
    | false =>
      have e := hide (defN_name (k := k) (P := P) (c := m) (E := E.map fnB) (C := C.map fnB) hb g1)
      go_wp2_with (go_at_call 23; refine (name_calls _ (by with_reducible assumption) _).mono ?_; rintro _ w2 ⟨rfl, hw2⟩; obtain rfl : w1 = w2 := hw2.symm)
      go_ret
      exact ⟨ret_int e.out, hu.out⟩
    | true =>
      cases g2 : manyB k n1 with
      | false =>
        have e := hide (defN_many (s := s) (k := k) (P := P) (c := m) (E := E.map fnB) (C := C.map fnB) hb (fun h => Bool.false_ne_true (g2.symm.trans (manyB_iff.2 (hlen.out ▸ h)))))
        go_wp2_with (first | (go_at_call 23; refine (name_calls _ (by with_reducible assumption) _).mono ?_; rintro _ w2 ⟨rfl, hw2⟩; obtain rfl : w1 = w2 := hw2.symm) | (go_at_call 28; refine (have_calls _ _ _).mono ?_; rintro _ w2 ⟨rfl, hw2⟩; obtain rfl : w1 = w2 := hw2.symm))
        go_ret
        exact ⟨ret_int e.out, hu.out⟩
      | true =>
        go_wp2_with (first | (go_at_call 23; refine (name_calls _ (by with_reducible assumption) _).mono ?_; rintro _ w2 ⟨rfl, hw2⟩; obtain rfl : w1 = w2 := hw2.symm) | (go_at_call 28; refine (have_calls _ _ _).mono ?_; rintro _ w2 ⟨rfl, hw2⟩; obtain rfl : w1 = w2 := hw2.symm))
        go_at_call 29
        refine (cmp_calls _ _ _ _ _ _ _ _ _ C _ HC.out).mono ?_
        rintro _ w2 ⟨rfl, hu2⟩
        replace d1 := hu2.cell d1
        replace d2 := hu2.cell d2
        replace e0 := hu2.cell e0
        replace HL := hide (HL.out.up hu2)
        replace HP := hide (HP.out.up hu2)
        replace HE := hide (HE.out.up hu2)
        replace hu := hide (hu.out.trans hu2)
        clear d0 d3 e1 HC hu2
        cases g3 : cmpOkB k m (C.map fnB) with
        | false =>
          have e := hide (defN_cmp (s := s) (k := k) (P := P) (c := m) (E := E.map fnB) (C := C.map fnB) hb (fun h => Bool.false_ne_true (g3.symm.trans (cmpOkB_iff.2 h))))
          go_wp2
          go_ret
          exact ⟨ret_int e.out, hu.out⟩
        | true =>
          have hbad : Hid (∀ j, j < n1 → ¬ PartOk l k (E.map fnB) (P.getD j zeroP) → defN l s k P m (E.map fnB) (C.map fnB) = 82) := fun j hj h => defN_part hb (by rw [hlen.out]; exact hj) h
          have hgood : Hid ((∀ j, j < n1 → PartOk l k (E.map fnB) (P.getD j zeroP)) → defN l s k P m (E.map fnB) (C.map fnB) = 0) := fun h => defN_good hb ⟨g1, by rw [hlen.out]; exact manyB_iff.1 g2, cmpOkB_iff.1 g3, fun j hj => h j (by rw [← hlen.out]; exact hj)⟩
          clear hb g1 hs
          unfold maxLen at hn1
          go_wp2_with fail
          clear g2 g3 d2
          go_loopw [35] (fun i wr => ∃ j : Nat, j ≤ n1 ∧ i = .int .i64 j ∧ Up w2 wr ∧ Hid (∀ i, i < j → PartOk l k (E.map fnB) (P.getD i zeroP))) (fun i _ => n1 - (intOf i).toNat)
          case atStart => exact ⟨0, Nat.zero_le _, rfl, Up.refl _, fun i hi => absurd hi (Nat.not_lt_zero i)⟩
          case round =>
            obtain ⟨j, hj, rfl, hur, he⟩ := hrel
            by_cases hlt : j < n1
            · obtain ⟨b1, off1, rfl, p0, p1⟩ := (HP.out.up hur).prt hlt
              have t3 : decide ((j : Int) < n1) = true := decide_eq_true (by omega)
              replace hbad := hide (hbad.out j hlt)
              have hpo : Hid (∀ i, i < j + 1 → PartOk l k (E.map fnB) (P.getD j zeroP) → PartOk l k (E.map fnB) (P.getD i zeroP)) := fun i hi hx => by
                rcases Nat.lt_succ_iff_lt_or_eq.1 hi with hi | rfl
                · exact he.out i hi
                · exact hx
              clear he
              obtain ⟨⟨p, q⟩, hpq⟩ : ∃ v, v = P.getD j zeroP := ⟨_, rfl⟩
              rw [← hpq] at p0 p1 hbad hpo
              dsimp only at p0 p1
              clear hpq
              replace d1 := hur.cell d1
              replace e0 := hur.cell e0
              replace HL := hide (HL.out.up hur)
              replace HE := hide (HE.out.up hur)
              replace hur := hide hur
              have hua : Up wr (wr.alloc (.cells #[.int .i64 p, .int .i64 q] 52)) := (Up.refl _).alloc _
              have e0' := hua.cell e0
              clear e0
              go_wp2_with fail
              clear p0 p1
              replace HL := hide (HL.out.up hua)
              replace HE := hide (HE.out.up hua)
              go_at_call 30
              refine (part_calls _ _ _ l _ _ _ _ _ E _ HL.out HE.out).mono ?_
              rintro _ w3 ⟨rfl, hu3⟩
              have p0 : w3.cell? ⟨wr.heap.size, 0, none⟩ = some (.int .i64 p) := hu3.cell (by go_simp)
              have p1 : w3.cell? ⟨wr.heap.size, 1, none⟩ = some (.int .i64 q) := hu3.cell (by go_simp)
              replace d1 := hu3.cell (hua.cell d1)
              replace HL := hide (HL.out.up hu3)
              replace hur := hide (hur.out.trans (hua.trans hu3))
              clear hua hu3 e0' HE
              cases g4 : partB l 0 (E.map fnB) (p, q) with
              | false =>
                have e := hide (hbad.out (fun h => Bool.false_ne_true (g4.symm.trans (partOk_iff.1 h).1)))
                go_wp2
                go_ret
                exact ⟨ret_int e.out, hu.out.trans hur.out⟩
              | true =>
                have hp : Hid (p = -1 ∨ 0 ≤ p ∧ p < n) := hll.out ▸ partB_num g4
                by_cases h7 : k = 7
                · subst h7
                  go_wp2_with fail
                  go_at_call 31
                  refine (str_calls _ _ _ l _ _ _ HL.out hp.out).mono ?_
                  rintro _ w4 ⟨rfl, hu4⟩
                  replace hur := hide (hur.out.trans hu4)
                  clear hu4 HL d1 p0 p1
                  cases g5 : strB l p with
                  | false =>
                    have e := hide (hbad.out (fun h => Bool.false_ne_true (g5.symm.trans ((partOk_iff.1 h).2 rfl))))
                    go_wp2
                    go_ret
                    exact ⟨ret_int e.out, hu.out.trans hur.out⟩
                  | true =>
                    have e := hide (partOk_iff.2 ⟨g4, fun _ => g5⟩ : PartOk l 7 (E.map fnB) (p, q))
                    go_wp2
                    go_roundw
                    case rel => exact ⟨j + 1, by omega, by go_num, hur.out, fun i hi => hpo.out i hi e.out⟩
                    case measure => simp [intOf]; omega
                · have t7 : (k == 7) = false := by rw [beq_eq_false_iff_ne]; exact h7
                  have e := hide (partOk_iff.2 ⟨g4, fun h => absurd h h7⟩ : PartOk l k (E.map fnB) (p, q))
                  clear h7
                  go_wp2
                  go_roundw
                  case rel => exact ⟨j + 1, by omega, by go_num, hur.out, fun i hi => hpo.out i hi e.out⟩
                  case measure => simp [intOf]; omega
            · obtain rfl : j = n1 := by omega
              have t3 : decide ((j : Int) < j) = false := decide_eq_false (by omega)
              have e := hide (hgood.out he.out)
              replace hur := hide hur
              go_wp2
              go_ret
              exact ⟨ret_int e.out, hu.out.trans hur.out⟩

end Go.Proofs.Yteigjboelhcaiaa
