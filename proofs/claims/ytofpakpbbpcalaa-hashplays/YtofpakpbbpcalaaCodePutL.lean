/-
  What Put of package code answers of every row of few values, as its text runs.
-/
import Derived.Test.YtofpakpbbpcalaaCodePutV
namespace Go.Proofs.Ytofpakpbbpcalaa
open Go.ChangeShapes Go.WideShapes Go.ChangeAt Go.RowKit
attribute [local go_sem ↓] Go.wp_at_zero Go.wp_at_succ
attribute [local go_sem] run_store_float

theorem all_bad {l : List VT} {k : Nat} (hk : k < l.length) (h : isB (l.getD k zeroT) = false) : l.all isB = false := by
  rw [List.all_eq_false]
  refine ⟨l.getD k zeroT, ?_, by simpa using h⟩
  rw [List.getD_eq_getElem?_getD, List.getElem?_eq_getElem hk]
  exact List.getElem_mem hk
theorem all_good {l : List VT} (h : ∀ j, j < l.length → isB (l.getD j zeroT) = true) : l.all isB = true := by
  rw [List.all_eq_true]
  intro v hv
  obtain ⟨k, hk, rfl⟩ := List.getElem_of_mem hv
  have := h k hk
  rwa [List.getD_eq_getElem?_getD, List.getElem?_eq_getElem hk] at this
theorem good_get {l : List VT} (h : l.all isB = true) {j : Nat} (hj : j < l.length) : isB (l.getD j zeroT) = true := by
  rw [List.all_eq_true] at h
  rw [List.getD_eq_getElem?_getD, List.getElem?_eq_getElem hj]
  exact h _ (List.getElem_mem hj)

theorem bodyV_length (v : VT) (h : isB v = true) : (bodyV v).length ≤ 122 := by
  obtain ⟨k, n, s, f⟩ := v
  rcases isB_cases h with ⟨rfl, _⟩ | ⟨rfl, hn, _⟩ | ⟨rfl | rfl, _, hs, _⟩ | ⟨rfl, _⟩
  · simp [bodyV, wordL]
  · simp [bodyV]
  · have := escL_length s.data.toList
    have e : s.data.toList.length = s.size := by simp
    rw [e] at this
    simp [bodyV, strL]; omega
  · have := escL_length s.data.toList
    have e : s.data.toList.length = s.size := by simp
    rw [e] at this
    simp [bodyV, strL]; omega
  · simp [bodyV, wordL]
theorem putL_length (l : List VT) (h : ∀ j, j < l.length → isB (l.getD j zeroT) = true) : (putL l).length ≤ 123 * l.length := by
  induction l with
  | nil => simp [putL]
  | cons v l ih =>
    have h0 := bodyV_length v (h 0 (by simp))
    have h1 := ih fun j hj => h (j + 1) (by simpa using hj)
    simp only [putL, putV, List.length_append, List.length_cons]
    omega

/-- What Put leaves: the row's bytes in new memory, or an error. -/
def PutPost (w : World) (l : List VT) (no : Int) (e : Ending) (w' : World) : Prop :=
  Up w w' ∧ ((l.all isB = true ∧ ∃ v', e = .returned (.tuple #[v', .int .i64 0]) ∧ Own w' w.heap.size v' (putL l)) ∨ (l.all isB = false ∧ e = .returned (.tuple #[.slice none 0 0, .int .i64 no])))

theorem put_none (a : Option Addr) (c : Nat) (w : World) : Calls Try.prog 35 #[.slice a 0 c] w fun e w' => PutPost w [] 20 e w' := by
  go_enter Try.func35, Try.ntmps35
  go_wp2_with fail
  refine wp_loop_rounds 1 ?_
  rw [rounds_succ]
  go_wp2
  go_ret2
  exact ⟨Up.refl _, .inl ⟨rfl, _, rfl, Own.nil _ _⟩⟩

set_option maxHeartbeats 4000000 in
theorem put_some (b off n c : Nat) (l : List VT) (w : World) (hl : l.length = n) (hn : n ≤ 1000) (hg : ∀ i, Fits (l.getD i zeroT)) (hx : ∀ i, i < n → At w b (off + i * 4) (l.getD i zeroT)) :
    Calls Try.prog 35 #[.slice (some ⟨b, off, none⟩) n c] w fun e w' => PutPost w l 20 e w' := by
  have H := hide hx
  have G := hide hg
  have HL := hide hl
  clear hx hg hl
  go_enter Try.func35, Try.ntmps35
  go_wp2_with fail
  go_loopw [4, 9] (fun u i wr => ∃ k : Nat, k ≤ n ∧ i = .int .i64 k ∧ Own wr w.heap.size u (putL (l.take k)) ∧ Up w wr ∧ Hid (∀ j, j < k → isB (l.getD j zeroT) = true)) (fun _ i _ => n - (intOf i).toNat)
  case atStart => exact ⟨0, Nat.zero_le _, rfl, Own.nil _ _, Up.refl _, fun j hj => absurd hj (Nat.not_lt_zero j)⟩
  case round =>
    obtain ⟨k, hk, rfl, ho, hu, he⟩ := hrel
    by_cases hlt : k < n
    · obtain ⟨l0, l1, l2, l3⟩ := (H.out k hlt).up hu
      have hfit := G.out k
      have hstep := putL_take l k (by rw [HL.out]; exact hlt)
      have hlen := putL_length (l.take k) (fun j hj => by
        rw [List.length_take] at hj
        have := he.out j (by omega)
        rwa [List.getD_eq_getElem?_getD, List.getElem?_take, if_pos (by omega), ← List.getD_eq_getElem?_getD])
      rw [List.length_take] at hlen
      have hbad := all_bad (l := l) (k := k) (by rw [HL.out]; exact hlt)
      have hgood : isB (l.getD k zeroT) = true → ∀ j, j < k + 1 → isB (l.getD j zeroT) = true := fun h j hj => by
        rcases Nat.lt_succ_iff_lt_or_eq.1 hj with hj | rfl
        · exact he.out j hj
        · exact h
      obtain ⟨⟨q, m, s, f⟩, hx⟩ : ∃ x, x = l.getD k zeroT := ⟨_, rfl⟩
      rw [← hx] at l0 l1 l2 l3 hfit hstep hbad hgood
      simp only at l0 l1 l2 l3
      obtain ⟨B, hB⟩ : ∃ B, B = putL (l.take k) := ⟨_, rfl⟩
      rw [← hB] at ho hstep hlen
      have hlB : B.length ≤ 500000 := by omega
      have FI := hide hfit
      have ST := hide hstep
      have BA := hide hbad
      have GO := hide hgood
      clear hfit hstep hbad hgood hlen hB hx he
      have i0 : (0 : Int) ≤ (k : Int) := by omega
      have i1 : (k : Int) < (n : Int) := by omega
      obtain ⟨W, hW⟩ : ∃ W, wr.alloc (.cells #[.int .i64 q, .int .i64 m, .string s, .float .f64 f] 52) = W := ⟨_, rfl⟩
      have c0 : W.cell? ⟨wr.heap.size, 0, none⟩ = some (.int .i64 q) := by subst hW; simp
      have c1 : W.cell? ⟨wr.heap.size, 1, none⟩ = some (.int .i64 m) := by subst hW; simp
      have c2 : W.cell? ⟨wr.heap.size, 2, none⟩ = some (.string s) := by subst hW; simp
      have c3 : W.cell? ⟨wr.heap.size, 3, none⟩ = some (.float .f64 f) := by subst hW; simp
      have hu2 : Hid (Up w W) := by subst hW; exact hu.alloc _
      replace ho : Hid (Own W w.heap.size u4 B) := by subst hW; exact ho.alloc _
      replace hu := hide hu
      go_wp2_with fail
      go_at_call 47
      refine (vis_calls q m s f _).mono ?_
      rintro _ w1 ⟨rfl, hu1⟩
      replace c0 := hu1.cell c0
      replace c1 := hu1.cell c1
      replace c2 := hu1.cell c2
      replace c3 := hu1.cell c3
      replace ho := hide (ho.out.up hu1)
      replace hu2 := hide (hu2.out.trans hu1)
      clear hu1 hW l0 l1 l2 l3
      cases hisb : isB (q, m, s, f)
      · go_wp2
        go_ret2
        exact ⟨hu2.out, .inr ⟨BA.out hisb, rfl⟩⟩
      · go_wp2_with fail
        go_at_call 48
        refine (putValue_calls w.heap.size _ B q m s f _ ho.out hu2.out.size hlB hisb FI.out).mono ?_
        rintro _ w3 ⟨v3, rfl, ho3, hb3⟩
        have hu3 : Hid (Up w w3) := hide (hu2.out.below.trans hb3)
        replace ho3 := hide ho3
        have hgd := hide (GO.out hisb)
        clear hb3 hu2 ho c0 c1 c2 c3
        go_wp2
        go_roundw
        case rel => exact ⟨k + 1, by omega, by go_num, by rw [ST.out]; exact ho3.out, hu3.out, hgd.out⟩
        case measure => simp [intOf]; omega
    · obtain rfl : k = n := by omega
      have ht : l.take k = l := List.take_of_length_le (by rw [HL.out]; exact Nat.le_refl _)
      rw [ht] at ho
      have hgd := hide (all_good (l := l) (fun j hj => he.out j (by rw [HL.out] at hj; exact hj)))
      replace ho := hide ho
      replace hu := hide hu
      clear ht he
      go_wp2
      go_ret2
      exact ⟨hu.out, .inl ⟨hgd.out, _, rfl, ho.out⟩⟩

theorem put_calls (a : Option Addr) (n c : Nat) (l : List VT) (w : World) (hn : n ≤ 1000) (hv : Vals w a n l) : Calls Try.prog 35 #[.slice a n c] w fun e w' => PutPost w l 20 e w' := by
  obtain ⟨hl, hg, h⟩ := hv
  rcases h with rfl | ⟨b, off, rfl, hx⟩
  · obtain rfl : l = [] := List.length_eq_zero_iff.1 hl
    exact put_none _ _ _
  · exact put_some _ _ _ _ l w hl hn hg hx

end Go.Proofs.Ytofpakpbbpcalaa
