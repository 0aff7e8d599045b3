/-
  Rows of numbers, rising: how they are searched (slices.BinarySearch), copied (slices.Clone), held against one another (rialtohelp.Ids), as the text runs.
-/
import Derived.Test.YtofpakpbbpcalaaSlcAll
import Derived.Test.YtofpakpbbpcalaaChgs
import Derived.Test.YtofpakpbbpcalaaQuietUp
import Derived.Laws.AppendOwnNone
import Derived.Maps.AppendAt
namespace Go.Proofs.Ytofpakpbbpcalaa
open Go.ChangeShapes Go.WideShapes Go.ChangeAt Go.RowKit
set_option linter.unusedVariables false
set_option maxRecDepth 100000
attribute [local go_sem ↓] Go.wp_at_zero Go.wp_at_succ

/-- The cell of a number. -/
def jC (x : Int) : List Value := [.int .i64 x]
theorem jC_one (v : Int) : ∀ u ∈ jC v, u.oneCell' = true := by intro u hu; simp only [jC, List.mem_singleton] at hu; subst hu; rfl
/-- A row of numbers that lies in a block of its own. -/
abbrev OwnJ := OwnG (α := Int) 2 1 jC
theorem info_j : (Try.prog.info? 2).map (fun i => (i.zero, i.size, i.bytes)) = some (some (.int .i64 0), 1, 8) := by kernel_rfl
/-- A row of numbers that can be read. -/
def RdJ (w : World) (v : Value) (l : List Int) : Prop := ∃ a cap, v = .slice a l.length cap ∧ l.length ≤ cap ∧ cap ≤ maxLen ∧ (l = [] ∨ ∃ g off, a = some ⟨g, off, none⟩ ∧ ∀ i, i < l.length → w.cell? ⟨g, off + i, none⟩ = some (.int .i64 (l.getD i 0)))
theorem RdJ.up {w w' : World} {v : Value} {l : List Int} (h : RdJ w v l) (hu : Up w w') : RdJ w' v l := by
  obtain ⟨a, cap, h1, h2, h3, h4⟩ := h
  exact ⟨a, cap, h1, h2, h3, h4.imp id (fun ⟨g, off, h5, h6⟩ => ⟨g, off, h5, fun i hi => hu.cell (h6 i hi)⟩)⟩
theorem OwnJ.rd {w : World} {base : Nat} {v : Value} {l : List Int} (h : OwnJ w base v l) : RdJ w v l := by
  have h0 := h
  rcases h.2 with ⟨rfl, hn⟩ | ⟨g, cap, cur, rfl, hb, hg, hc, hm, hs, ht⟩
  · have : l = [] := List.length_eq_zero_iff.1 (by simpa using hn)
    subst this
    exact ⟨none, 0, rfl, Nat.le_refl _, Nat.zero_le _, .inl rfl⟩
  · refine ⟨some ⟨g, 0, none⟩, cap, rfl, hc, hm, .inr ⟨g, 0, rfl, fun i hi => ?_⟩⟩
    rw [show 0 + i = i * 1 + 0 by omega, World.ownsRow.cellAt h0 (i * 1 + 0) (by omega), flatG_get (k := 1) (fun _ => rfl) 0 l i 0 hi (by omega)]
    rfl

theorem nanC_calls (x : Int) (w : World) : Calls Try.prog 49 #[.int .i64 x] w fun e w' => e = .returned (.bool false) ∧ w' = w := by
  go_enter Try.func49, Try.ntmps49
  go_wp2
  go_ret
  exact ⟨by simp, rfl⟩
theorem nanS_calls (x : Int) (w : World) : Calls Try.prog 38 #[.int .i64 x] w fun e w' => e = .returned (.bool false) ∧ w' = w := by
  go_enter Try.func38, Try.ntmps38
  go_wp2
  go_ret
  exact ⟨by simp, rfl⟩
theorem less_calls (x y : Int) (w : World) : Calls Try.prog 37 #[.int .i64 x, .int .i64 y] w fun e w' => e = .returned (.bool (decide (x < y))) ∧ w' = w := by
  go_enter Try.func37, Try.ntmps37
  go_wp2_with (go_at_call 49; refine (nanC_calls x _).mono ?_; rintro _ _ ⟨rfl, rfl⟩)
  go_ret
  exact ⟨rfl, rfl⟩

/-- Rising. -/
def Rise (l : List Int) : Prop := l.Pairwise (· < ·)
theorem Rise.lt {l : List Int} (h : Rise l) {i j : Nat} (hij : i < j) (hj : j < l.length) : l.getD i 0 < l.getD j 0 := by
  have := List.pairwise_iff_getElem.1 h i j (by omega) hj hij
  rwa [List.getD_eq_getElem?_getD, List.getD_eq_getElem?_getD, List.getElem?_eq_getElem (by omega), List.getElem?_eq_getElem hj]
/-- p is where t stands, or would stand. -/
structure Stands (l : List Int) (t : Int) (p : Nat) : Prop where
  le : p ≤ l.length
  low : ∀ i, i < p → l.getD i 0 < t
  high : ∀ i, p ≤ i → i < l.length → t ≤ l.getD i 0
theorem Stands.mem {l : List Int} {t : Int} {p : Nat} (h : Stands l t p) (hr : Rise l) : t ∈ l ↔ p < l.length ∧ l.getD p 0 = t := by
  constructor
  · intro hm
    obtain ⟨k, hk, rfl⟩ := List.getElem_of_mem hm
    have e : l.getD k 0 = l[k] := by rw [List.getD_eq_getElem?_getD, List.getElem?_eq_getElem hk]; rfl
    by_cases h1 : k < p
    · have := h.low k h1; omega
    · have hp : p < l.length := by omega
      refine ⟨hp, ?_⟩
      have h2 := h.high p (Nat.le_refl _) hp
      by_cases h3 : k = p
      · rw [← h3]; exact e
      · have := hr.lt (show p < k by omega) hk
        omega
  · rintro ⟨h1, rfl⟩
    rw [List.getD_eq_getElem?_getD, List.getElem?_eq_getElem h1]
    exact List.getElem_mem h1

theorem search_some (g off n cap : Nat) (l : List Int) (t : Int) (w : World) (hl : l.length = n) (hn : n ≤ 1000000) (hr : Rise l) (hx : ∀ i, i < n → w.cell? ⟨g, off + i, none⟩ = some (.int .i64 (l.getD i 0))) :
    Calls Try.prog 25 #[.slice (some ⟨g, off, none⟩) n cap, .int .i64 t] w fun e w' => ∃ p, Stands l t p ∧ e = .returned (.tuple #[.int .i64 (p : Nat), .bool (decide (t ∈ l))]) ∧ Up w w' := by
  have H := hide hx
  have HL := hide hl
  have HR := hide hr
  clear hx hl hr
  go_enter Try.func25, Try.ntmps25
  go_wp2_with fail
  go_loopw [7, 8] (fun iv jv wr => ∃ i j : Nat, i ≤ j ∧ j ≤ n ∧ iv = .int .i64 i ∧ jv = .int .i64 j ∧ Hid (∀ a, a < i → l.getD a 0 < t) ∧ Hid (∀ a, j ≤ a → a < n → t ≤ l.getD a 0) ∧ Hid (Up w wr)) (fun iv jv _ => (intOf jv).toNat - (intOf iv).toNat)
  case atStart => exact ⟨0, n, Nat.zero_le _, Nat.le_refl _, rfl, rfl, fun a h => absurd h (Nat.not_lt_zero a), fun a h1 h2 => absurd h2 (by omega), Up.refl _⟩
  case round =>
    obtain ⟨i, j, hij, hjn, rfl, rfl, hlo, hhi, hu⟩ := hrel
    by_cases hlt : i < j
    · have hlt' : (i : Int) < (j : Int) := by omega
      obtain ⟨h, hh⟩ : ∃ h : Nat, h = (i + j) / 2 := ⟨_, rfl⟩
      have hh1 : i ≤ h ∧ h < j := by omega
      have hc := hu.out.cell (H.out h (by omega))
      obtain ⟨y, hy⟩ : ∃ y, y = l.getD h 0 := ⟨_, rfl⟩
      rw [← hy] at hc
      have HY := hide hy
      have em : ((i : Int) + (j : Int)) / 2 = (h : Int) := by omega
      have h0 : (0 : Int) ≤ (h : Int) := by omega
      have h1 : (h : Int) < (n : Int) := by omega
      clear hy hh
      cases hd : decide (y < t)
      · go_wp2_with (go_at_call 37; refine (less_calls y t _).mono ?_; rintro _ _ ⟨rfl, rfl⟩; rw [hd])
        go_roundw
        case rel =>
          refine ⟨i, h, hh1.1, by omega, rfl, rfl, hlo, fun a ha han => ?_, hu⟩
          have hd' := of_decide_eq_false hd
          by_cases e : a = h
          · subst e; rw [← HY.out]; omega
          · have := HR.out.lt (show h < a by omega) (by rw [HL.out]; exact han)
            rw [← HY.out] at this
            omega
        case measure => simp [intOf]; omega
      · go_wp2_with (go_at_call 37; refine (less_calls y t _).mono ?_; rintro _ _ ⟨rfl, rfl⟩; rw [hd])
        go_roundw
        case rel =>
          refine ⟨h + 1, j, by omega, hjn, by go_num, rfl, fun a ha => ?_, hhi, hu⟩
          have hd' := of_decide_eq_true hd
          by_cases e : a = h
          · subst e; rw [← HY.out]; omega
          · have := HR.out.lt (show a < h by omega) (by rw [HL.out]; omega)
            rw [← HY.out] at this
            omega
        case measure => simp [intOf]; omega
    · obtain rfl : i = j := by omega
      have hst : Stands l t i := ⟨by rw [HL.out]; exact hjn, hlo.out, fun a h1 h2 => hhi.out a h1 (by rw [← HL.out]; exact h2)⟩
      have hmem := hst.mem HR.out
      rw [HL.out] at hmem
      replace hst := hide hst
      by_cases hin : i < n
      · have hin' : (i : Int) < (n : Int) := by omega
        have hc := hu.out.cell (H.out i hin)
        obtain ⟨y, hy⟩ : ∃ y, y = l.getD i 0 := ⟨_, rfl⟩
        rw [← hy] at hc hmem
        clear hy hlo hhi hij hlt
        have i0 : (0 : Int) ≤ (i : Int) := by omega
        cases hd : (y == t)
        · have hm : decide (t ∈ l) = false := decide_eq_false (fun h => by have := (hmem.1 h).2; subst this; simp at hd)
          replace hm := hide hm
          clear hmem
          go_wp2_with (go_at_call 38; refine (nanS_calls y _).mono ?_; rintro _ _ ⟨rfl, rfl⟩)
          go_ret2
          exact ⟨i, hst.out, by rw [hm.out]; rfl, hu.out⟩
        · have hm : decide (t ∈ l) = true := decide_eq_true (hmem.2 ⟨hin, by simpa using hd⟩)
          replace hm := hide hm
          clear hmem
          go_wp2
          go_ret2
          exact ⟨i, hst.out, by rw [hm.out]; rfl, hu.out⟩
      · have hin' : ¬ (i : Int) < (n : Int) := by omega
        have hm : decide (t ∈ l) = false := decide_eq_false (fun h => hin (hmem.1 h).1)
        replace hm := hide hm
        clear hmem hlo hhi
        go_wp2
        go_ret2
        exact ⟨i, hst.out, by rw [hm.out]; rfl, hu.out⟩

theorem search_none (a : Option Addr) (cap : Nat) (t : Int) (w : World) :
    Calls Try.prog 25 #[.slice a 0 cap, .int .i64 t] w fun e w' => e = .returned (.tuple #[.int .i64 0, .bool false]) ∧ Up w w' := by
  go_enter Try.func25, Try.ntmps25
  go_wp2_with fail
  refine wp_loop_rounds 1 ?_
  rw [rounds_succ]
  go_wp2
  go_ret2
  exact ⟨rfl, Up.refl _⟩
theorem search_calls (v : Value) (l : List Int) (t : Int) (w : World) (h : RdJ w v l) (hn : l.length ≤ 1000000) (hr : Rise l) :
    Calls Try.prog 25 #[v, .int .i64 t] w fun e w' => ∃ p, Stands l t p ∧ e = .returned (.tuple #[.int .i64 (p : Nat), .bool (decide (t ∈ l))]) ∧ Up w w' := by
  obtain ⟨a, cap, rfl, _, _, h⟩ := h
  rcases h with rfl | ⟨g, off, rfl, hx⟩
  · refine (search_none a cap t w).mono ?_
    rintro e w' ⟨rfl, hu⟩
    exact ⟨0, ⟨Nat.le_refl _, fun i h => absurd h (Nat.not_lt_zero i), fun i _ h => absurd h (Nat.not_lt_zero i)⟩, by simp, hu⟩
  · exact search_some g off _ cap l t w rfl hn hr hx

theorem append_ids {w : World} {ops : Array Oper} {rest : List Oper} {o : Oper} {a : Act} {Q : Exit → Act → World → Prop} (hgd : o.guard = none) (s x : Operand)
    (ho : o.op = .call { callee := .builtin .append, args := #[s, x], argTypes := #[31, 31] }) (base : Nat) (v : Value) (l : List Int) (hs : a.eval s = v) (hown : OwnJ w base v l)
    (ad : Addr) (n c : Nat) (new : List Int) (hx : a.eval x = .slice (some ad) n c) (hn : new.length = n) (hnews : ∀ j, j < new.length → w.cell? (ad.add j) = some (.int .i64 (new.getD j 0))) (hlen : l.length + new.length ≤ 10000000) (hbase : base ≤ w.heap.size)
    (h : ∀ v' w', OwnJ w' base v' (l ++ new) → w.grownBy w' v.ownBlock → (v'.ownBlock = v.ownBlock ∨ v'.ownBlock = some w.heap.size) → wpList Try.prog ops Q rest (a.put o.dst v') w') : wpList Try.prog ops Q (o :: rest) a w := by
  obtain ⟨i0, hi, hz0, hz1, hz2⟩ := info_parts info_j
  refine wpList_append_own_at w hgd s x 31 ho base 2 i0 (.int .i64 0) 1 8 Try.underlying31 hi hz0 hz1 hz2 rfl (by decide) v l.length (l.flatMap jC) hs hown ad n c (new.flatMap jC) hx
    (by rw [flatG_length (k := 1) (fun _ => rfl), hn]) ?_ ?_ (by unfold maxLen; omega) (by omega) hbase fun v' w' h1 h2 _ h4 => h v' w' ?_ h2 h4
  · intro j u hj
    have hl := flatG_length (k := 1) (cs := jC) (fun _ => rfl) new
    have hjl : j < new.length := by
      rcases Nat.lt_or_ge j new.length with h | h
      · exact h
      · rw [List.getElem?_eq_none (by rw [hl]; omega)] at hj; cases hj
    have e := flatG_get (k := 1) (cs := jC) (fun _ => rfl) 0 new j 0 hjl (by omega)
    rw [show j * 1 + 0 = j by omega, hj] at e
    rw [hnews j hjl, e]
    rfl
  · intro u hu
    obtain ⟨y, _, hy⟩ := List.mem_flatMap.1 hu
    exact jC_one y u hy
  · unfold OwnJ OwnG
    rw [List.length_append, List.flatMap_append, hn]
    exact h1

/-- Clone tells the same in new memory. -/
theorem eqlNil (a : Option Addr) (n c : Nat) (w : World) : (binOp .eql 31 (.slice a n c) (.slice none 0 0)).run Try.prog w = .ok (.bool a.isNone) w := Lib.run_eql_slice_nil w 31 2 a n c 0 0 Try.underlying31
theorem cloneJ_none (w : World) : Calls Try.prog 31 #[.slice none 0 0] w fun e w' => e = .returned (.slice none 0 0) ∧ Up w w' := by
  go_enter Try.func31, Try.ntmps31
  have hq := eqlNil none 0 0
  go_wp2
  go_ret
  exact ⟨rfl, Up.refl _⟩
theorem OwnG.empty {α : Type} {e : TypeId} {k : Nat} {cs : α → List Value} (w : World) : OwnG e k cs (w.alloc (.cells #[] e)) w.heap.size (.slice (some ⟨w.heap.size, 0, none⟩) 0 0) [] :=
  ⟨by simp, .inr ⟨w.heap.size, 0, #[], rfl, Nat.le_refl _, heap_alloc_new _ _, Nat.le_refl _, Nat.zero_le _, by simp, by simp⟩⟩
set_option maxHeartbeats 2000000 in
theorem cloneJ_some (g n cap : Nat) (l : List Int) (w : World) (hl : l.length = n) (hn : n ≤ 1000000) (hx : ∀ j, j < n → w.cell? ⟨g, 0 + j, none⟩ = some (.int .i64 (l.getD j 0))) :
    Calls Try.prog 31 #[.slice (some ⟨g, 0, none⟩) n cap] w fun e w' => ∃ v', e = .returned v' ∧ OwnJ w' w.heap.size v' l ∧ Up w w' := by
  have H := hide hx
  have HL := hide hl
  clear hx hl
  have hq := eqlNil (some ⟨g, 0, none⟩) n cap
  go_enter Try.func31, Try.ntmps31
  go_wp2_with (at_builtin; refine append_ids rfl (.tmp 5) (.tmp 6) rfl w.heap.size _ [] rfl (OwnG.empty w) ⟨g, 0, none⟩ n cap l rfl HL.out (fun j hj => ?_) (by simp; rw [HL.out]; omega) (by simp) ?_)
  · rw [Addr.add_lit]
    exact ((Up.refl w).alloc _).cell (H.out j (by rw [← HL.out]; exact hj))
  · intro v' w' ho hg _
    have hu : Hid (Up w w') := (((Up.refl w).alloc _).below.trans (Below.grown (Below.refl _ _) hg (Nat.le_of_lt (by simp)) (fun k hk => by cases hk; exact Nat.le_refl _)))
    replace ho := hide ho
    clear hg
    go_wp2
    go_ret
    exact ⟨_, rfl, by simpa using ho.out, hu.out⟩
theorem cloneJ_calls (v : Value) (l : List Int) (w : World) (h : OwnJ w 0 v l) (hn : l.length ≤ 1000000) :
    Calls Try.prog 31 #[v] w fun e w' => ∃ v', e = .returned v' ∧ OwnJ w' w.heap.size v' l ∧ Up w w' := by
  have h0 := h
  rcases h.2 with ⟨rfl, hz⟩ | ⟨g, cap, cur, rfl, hb, hg, hc, hm, hs, ht⟩
  · have : l = [] := List.length_eq_zero_iff.1 (by simpa using hz)
    subst this
    refine (cloneJ_none w).mono ?_
    rintro e w' ⟨rfl, hu⟩
    exact ⟨_, rfl, OwnG.nil _ _ _ _ _, hu⟩
  · refine cloneJ_some g _ cap l w rfl hn fun j hj => ?_
    rw [show 0 + j = j * 1 + 0 by omega, World.ownsRow.cellAt h0 (j * 1 + 0) (by omega), flatG_get (k := 1) (fun _ => rfl) 0 l j 0 hj (by omega)]
    rfl

/-- Ids tells whether two rows are the same. -/
theorem ids_ne (a b : Option Addr) (n m c d : Nat) (w : World) (h : n ≠ m) : Calls Try.prog 15 #[.slice a n c, .slice b m d] w fun e w' => e = .returned (.bool false) ∧ Up w w' := by
  have h' : ((n : Int) != (m : Int)) = true := by simp; omega
  go_enter Try.func15, Try.ntmps15
  go_wp2
  go_ret
  exact ⟨rfl, Up.refl _⟩
theorem ids_nil (a b : Option Addr) (c d : Nat) (w : World) : Calls Try.prog 15 #[.slice a 0 c, .slice b 0 d] w fun e w' => e = .returned (.bool true) ∧ Up w w' := by
  go_enter Try.func15, Try.ntmps15
  go_wp2_with fail
  refine wp_loop_rounds 1 ?_
  rw [rounds_succ]
  go_wp2
  go_ret
  exact ⟨rfl, Up.refl _⟩
set_option maxHeartbeats 2000000 in
theorem ids_some (g o g' o' n c d : Nat) (l m : List Int) (w : World) (hl : l.length = n) (hm : m.length = n) (hn : n ≤ 1000000) (hx : ∀ i, i < n → w.cell? ⟨g, o + i, none⟩ = some (.int .i64 (l.getD i 0))) (hy : ∀ i, i < n → w.cell? ⟨g', o' + i, none⟩ = some (.int .i64 (m.getD i 0))) :
    Calls Try.prog 15 #[.slice (some ⟨g, o, none⟩) n c, .slice (some ⟨g', o', none⟩) n d] w fun e w' => e = .returned (.bool (decide (l = m))) ∧ Up w w' := by
  have H := hide hx
  have HY := hide hy
  have HL := hide hl
  have HM := hide hm
  clear hx hl hy hm
  go_enter Try.func15, Try.ntmps15
  go_wp2_with fail
  go_loopw [5] (fun iv wr => ∃ i : Nat, i ≤ n ∧ iv = .int .i64 i ∧ Hid (∀ a, a < i → l.getD a 0 = m.getD a 0) ∧ Hid (Up w wr)) (fun iv _ => n - (intOf iv).toNat)
  case atStart => exact ⟨0, Nat.zero_le _, rfl, fun a h => absurd h (Nat.not_lt_zero a), Up.refl _⟩
  case round =>
    obtain ⟨i, hi, rfl, he, hu⟩ := hrel
    by_cases hlt : i < n
    · have hlt' : (i : Int) < (n : Int) := by omega
      have i0 : (0 : Int) ≤ (i : Int) := by omega
      have hc := hu.out.cell (H.out i hlt)
      have hd := hu.out.cell (HY.out i hlt)
      obtain ⟨x, hx⟩ : ∃ x, x = l.getD i 0 := ⟨_, rfl⟩
      obtain ⟨y, hy⟩ : ∃ y, y = m.getD i 0 := ⟨_, rfl⟩
      rw [← hx] at hc
      rw [← hy] at hd
      replace hx := hide hx
      replace hy := hide hy
      cases hxy : (x != y)
      · go_wp2_with fail
        go_quiet (fail)
        go_wp2
        go_roundw
        case rel => exact ⟨i + 1, by omega, by go_num, fun a ha => (by
          by_cases e : a = i
          · subst e; rw [← hx.out, ← hy.out]; simpa using hxy
          · exact he.out a (by omega)), hu.out.drewN _⟩
        case measure => simp [intOf]; omega
      · have hne : Hid (decide (l = m) = false) := decide_eq_false (fun e => by
          subst e
          have : x = y := by rw [hx.out, hy.out]
          subst this
          simp at hxy)
        go_wp2_with fail
        go_quiet (fail)
        go_wp2
        go_ret
        exact ⟨by rw [hne.out]; rfl, hu.out.drewN _⟩
    · obtain rfl : i = n := by omega
      have hyes : Hid (decide (l = m) = true) := decide_eq_true (List.ext_getElem (by rw [HL.out, HM.out]) (fun a h1 h2 => by
        have := he.out a (by rw [← HL.out]; exact h1)
        rwa [List.getD_eq_getElem?_getD, List.getD_eq_getElem?_getD, List.getElem?_eq_getElem h1, List.getElem?_eq_getElem h2] at this))
      go_wp2
      go_ret
      exact ⟨by rw [hyes.out]; rfl, hu.out⟩
theorem ids_calls (u v : Value) (l m : List Int) (w : World) (hu : RdJ w u l) (hv : RdJ w v m) (hl : l.length ≤ 1000000) :
    Calls Try.prog 15 #[u, v] w fun e w' => e = .returned (.bool (decide (l = m))) ∧ Up w w' := by
  obtain ⟨a, c, rfl, _, _, h1⟩ := hu
  obtain ⟨b, d, rfl, _, _, h2⟩ := hv
  by_cases hn : l.length = m.length
  · rcases h1 with rfl | ⟨g, o, rfl, hx⟩
    · obtain rfl : m = [] := List.length_eq_zero_iff.1 (by simpa using hn.symm)
      exact (ids_nil a b c d w).mono fun e w' h => by simpa using h
    · rcases h2 with rfl | ⟨g', o', rfl, hy⟩
      · obtain rfl : l = [] := List.length_eq_zero_iff.1 (by simpa using hn)
        exact (ids_nil _ b c d w).mono fun e w' h => by simpa using h
      · rw [← hn]
        exact ids_some g o g' o' _ c d l m w rfl hn.symm hl hx (fun i hi => hy i (by rw [← hn]; exact hi))
  · rw [show decide (l = m) = false from decide_eq_false (fun e => hn (by rw [e]))]
    exact ids_ne a b _ _ c d w hn

end Go.Proofs.Ytofpakpbbpcalaa
