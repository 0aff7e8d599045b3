/-
  What the statements' own comparators do (packages rialtoref7, rialtoplay), as their texts run.
-/
import Derived.Test.YtnokokhbcfkifaaGreatDoorKeyUse
import Derived.Test.YtnokokhbcfkifaaGreatDoorNewVals
import Derived.Test.YtnokokhbcfkifaaGreatDoorOwnApp
import Derived.Test.YtnokokhbcfkifaaGreatDoorQuietUp
namespace Go.Proofs.YtnokokhbcfkifaaGreatDoor
open Go.ChangeShapes Go.WideShapes Go.ChangeAt Go.RowKit
set_option linter.unusedVariables false
attribute [local go_sem ↓] Go.wp_at_zero Go.wp_at_succ

def szF (m : List VT) (k : Nat) : Int := (m.take k).foldl (fun s v => s + (v.2.2.1.size : Int)) 0
theorem szF_succ (m : List VT) (k : Nat) (h : k < m.length) : szF m (k + 1) = szF m k + ((m.getD k zeroT).2.2.1.size : Int) := by
  unfold szF
  rw [List.take_add_one, List.getElem?_eq_getElem h, Option.toList_some, List.foldl_append, List.getD_eq_getElem?_getD, List.getElem?_eq_getElem h]
  rfl
theorem szF_bound (m : List VT) (hf : ∀ i, (m.getD i zeroT).2.2.1.size ≤ 200) (k : Nat) : k ≤ m.length → 0 ≤ szF m k ∧ szF m k ≤ 200 * k := by
  induction k with
  | zero => intro _; exact ⟨Int.le_refl _, Int.le_refl _⟩
  | succ k ih =>
    intro hk
    rw [szF_succ m k (by omega)]
    have h := ih (by omega)
    have h2 := hf k
    omega

set_option maxRecDepth 20000 in
set_option maxHeartbeats 4000000 in
theorem size_some (b off n c : Nat) (m : List VT) (w : World) (hn : n ≤ 12) (hm : m.length = n) (hx : ∀ i, i < n → At w b (off + i * 4) (m.getD i zeroT)) (hsh : ∀ i, (m.getD i zeroT).2.2.1.size ≤ 200) :
    Calls Tryz.prog 55 #[.slice (some ⟨b, off, none⟩) n c] w fun e w' => e = .returned (.int .i64 (szF m n)) ∧ w' = w := by
  have HX := hide hx
  have HM := hide hm
  have HSH := hide hsh
  clear hx hm hsh
  have hN : n ≤ 2 ^ 63 - 1 := by omega
  go_enter Tryz.func55, Tryz.ntmps55
  go_wp2_with fail
  go_loopw [3, 4] (fun s i wr => ∃ k : Nat, k ≤ n ∧ i = .int .i64 k ∧ s = .int .i64 (szF m k) ∧ wr = w) (fun _ i _ => n - (intOf i).toNat)
  case atStart => exact ⟨0, Nat.zero_le _, rfl, rfl, rfl⟩
  case round =>
    obtain ⟨k, hk, rfl, rfl, rfl⟩ := hrel
    by_cases hlt : k < n
    · have t0 : decide ((k : Int) < n) = true := decide_eq_true (by omega)
      have hkn : (k : Int) < n := by omega
      obtain ⟨c0, c1, c2, c3⟩ := HX.out k hlt
      have hsz := HSH.out k
      have hs1 := szF_succ m k (by rw [HM.out]; exact hlt)
      have hs2 := szF_bound m HSH.out k (by rw [HM.out]; omega)
      have HS1 := hide hs1
      have g1 := hs2.1
      have g2 := hs2.2
      clear hs1 hs2 c0 c1 c3
      obtain ⟨ss, hss⟩ : ∃ ss, ss = (m.getD k zeroT).2.2.1 := ⟨_, rfl⟩
      rw [← hss] at c2 hsz
      have HSS := hide hss
      clear hss
      obtain ⟨sf, hsf⟩ : ∃ sf, sf = szF m k := ⟨_, rfl⟩
      rw [← hsf] at g1 g2 ⊢
      have HSF := hide hsf
      clear hsf
      go_wp2_with fail
      go_roundw
      case rel => exact ⟨k + 1, by omega, by go_num, by rw [HS1.out, ← HSF.out, ← HSS.out], trivial⟩
      case measure => simp [intOf]; omega
    · obtain rfl : k = n := by omega
      have t0 : decide ((k : Int) < k) = false := decide_eq_false (by omega)
      go_wp2
      go_ret
      exact ⟨rfl, rfl⟩

theorem size_none (a : Option Addr) (c : Nat) (w : World) :
    Calls Tryz.prog 55 #[.slice a 0 c] w fun e w' => e = .returned (.int .i64 0) ∧ w' = w := by
  go_enter Tryz.func55, Tryz.ntmps55
  go_wp2_with fail
  refine wp_loop_rounds 1 ?_
  rw [rounds_succ]
  go_wp2
  go_ret
  exact ⟨rfl, rfl⟩
theorem size_calls (a : Option Addr) (n c : Nat) (m : List VT) (w : World) (hn : n ≤ 12) (hv : Vals w a n m) (hsh : ∀ i, (m.getD i zeroT).2.2.1.size ≤ 200) :
    Calls Tryz.prog 55 #[.slice a n c] w fun e w' => e = .returned (.int .i64 (szF m m.length)) ∧ w' = w := by
  rcases hv.2.2 with h0 | ⟨b, off, rfl, hx⟩
  · subst h0
    obtain rfl : m = [] := List.length_eq_zero_iff.1 hv.1
    exact size_none a c w
  · have := hv.1
    subst this
    exact size_some b off _ c m w hn rfl hx hsh

set_option maxRecDepth 20000 in
set_option maxHeartbeats 4000000 in
theorem rcx_0 (a b : Option Addr) (n c p d : Nat) (m l : List VT) (w : World) (hn : n ≤ 12) (hp : p ≤ 12) (hv : Vals w a n m) (hw : Vals w b p l) :
    Calls Tryz.prog 34 #[.int .i64 0, .slice a n c, .slice b p d] w fun e w' => e = .returned (.int .i64 (wrap64 (- rowsV m l))) ∧ Up w w' := by
  have HR := hide (rvrows_calls a b n p c d m l w (by unfold maxLen; omega) (by unfold maxLen; omega) hv hw)
  clear hv hw
  go_enter Tryz.func34, Tryz.ntmps34
  go_wp2_with fail
  go_at_call 54
  refine HR.out.mono ?_
  rintro _ w1 ⟨rfl, hu1⟩
  have HU := hide hu1
  clear hu1 HR
  go_wp2
  go_ret
  exact ⟨rfl, HU.out⟩

theorem take_min (m : List VT) (n : Nat) (h : m.length = n) : m.take (min 1 n) = m.take 1 := by
  cases m with
  | nil => rw [List.take_nil, List.take_nil]
  | cons v t => rw [show min 1 n = 1 by simp at h; omega]
theorem min_cast (n : Nat) : min (1 : Int) (n : Int) = ((min 1 n : Nat) : Int) := by omega

set_option maxRecDepth 20000 in
set_option maxHeartbeats 4000000 in
theorem rcxC_1 (a b : Option Addr) (n c p d : Nat) (m l : List VT) (w : World) (hn : n ≤ 12) (hp : p ≤ 12) (hc : n ≤ c) (hd : p ≤ d) (hcm : c ≤ maxLen) (hdm : d ≤ maxLen) (hv : Vals w a n m) (hw : Vals w b p l) :
    Calls Tryz.prog 34 #[.int .i64 1, .slice a n c, .slice b p d] w fun e w' => e = .returned (.int .i64 (rowsV (m.take 1) (l.take 1))) ∧ Up w w' := by
  have e1 := take_min m n hv.1
  have e2 := take_min l p hw.1
  have HV := hide (hv.take (min 1 n) (by omega))
  have HW := hide (hw.take (min 1 p) (by omega))
  rw [e1] at HV
  rw [e2] at HW
  have m1 := min_cast n
  have m2 := min_cast p
  obtain ⟨k, hk⟩ : ∃ k, k = min 1 n := ⟨_, rfl⟩
  obtain ⟨j, hj⟩ : ∃ j, j = min 1 p := ⟨_, rfl⟩
  have k1 : k ≤ n := by omega
  have k2 : j ≤ p := by omega
  have k5 : k ≤ c := by omega
  have k6 : j ≤ d := by omega
  unfold maxLen at hcm hdm
  have k3 : k ≤ 1 := by omega
  have k4 : j ≤ 1 := by omega
  rw [← hk] at HV m1
  rw [← hj] at HW m2
  clear hv hw e1 e2 hk hj
  go_enter Tryz.func34, Tryz.ntmps34
  go_wp2_with fail
  refine region_up (by kernel_rfl) (by kernel_rfl) ?_
  repeat (first
    | go_big_quiet_skip
    | (go_big_quiet_want; go_big_quiet_op; go_big_quiet_on)
    | (go_big_quiet_want
       apply Exists.intro
       refine ⟨fun w' hw' => ?_, ?_⟩
       (skip
        go_simp
        first
        | done
        | with_reducible rfl
        | (go_at_call 54; exact quiet_call hw' (rvrows_calls a b k j _ _ (m.take 1) (l.take 1) w' (by unfold maxLen; omega) (by unfold maxLen; omega) (HV.out.up hw') (HW.out.up hw')))
       )
       go_big_quiet_on
       try simp only [Act.put, List.setIfInBounds_toArray, List.set_cons_zero, List.set_cons_succ]))
  refine wpQuiet_nil ?_
  intro w8 hu8
  have HU := hide hu8
  clear hu8
  go_wp2
  go_ret
  exact ⟨rfl, HU.out⟩

set_option maxRecDepth 20000 in
set_option maxHeartbeats 4000000 in
theorem rcxC_2 (a b : Option Addr) (n c p d : Nat) (m l : List VT) (w : World) (hn : n ≤ 12) (hp : p ≤ 12) (hv : Vals w a n m) (hw : Vals w b p l) (hsh : ∀ i, (m.getD i zeroT).2.2.1.size ≤ 200) (hsl : ∀ i, (l.getD i zeroT).2.2.1.size ≤ 200) :
    Calls Tryz.prog 34 #[.int .i64 2, .slice a n c, .slice b p d] w fun e w' => ∃ r, e = .returned (.int .i64 r) ∧ Up w w' ∧ r = if szF m m.length = szF l l.length then rowsV m l else if szF m m.length < szF l l.length then -1 else 1 := by
  have HV := hide hv
  have HW := hide hw
  have HS1 := hide (size_calls a n c m w hn hv hsh)
  have HS2 := hide (size_calls b p d l w hp hw hsl)
  clear hv hw hsh hsl
  obtain ⟨x, hx⟩ : ∃ x, x = szF m m.length := ⟨_, rfl⟩
  obtain ⟨y, hy⟩ : ∃ y, y = szF l l.length := ⟨_, rfl⟩
  rw [← hx] at HS1 ⊢
  rw [← hy] at HS2 ⊢
  clear hx hy
  by_cases h1 : x = y
  · subst h1
    rw [if_pos rfl]
    go_enter Tryz.func34, Tryz.ntmps34
    go_wp2_with fail
    go_at_call 55
    refine HS1.out.mono ?_
    rintro _ w1 ⟨rfl, rfl⟩
    go_wp2_with fail
    go_at_call 55
    refine HS2.out.mono ?_
    rintro _ w2 ⟨rfl, rfl⟩
    go_wp2_with fail
    go_at_call 54
    refine (rvrows_calls a b n p c d m l _ (by unfold maxLen; omega) (by unfold maxLen; omega) HV.out HW.out).mono ?_
    rintro _ w3 ⟨rfl, hu⟩
    have HU := hide hu
    clear hu
    go_wp2
    go_ret
    exact ⟨_, rfl, HU.out, rfl⟩
  · rw [if_neg h1]
    have t1 : (x == y) = false := by rw [beq_eq_false_iff_ne]; exact h1
    have t1' : (x != y) = true := by rw [bne_iff_ne]; exact h1
    by_cases h2 : x < y
    · rw [if_pos h2]
      have t2 : decide (x < y) = true := decide_eq_true h2
      clear h1 h2
      go_enter Tryz.func34, Tryz.ntmps34
      go_wp2_with fail
      go_at_call 55
      refine HS1.out.mono ?_
      rintro _ w1 ⟨rfl, rfl⟩
      go_wp2_with fail
      go_at_call 55
      refine HS2.out.mono ?_
      rintro _ w2 ⟨rfl, rfl⟩
      go_wp2
      go_ret
      exact ⟨_, rfl, Up.refl _, rfl⟩
    · rw [if_neg h2]
      have t2 : decide (x < y) = false := decide_eq_false h2
      clear h1 h2
      go_enter Tryz.func34, Tryz.ntmps34
      go_wp2_with fail
      go_at_call 55
      refine HS1.out.mono ?_
      rintro _ w1 ⟨rfl, rfl⟩
      go_wp2_with fail
      go_at_call 55
      refine HS2.out.mono ?_
      rintro _ w2 ⟨rfl, rfl⟩
      go_wp2
      go_ret
      exact ⟨_, rfl, Up.refl _, rfl⟩

/-- What a comparator with a number tells. -/
def cxV (q : Int) (m l : List VT) : Int := if q = 0 then wrap64 (- rowsV m l) else if q = 1 then rowsV (m.take 1) (l.take 1) else if szF m m.length = szF l l.length then rowsV m l else if szF m m.length < szF l l.length then -1 else 1
theorem rcxC_calls (q : Int) (a b : Option Addr) (n c p d : Nat) (m l : List VT) (w : World) (hq : q = 0 ∨ q = 1 ∨ q = 2) (hn : n ≤ 12) (hp : p ≤ 12) (hc : n ≤ c) (hd : p ≤ d) (hcm : c ≤ maxLen) (hdm : d ≤ maxLen) (hv : Vals w a n m) (hw : Vals w b p l) (hsh : ∀ i, (m.getD i zeroT).2.2.1.size ≤ 200) (hsl : ∀ i, (l.getD i zeroT).2.2.1.size ≤ 200) :
    Calls Tryz.prog 34 #[.int .i64 q, .slice a n c, .slice b p d] w fun e w' => e = .returned (.int .i64 (cxV q m l)) ∧ Up w w' := by
  rcases hq with rfl | rfl | rfl
  · exact rcx_0 a b n c p d m l w hn hp hv hw
  · exact rcxC_1 a b n c p d m l w hn hp hc hd hcm hdm hv hw
  · refine (rcxC_2 a b n c p d m l w hn hp hv hw hsh hsl).mono ?_
    rintro _ w' ⟨r, rfl, hu, hr⟩
    subst hr
    exact ⟨rfl, hu⟩
theorem rcx_calls (q : Int) (a b : Option Addr) (n p : Nat) (m l : List VT) (w : World) (hq : q = 0 ∨ q = 1 ∨ q = 2) (hn : n ≤ 12) (hp : p ≤ 12) (hv : Vals w a n m) (hw : Vals w b p l) (hsh : ∀ i, (m.getD i zeroT).2.2.1.size ≤ 200) (hsl : ∀ i, (l.getD i zeroT).2.2.1.size ≤ 200) :
    Calls Tryz.prog 34 #[.int .i64 q, .slice a n n, .slice b p p] w fun e w' => e = .returned (.int .i64 (cxV q m l)) ∧ Up w w' :=
  rcxC_calls q a b n n p p m l w hq hn hp (Nat.le_refl _) (Nat.le_refl _) (by unfold maxLen; omega) (by unfold maxLen; omega) hv hw hsh hsl

theorem cpr_enter (v v' : Value) (cap : Array Value) (w : World) : (callFunc 53 (#[v, v'] ++ cap)).run Tryz.prog w = .ok (.enter 53 (#[v, v'] ++ cap)) w := by
  simp [go_sem]

set_option maxRecDepth 20000 in
set_option maxHeartbeats 4000000 in
theorem cpr_err (mx nx mb : Nat) (h : Int) (a b : Value) (x : World) (k0 : x.cell? ⟨mx, 0, none⟩ = some (.pointer (some ⟨mb, 0, none⟩))) (hm : Met x mb 0 1 h 0) :
    Calls Tryz.prog 53 (#[a, b] ++ #[.pointer (some ⟨mx, 0, none⟩), .pointer (some ⟨nx, 0, none⟩)]) x fun e x' => ∃ k, e = .returned (.tuple #[.int .i64 0, .iface 147 (.pointer (some ⟨k, 0, none⟩))]) ∧ Chg (fun g => g = mb) x x' ∧ Met x' mb 1 1 h 1 ∧ x.heap.size ≤ k ∧ x'.cell? ⟨k, 0, none⟩ = some (.int .i64 1001) := by
  show Calls Tryz.prog 53 #[a, b, .pointer (some ⟨mx, 0, none⟩), .pointer (some ⟨nx, 0, none⟩)] x _
  have HM := hide hm
  clear hm
  go_enter Tryz.func53, Tryz.ntmps53
  go_wp2_with fail
  go_at_call 51
  refine (tick_1 mb h x HM.out).mono ?_
  rintro _ x1 ⟨k, rfl, hm1, hc1, hk, hk1⟩
  have HH : Hid (Chg (fun g => g = mb) x x1 ∧ Met x1 mb 1 1 h 1 ∧ x.heap.size ≤ k ∧ x1.cell? ⟨k, 0, none⟩ = some (.int .i64 1001)) := ⟨hc1, hm1, hk, hk1⟩
  clear hm1 hc1 hk hk1
  go_wp2
  go_ret2
  exact ⟨k, rfl, HH.out⟩

set_option maxRecDepth 20000 in
set_option maxHeartbeats 4000000 in
theorem cpr_ok (mx nx mb : Nat) (q h : Int) (a b : Option Addr) (n p : Nat) (m l : List VT) (x : World) (hq : q = 0 ∨ q = 1 ∨ q = 2) (hn : n ≤ 12) (hp : p ≤ 12) (hv : Vals x a n m) (hw : Vals x b p l) (ha : ¬ RowB a mb) (hb : ¬ RowB b mb) (hsh : ∀ i, (m.getD i zeroT).2.2.1.size ≤ 200) (hsl : ∀ i, (l.getD i zeroT).2.2.1.size ≤ 200) (hne : ¬ nx = mb) (k0 : x.cell? ⟨mx, 0, none⟩ = some (.pointer (some ⟨mb, 0, none⟩))) (k1 : x.cell? ⟨nx, 0, none⟩ = some (.int .i64 q)) (hm : Met x mb 0 0 h 0) :
    Calls Tryz.prog 53 (#[.slice a n n, .slice b p p] ++ #[.pointer (some ⟨mx, 0, none⟩), .pointer (some ⟨nx, 0, none⟩)]) x fun e x' => e = .returned (.tuple #[.int .i64 (wrap64 (7 * cxV q m l)), .nilIface]) ∧ Chg (fun g => g = mb) x x' ∧ Met x' mb 1 0 h 0 := by
  show Calls Tryz.prog 53 #[.slice a n n, .slice b p p, .pointer (some ⟨mx, 0, none⟩), .pointer (some ⟨nx, 0, none⟩)] x _
  have HR : Hid (∀ y, Vals y a n m → Vals y b p l → Calls Tryz.prog 34 #[.int .i64 q, .slice a n n, .slice b p p] y fun e w' => e = .returned (.int .i64 (cxV q m l)) ∧ Up y w') := fun y h1 h2 => rcx_calls q a b n p m l y hq hn hp h1 h2 hsh hsl
  obtain ⟨r, hr⟩ : ∃ r, r = cxV q m l := ⟨_, rfl⟩
  rw [← hr] at HR ⊢
  have HM := hide hm
  have HV := hide hv
  have HW := hide hw
  have HNA := hide ha
  have HNB := hide hb
  clear hr hm hv hw ha hb hsh hsl hq
  go_enter Tryz.func53, Tryz.ntmps53
  go_wp2_with fail
  go_at_call 51
  refine (tick_0 mb h x HM.out).mono ?_
  rintro _ x1 ⟨rfl, hm1, hc1⟩
  have j1 := hc1.cell k1 hne
  have HV1 : Hid (Vals x1 a n m) := HV.out.chg hc1 (fun g hg e => HNA.out (by rw [← show g = mb from e]; exact hg))
  have HW1 : Hid (Vals x1 b p l) := HW.out.chg hc1 (fun g hg e => HNB.out (by rw [← show g = mb from e]; exact hg))
  have HM1 := hide hm1
  have HC1 := hide hc1
  clear hm1 hc1 k0 k1
  go_wp2_with fail
  go_at_call 34
  refine (HR.out x1 HV1.out HW1.out).mono ?_
  rintro _ x2 ⟨rfl, hu⟩
  have HH : Hid (Chg (fun g => g = mb) x x2 ∧ Met x2 mb 1 0 h 0) := ⟨HC1.out.andUp hu, HM1.out.up hu⟩
  clear hu HR
  go_wp2
  go_ret2
  exact ⟨rfl, HH.out⟩

end Go.Proofs.YtnokokhbcfkifaaGreatDoor
