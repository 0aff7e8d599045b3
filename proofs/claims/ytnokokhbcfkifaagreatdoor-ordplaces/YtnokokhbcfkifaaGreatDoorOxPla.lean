/-
  slices.IndexFunc and ordidx's Place, as their texts run.
-/
import Derived.Test.YtnokokhbcfkifaaGreatDoorOxAll
namespace Go.Proofs.YtnokokhbcfkifaaGreatDoor
open Go.ChangeShapes Go.WideShapes Go.ChangeAt Go.RowKit
set_option linter.unusedVariables false
set_option maxRecDepth 100000
attribute [local go_sem ↓] Go.wp_at_zero Go.wp_at_succ

theorem place1_calls (ib : Nat) (x : ET) (id : Int) (w : World) (c0 : w.cell? ⟨ib, 0, none⟩ = some (.int .i64 id)) :
    Calls Tryz.prog 49 (#[encE x] ++ #[.pointer (some ⟨ib, 0, none⟩)]) w fun e w' => e = .returned (.bool (x.id == id)) ∧ Up w w' := by
  unfold encE
  show Calls Tryz.prog _ #[.agg #[.slice x.a x.n x.c, .int .i64 x.id], .pointer (some ⟨ib, 0, none⟩)] w _
  obtain ⟨W, hW⟩ : ∃ W, W = w.alloc (.cells #[.slice x.a x.n x.c, .int .i64 x.id] 51) := ⟨_, rfl⟩
  have uW : Up w W := by rw [hW]; exact (Up.refl _).alloc _
  have d1 : W.cell? ⟨w.heap.size, 1, none⟩ = some (.int .i64 x.id) := by rw [hW]; go_simp
  have c1 := uW.cell c0
  have HU := hide uW
  have hW' := hW.symm
  clear hW uW c0
  go_enter Tryz.func49, Tryz.ntmps49
  go_wp2_with fail
  go_ret
  exact ⟨rfl, HU.out⟩
set_option maxHeartbeats 4000000 in
theorem indexFunc_calls (ib : Nat) (v : Value) (xs : List ET) (id : Int) (X : Nat → Prop) (w : World) (h : RdV eC X w v xs) (c0 : w.cell? ⟨ib, 0, none⟩ = some (.int .i64 id)) (hx : xs.length ≤ 100000) (p : Nat) (hp : p ≤ xs.length) (hno : ∀ i, i < p → (xs.getD i zeroET).id ≠ id) (hyes : p < xs.length → (xs.getD p zeroET).id = id) (r : Int) (hr1 : p < xs.length → r = (p : Int)) (hr2 : ¬ p < xs.length → r = -1) :
    Calls Tryz.prog 48 #[v, .func (.func 49) #[] #[.pointer (some ⟨ib, 0, none⟩)]] w fun e w' => e = .returned (.int .i64 r) ∧ Up w w' := by
  obtain ⟨a, n, c, rfl, hn, -⟩ := h.sliceN
  have H := hide h
  have HN := hide hn.out
  have C0 := hide c0
  clear h hn c0
  go_enter Tryz.func48, Tryz.ntmps48
  have hpn : p ≤ n := by rw [HN.out]; exact hp
  have hn6 : n ≤ 100000 := by rw [HN.out]; exact hx
  have HNO := hide hno
  have HYES := hide hyes
  have HR1 := hide hr1
  have HR2 := hide hr2
  clear hno hyes hp hx hr1 hr2
  go_wp2_with fail
  go_loopw [8] (fun iv wr => ∃ k : Nat, k ≤ p ∧ iv = .int .i64 k ∧ Hid (Up w wr)) (fun iv _ => n - (intOf iv).toNat)
  case atStart => exact ⟨0, Nat.zero_le _, rfl, Up.refl _⟩
  case round =>
    obtain ⟨k, hk, rfl, hu⟩ := hrel
    by_cases hkn : k < n
    · have k0 : (0 : Int) ≤ (k : Int) := by omega
      have k1 : (k : Int) < (n : Int) := by omega
      have t1 : decide ((k : Int) < (n : Int)) = true := decide_eq_true k1
      have e1 : IntKind.i64.wrap ((k : Int) + 1) = (k : Int) + 1 := by rw [IntKind.wrap_i64]; omega
      have hkx : k < xs.length := by rw [← HN.out]; exact hkn
      obtain ⟨g, o, rfl, y0, y1⟩ := H.out.ent (i := k) hkx
      have ex : xs.getD k zeroET = xs[k] := by rw [List.getD_eq_getElem?_getD, List.getElem?_eq_getElem hkx]; rfl
      have h1 : k < p → xs[k].id ≠ id := fun h => by have := HNO.out k h; rwa [ex] at this
      have h2 : k = p → xs[k].id = id := fun h => by subst h; have := HYES.out hkx; rwa [ex] at this
      obtain ⟨x, hxe⟩ : ∃ x, x = xs[k] := ⟨_, rfl⟩
      rw [← hxe] at y0 y1 h1 h2
      clear hxe ex
      replace y0 := hu.out.cell y0
      replace y1 := hu.out.cell y1
      have hcall := place1_calls ib x id wr (hu.out.cell C0.out)
      unfold encE at hcall
      by_cases hkp : k < p
      · have e0 : (x.id == id) = false := by rw [beq_eq_false_iff_ne]; exact h1 hkp
        rw [e0] at hcall
        have HC := hide hcall
        clear hcall h1 h2
        go_wp2_with fail
        refine HC.out.mono ?_
        rintro _ w5 ⟨rfl, hu5⟩
        have HU5 := hide (hu.out.trans hu5)
        clear hu5 HC y0 y1
        dsimp only
        go_wp2_with fail
        exact ⟨⟨k + 1, by omega, by first | rfl | congr 1, HU5⟩, by simp [intOf]; omega⟩
      · obtain rfl : k = p := by omega
        have e0 : (x.id == id) = true := by rw [beq_iff_eq]; exact h2 rfl
        rw [e0] at hcall
        have HC := hide hcall
        have hif := hide (HR1.out hkx)
        clear hcall h1 h2
        go_wp2_with fail
        refine HC.out.mono ?_
        rintro _ w5 ⟨rfl, hu5⟩
        have HU5 := hide (hu.out.trans hu5)
        clear hu5 HC y0 y1
        dsimp only
        go_wp2_with fail
        go_ret
        exact ⟨by rw [hif.out]; rfl, HU5.out⟩
    · obtain rfl : k = n := by omega
      obtain rfl : p = k := by omega
      have t1 : decide ((p : Int) < (p : Int)) = false := decide_eq_false (by omega)
      have hif := hide (HR2.out (by rw [← HN.out]; omega))
      go_wp2
      go_ret
      exact ⟨by rw [hif.out]; rfl, hu.out⟩
theorem place_no (X T hh n : Nat) (xs : List ET) (id : Int) (w : World) (x2 : w.cell? ⟨X, 2, none⟩ = some (.pointer (some ⟨T, 0, none⟩))) (t : TrE w T xs hh n) (hx : xs.length ≤ 100000) (hno : ∀ i, i < xs.length → (xs.getD i zeroET).id ≠ id) :
    Calls Tryz.prog 29 #[.pointer (some ⟨X, 0, none⟩), .int .i64 id] w fun e w' => e = .returned (.tuple #[.int .i64 0, .bool false]) ∧ Up w w' := by
  obtain ⟨W, hW⟩ : ∃ W, W = w.alloc (.cells #[.int .i64 id] 2) := ⟨_, rfl⟩
  have uW : Up w W := by rw [hW]; exact (Up.refl _).alloc _
  have c0 : W.cell? ⟨w.heap.size, 0, none⟩ = some (.int .i64 id) := by rw [hW]; go_simp
  have HST := hide (stored_calls X T hh n xs W (uW.cell x2) (t.up uW) hx)
  have HNO := hide hno
  have HU := hide uW
  have hW' := hW.symm
  clear hW uW t hno x2
  go_enter Tryz.func29, Tryz.ntmps29
  go_wp2_with fail
  clear hW'
  refine HST.out.mono ?_
  rintro _ w1 ⟨v1, rfl, ho1, hu1⟩
  obtain ⟨a1, n1, c1, rfl, -, -⟩ := ho1.sliceN
  have hif := indexFunc_calls w.heap.size _ xs id (fun _ => False) w1 (ho1.rd (fun _ _ h => h)) (hu1.cell c0) hx xs.length (Nat.le_refl _) HNO.out (fun h => absurd h (Nat.lt_irrefl _)) (-1) (fun h => absurd h (Nat.lt_irrefl _)) (fun _ => rfl)
  have HU1 := hide (HU.out.trans hu1)
  have HIF := hide hif
  clear hif ho1 hu1 HST
  dsimp only
  go_wp2_with fail
  refine HIF.out.mono ?_
  rintro _ w2 ⟨rfl, hu2⟩
  have HU2 := hide (HU1.out.trans hu2)
  clear hu2 HIF
  dsimp only
  go_wp2
  go_ret2
  exact ⟨rfl, HU2.out⟩
theorem place_yes (X T hh n : Nat) (xs : List ET) (id : Int) (w : World) (x2 : w.cell? ⟨X, 2, none⟩ = some (.pointer (some ⟨T, 0, none⟩))) (t : TrE w T xs hh n) (hx : xs.length ≤ 100000) (p : Nat) (hp : p < xs.length) (hno : ∀ i, i < p → (xs.getD i zeroET).id ≠ id) (hyes : (xs.getD p zeroET).id = id) :
    Calls Tryz.prog 29 #[.pointer (some ⟨X, 0, none⟩), .int .i64 id] w fun e w' => e = .returned (.tuple #[.int .i64 p, .bool true]) ∧ Up w w' := by
  obtain ⟨W, hW⟩ : ∃ W, W = w.alloc (.cells #[.int .i64 id] 2) := ⟨_, rfl⟩
  have uW : Up w W := by rw [hW]; exact (Up.refl _).alloc _
  have c0 : W.cell? ⟨w.heap.size, 0, none⟩ = some (.int .i64 id) := by rw [hW]; go_simp
  have HST := hide (stored_calls X T hh n xs W (uW.cell x2) (t.up uW) hx)
  have HNO := hide hno
  have HU := hide uW
  have hW' := hW.symm
  have t1 : decide ((p : Int) < 0) = false := decide_eq_false (by omega)
  clear hW uW t hno x2
  go_enter Tryz.func29, Tryz.ntmps29
  go_wp2_with fail
  clear hW'
  refine HST.out.mono ?_
  rintro _ w1 ⟨v1, rfl, ho1, hu1⟩
  obtain ⟨a1, n1, c1, rfl, -, -⟩ := ho1.sliceN
  have hif := indexFunc_calls w.heap.size _ xs id (fun _ => False) w1 (ho1.rd (fun _ _ h => h)) (hu1.cell c0) hx p (Nat.le_of_lt hp) HNO.out (fun _ => hyes) (p : Int) (fun _ => rfl) (fun h => absurd hp h)
  have HU1 := hide (HU.out.trans hu1)
  have HIF := hide hif
  clear hif ho1 hu1 HST
  dsimp only
  go_wp2_with fail
  refine HIF.out.mono ?_
  rintro _ w2 ⟨rfl, hu2⟩
  have HU2 := hide (HU1.out.trans hu2)
  clear hu2 HIF
  dsimp only
  go_wp2
  go_ret2
  exact ⟨rfl, HU2.out⟩
end Go.Proofs.YtnokokhbcfkifaaGreatDoor
