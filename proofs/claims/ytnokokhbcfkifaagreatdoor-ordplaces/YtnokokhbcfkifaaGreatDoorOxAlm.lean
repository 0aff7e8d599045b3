/-
  ordidx's All, as its text runs.
-/
import Derived.Test.YtnokokhbcfkifaaGreatDoorOxAll
namespace Go.Proofs.YtnokokhbcfkifaaGreatDoor
open Go.ChangeShapes Go.WideShapes Go.ChangeAt Go.RowKit
set_option linter.unusedVariables false
set_option maxRecDepth 100000
attribute [local go_sem ↓] Go.wp_at_zero Go.wp_at_succ

theorem flatE_set (x : ET) : ∀ (l : List ET) (i : Nat), i < l.length → (l.set i x).flatMap eC = ((l.flatMap eC).set (i * 2) (.slice x.a x.n x.c)).set (i * 2 + 1) (.int .i64 x.id)
  | [], i, h => absurd h (Nat.not_lt_zero _)
  | y :: l, 0, h => by simp [eC]
  | y :: l, i + 1, h => by
    rw [List.set_cons_succ, List.flatMap_cons, List.flatMap_cons, flatE_set x l i (by simpa using h)]
    rw [show (i + 1) * 2 = i * 2 + 2 by omega]
    simp [eC, List.set_cons_succ]
/-- One entry of a row that a call owns is written. -/
theorem ownE_set {w : World} {base g n cap : Nat} {l : List ET} (h : OwnV 51 eC w base (.slice (some ⟨g, 0, none⟩) n cap) l) {i : Nat} (hi : i < l.length) (x : ET) :
    OwnV 51 eC ((w.setCell ⟨g, i * 2, none⟩ (.slice x.a x.n x.c)).setCell ⟨g, i * 2 + 1, none⟩ (.int .i64 x.id)) base (.slice (some ⟨g, 0, none⟩) n cap) (l.set i x) := by
  have hl : l ≠ [] := fun e => by rw [e] at hi; exact absurd hi (Nat.not_lt_zero _)
  obtain ⟨g', cap', cur, h1, h2, h3, h4, h5, h6, h7⟩ := h.block hl
  cases h1
  refine OwnV.mk eC_two (cur := (cur.setIfInBounds (i * 2) (.slice x.a x.n x.c)).setIfInBounds (i * 2 + 1) (.int .i64 x.id)) h2 (heap_setCell_same _ g _ _ _ _ (heap_setCell_same w g _ cur _ _ h3)) (by simp) h4 h5 (by simpa using h6) ?_
  rw [flatE_set x l i hi, ← h7, Array.toList_setIfInBounds, Array.toList_setIfInBounds, List.take_set, List.take_set]
/-- Its cells. -/
theorem ownE_cell {w : World} {base g n cap : Nat} {l : List ET} (h : OwnV 51 eC w base (.slice (some ⟨g, 0, none⟩) n cap) l) {i : Nat} (hi : i < l.length) : w.cell? ⟨g, i * 2, none⟩ = some (.slice l[i].a l[i].n l[i].c) ∧ w.cell? ⟨g, i * 2 + 1, none⟩ = some (.int .i64 l[i].id) ∧ w.frozen? ⟨g, i * 2, none⟩ = false ∧ w.frozen? ⟨g, i * 2 + 1, none⟩ = false := by
  have hl : l ≠ [] := fun e => by rw [e] at hi; exact absurd hi (Nat.not_lt_zero _)
  obtain ⟨g0, o, h1, h2, h3⟩ := (h.rd (X := fun _ => False) (fun _ _ h => h)).ent hi
  cases h1
  obtain ⟨g', cap', cur, h4, _, h5, _⟩ := h.block hl
  cases h4
  rw [Nat.zero_add] at h2 h3
  exact ⟨h2, h3, by simp [World.frozen?, h5], by simp [World.frozen?, h5]⟩
/-- An entry as it is told. -/
def idv (p : EP) : Int × List VT := (p.1.id, p.2)
/-- What All tells. -/
def AllOk (L : List EP) (w : World) (e : Ending) (w' : World) : Prop := ∃ (v : Value) (L' : List EP), e = .returned v ∧ OwnV 51 eC w' w.heap.size v (L'.map (·.1)) ∧ L'.map idv = L.map idv ∧ (∀ p ∈ L', KeyC (fun y => y < w.heap.size ∨ v.ownBlock = some y) w' p.1.a p.1.n p.1.c p.2) ∧ Up w w'
set_option maxHeartbeats 8000000 in
theorem all_calls (C : Nat → Prop) (X T hh n : Nat) (L : List EP) (w : World) (x2 : w.cell? ⟨X, 2, none⟩ = some (.pointer (some ⟨T, 0, none⟩))) (t : TrE w T (L.map (·.1)) hh n) (hk : ∀ p ∈ L, KeyC C w p.1.a p.1.n p.1.c p.2) (hL : L.length ≤ 100000) :
    Calls Tryz.prog 27 #[.pointer (some ⟨X, 0, none⟩)] w fun e w' => AllOk L w e w' := by
  have HST := hide (stored_calls X T hh n (L.map (·.1)) w x2 t (by simpa using hL))
  have HK := hide hk
  clear t hk x2
  go_enter Tryz.func27, Tryz.ntmps27
  go_wp2_with fail
  refine HST.out.mono ?_
  rintro _ w1 ⟨v1, rfl, ho1, hu1⟩
  obtain ⟨a1, n1, c1, rfl, hn1, hc1⟩ := ho1.sliceN
  have HO1 := hide ho1
  have HU1 := hide hu1
  have hnL : n1 = L.length := by rw [hn1.out]; simp
  replace hnL := hide hnL
  clear ho1 hu1 HST
  dsimp only
  go_wp2_with fail
  go_loopw [10] (fun iv wr => ∃ (k : Nat) (L1 : List EP), k ≤ n1 ∧ iv = .int .i64 k ∧ Hid (L1.length = k ∧ L1.map idv = (L.take k).map idv ∧ OwnV 51 eC wr w.heap.size (.slice a1 n1 c1) (L1.map (·.1) ++ (L.map (·.1)).drop k) ∧ (∀ p ∈ L1, KeyC (fun y => y < w.heap.size ∨ (Value.slice a1 n1 c1).ownBlock = some y) wr p.1.a p.1.n p.1.c p.2) ∧ Up w wr)) (fun iv _ => n1 - (intOf iv).toNat)
  case atStart => exact ⟨0, [], Nat.zero_le _, rfl, ⟨rfl, by simp, by simpa using HO1.out, fun p hp => absurd hp (by simp), HU1.out⟩⟩
  case round =>
    obtain ⟨k, L1, hk, rfl, hR⟩ := hrel
    obtain ⟨r1, r2, r3, r4, r5⟩ := hR.out
    by_cases hlt : k < n1
    · have hkL : k < L.length := by rw [← hnL.out]; exact hlt
      have hrow : (L1.map (·.1) ++ (L.map (·.1)).drop k).length = L.length := by simp; omega
      have hlk : k < (L1.map (·.1) ++ (L.map (·.1)).drop k).length := by rw [hrow]; exact hkL
      have hne : (L1.map (·.1) ++ (L.map (·.1)).drop k) ≠ [] := fun e => by rw [e] at hlk; exact absurd hlk (Nat.not_lt_zero _)
      obtain ⟨g, cp, cur, hv, hbg, -⟩ := r3.block hne
      have hag : a1 = some ⟨g, 0, none⟩ := by cases hv; rfl
      subst hag
      clear hv
      obtain ⟨q0, q1, q2, q3⟩ := ownE_cell r3 hlk
      have eL : (L1.map (·.1) ++ (L.map (·.1)).drop k)[k] = L[k].1 := by
        rw [List.getElem_append_right (by simp [r1])]
        simp [r1]
      rw [eL] at q0 q1
      have kx := (HK.out L[k] (List.getElem_mem hkL)).up r5
      obtain ⟨x, hx⟩ : ∃ x, x = L[k] := ⟨_, rfl⟩
      rw [← hx] at q0 q1 kx
      obtain ⟨W, hW⟩ : ∃ W, W = wr.alloc (.cells #[.slice x.1.a x.1.n x.1.c, .int .i64 x.1.id] 51) := ⟨_, rfl⟩
      have uW : Up wr W := by rw [hW]; exact (Up.refl _).alloc _
      have z0 : W.cell? ⟨wr.heap.size, 0, none⟩ = some (.slice x.1.a x.1.n x.1.c) := by rw [hW]; go_simp
      have z1 : W.cell? ⟨wr.heap.size, 1, none⟩ = some (.int .i64 x.1.id) := by rw [hW]; go_simp
      have hcop := oxcopy_calls x.1.a x.1.n x.1.c x.1.id x.2 W kx.k.few (kx.k.up uW).vals kx.k.sh
      have HCOP := hide hcop
      have HX := hide hx
      have HKX := hide kx
      have HUW := hide uW
      have hgl : g < wr.heap.size := World.block_lt_of_cell? _ _ q0
      have k0 : (0 : Int) ≤ (k : Int) := by omega
      have k1 : (k : Int) < (n1 : Int) := by omega
      have t1 : decide ((k : Int) < (n1 : Int)) = true := decide_eq_true k1
      have e1 : IntKind.i64.wrap ((k : Int) + 1) = (k : Int) + 1 := by
        have := hL; have := hnL.out; rw [IntKind.wrap_i64]; omega
      have hW' := hW.symm
      have HR := hide (show L1.length = k ∧ L1.map idv = (L.take k).map idv ∧ OwnV 51 eC wr w.heap.size (.slice (some ⟨g, 0, none⟩) n1 c1) (L1.map (·.1) ++ (L.map (·.1)).drop k) ∧ (∀ p ∈ L1, KeyC (fun y => y < w.heap.size ∨ (Value.slice (some ⟨g, 0, none⟩) n1 c1).ownBlock = some y) wr p.1.a p.1.n p.1.c p.2) ∧ Up w wr from ⟨r1, r2, r3, r4, r5⟩)
      have HLK := hide hlk
      have HKL := hide hkL
      have HBG := hide hbg
      clear hcop hx kx uW hW hrow hlk hne hbg eL hR r1 r2 r3 r4 r5
      go_wp2_with fail
      clear hW'
      refine HCOP.out.mono ?_
      rintro _ w5 ⟨a5, rfl, hn5, hf5, hu5⟩
      have p0 := (HUW.out.trans hu5).cell q0
      have p1 := (HUW.out.trans hu5).cell q1
      have p2 := ((HUW.out.trans hu5).frozen (p := ⟨g, k * 2, none⟩) hgl).trans q2
      have p3 := ((HUW.out.trans hu5).frozen (p := ⟨g, k * 2 + 1, none⟩) hgl).trans q3
      have HN5 := hide hn5
      have HF5 := hide hf5
      have HU5 := hide (HUW.out.trans hu5)
      have hWs := HUW.out.size
      clear hn5 hf5 hu5 q0 q1 q2 q3 z0 z1 HCOP
      dsimp only
      go_wp2_with fail
      refine ⟨⟨k + 1, L1 ++ [(⟨a5, x.1.n, x.1.n, x.1.id⟩, x.2)], by omega, by first | rfl | congr 1, ?_⟩, by simp [intOf]; omega⟩
      obtain ⟨r1, r2, r3, r4, r5⟩ := HR.out
      have s1 : Chg (fun y => y = g) w5 ((w5.setCell ⟨g, k * 2, none⟩ (.slice a5 x.1.n x.1.n)).setCell ⟨g, k * 2 + 1, none⟩ (.int .i64 x.1.id)) := ((Chg.refl (fun y => y = g) w5).set (C := fun y => y = g) (p := ⟨g, k * 2, none⟩) (fun _ => rfl) _).set (C := fun y => y = g) (p := ⟨g, k * 2 + 1, none⟩) (fun _ => rfl) _
      have hset := ownE_set (r3.up HU5.out) HLK.out ⟨a5, x.1.n, x.1.n, x.1.id⟩
      refine ⟨by simp [r1], ?_, ?_, fun p hp => ?_, ?_⟩
      · rw [List.map_append, r2, List.take_add_one, List.getElem?_eq_getElem HKL.out, List.map_append, ← HX.out]
        rfl
      · have e2 : (L1.map (·.1) ++ (L.map (·.1)).drop k).set k (⟨a5, x.1.n, x.1.n, x.1.id⟩ : ET) = (L1 ++ [((⟨a5, x.1.n, x.1.n, x.1.id⟩ : ET), x.2)]).map (·.1) ++ (L.map (·.1)).drop (k + 1) := by
          have hl1 : (L1.map (·.1)).length = k := by simp [r1]
          have hd : (L.map (·.1)).drop k = L[k].1 :: (L.map (·.1)).drop (k + 1) := by
            rw [List.drop_eq_getElem_cons (by simpa using HKL.out), List.getElem_map]; rfl
          rw [hd, List.set_append_right _ _ (by omega), hl1, Nat.sub_self, List.set_cons_zero, List.map_append]
          simp
        rw [e2] at hset
        exact hset
      · rcases List.mem_append.1 hp with hp | hp
        · exact ((r4 p hp).up HU5.out).chg (s1.mono (fun y _ e => .inr (by rw [show y = g from e]; rfl)))
        · obtain rfl := List.mem_singleton.1 hp
          have hw := r5.size
          have hk5 : KeyC (fun y => y < w.heap.size ∨ (Value.slice (some ⟨g, 0, none⟩) n1 c1).ownBlock = some y) w5 a5 x.1.n x.1.n x.2 := HN5.out.keyC HF5.out HKX.out.k.few HKX.out.k.sh (fun y hy => by
            rcases hy with hy | hy
            · omega
            · obtain rfl : g = y := Option.some.inj hy
              omega)
          exact hk5.chg (s1.mono (fun y _ e => .inr (by rw [show y = g from e]; rfl)))
      · exact up_of_chg_new (r5.trans HU5.out) s1 HBG.out
    · obtain rfl : k = n1 := by omega
      have t1 : decide ((k : Int) < (k : Int)) = false := decide_eq_false (by omega)
      have HR := hide hR.out
      clear hR r1 r2 r3 r4 r5
      go_wp2
      go_ret
      obtain ⟨r1, r2, r3, r4, r5⟩ := HR.out
      refine ⟨_, L1, rfl, ?_, ?_, r4, r5⟩
      · rw [List.drop_eq_nil_of_le (by simp; rw [← hnL.out]; exact Nat.le_refl _), List.append_nil] at r3
        exact r3
      · rw [r2, List.take_of_length_le (by rw [← hnL.out]; exact Nat.le_refl _)]
end Go.Proofs.YtnokokhbcfkifaaGreatDoor
