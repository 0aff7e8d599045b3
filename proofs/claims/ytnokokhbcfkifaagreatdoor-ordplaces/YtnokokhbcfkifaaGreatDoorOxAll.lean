/-
  ordidx's stored, All, EraseAt, InsertAt, as their texts run.
-/
import Derived.Test.YtnokokhbcfkifaaGreatDoorOxCopG
import Derived.Test.YtnokokhbcfkifaaGreatDoorTrSliE
namespace Go.Proofs.YtnokokhbcfkifaaGreatDoor
open Go.ChangeShapes Go.WideShapes Go.ChangeAt Go.RowKit
set_option linter.unusedVariables false
set_option maxRecDepth 100000
attribute [local go_sem ↓] Go.wp_at_zero Go.wp_at_succ

theorem olen_calls' (X T hh n : Nat) (xs : List ET) (w : World) (x2 : w.cell? ⟨X, 2, none⟩ = some (.pointer (some ⟨T, 0, none⟩))) (t : TrE w T xs hh n) :
    Calls Tryz.prog 25 #[.pointer (some ⟨X, 0, none⟩)] w fun e w' => e = .returned (.int .i64 xs.length) ∧ w' = w := by
  have HT := hide (tlenE_calls T hh n xs w t)
  clear t
  go_enter Tryz.func25, Tryz.ntmps25
  go_wp2_with fail
  refine HT.out.mono ?_
  rintro _ w1 ⟨rfl, rfl⟩
  dsimp only
  go_wp2
  go_ret
  exact ⟨rfl, rfl⟩
theorem cutL_all {α : Type} (l : List α) : cutL l 0 (l.length : Int) = l := by
  unfold cutL
  simp
set_option maxHeartbeats 4000000 in
theorem stored_calls (X T hh n : Nat) (xs : List ET) (w : World) (x2 : w.cell? ⟨X, 2, none⟩ = some (.pointer (some ⟨T, 0, none⟩))) (t : TrE w T xs hh n) (hx : xs.length ≤ 100000) :
    Calls Tryz.prog 46 #[.pointer (some ⟨X, 0, none⟩)] w fun e w' => AppPost w xs e w' := by
  have HLN : Hid (∀ w', Up w w' → Calls Tryz.prog 25 #[.pointer (some ⟨X, 0, none⟩)] w' fun e w'' => e = .returned (.int .i64 xs.length) ∧ Up w' w'') := fun w' hu => (olen_calls' X T hh n xs w' (hu.cell x2) (t.up hu)).mono (fun _ _ ⟨h1, h2⟩ => ⟨h1, by rw [h2]; exact Up.refl _⟩)
  have HSL : Hid (∀ w', Up w w' → Calls Tryz.prog 71 #[.pointer (some ⟨T, 0, none⟩), .int .i64 0, .int .i64 (xs.length : Int)] w' fun e w'' => AppPost w' xs e w'') := fun w' hu => by
    have hs := tslice_calls T hh n xs 0 (xs.length : Int) w' (t.up hu) hx
    rw [cutL_all] at hs
    exact hs
  have HKK : Hid (∀ w', Up w w' → (Up w w' ∧ w'.cell? ⟨X, 2, none⟩ = some (.pointer (some ⟨T, 0, none⟩)))) := fun w' hu => ⟨hu, hu.cell x2⟩
  clear t
  go_enter Tryz.func46, Tryz.ntmps46
  go_wp2_with fail
  have tok1 : True := trivial
  have tok2 : True := trivial
  go_region_held3 (fun w' => Up w w' ∧ w'.cell? ⟨X, 2, none⟩ = some (.pointer (some ⟨T, 0, none⟩))) (exact HKK.out _ (by repeat' (with_reducible first | assumption | exact Up.refl _ | apply Up.alloc | apply Up.drew)))
    (first
      | (clear tok1; go_at_call 25; refine (HLN.out _ (by repeat' (with_reducible first | assumption | exact Up.refl _ | apply Up.alloc | apply Up.drew))).mono ?_; rintro _ w5 ⟨rfl, hu5⟩; have hv5 : Up w w5 := Up.trans (by repeat' (with_reducible first | assumption | exact Up.refl _ | apply Up.alloc | apply Up.drew)) hu5; clear hu5)
      | (clear tok2; go_at_call 71; refine (HSL.out _ (by repeat' (with_reducible first | assumption | exact Up.refl _ | apply Up.alloc | apply Up.drew))).mono ?_; rintro _ w6 ⟨v6, rfl, ho6, hu6⟩; have hz6 := Up.size (w := w) (by repeat' (with_reducible first | assumption | exact Up.refl _ | apply Up.alloc | apply Up.drew)); have hv6 : Up w w6 := Up.trans (by repeat' (with_reducible first | assumption | exact Up.refl _ | apply Up.alloc | apply Up.drew)) hu6; replace ho6 := hide (OwnV.base ho6 hz6); clear hu6 hz6))
  all_goals
    have HV6 := hide hv6
    clear hv5 hv6
    obtain ⟨a6, n6, c6, rfl, -, -⟩ := ho6.out.sliceN
    go_wp2
    go_ret
    exact ⟨_, rfl, ho6.out, HV6.out⟩
theorem delL_map (L : List EP) (r : Nat) : (delL L r).map (·.1) = delL (L.map (·.1)) r := by
  unfold delL
  rw [List.map_append, List.map_take, List.map_drop]
theorem mem_delL {y : EP} {L : List EP} {r : Nat} (h : y ∈ delL L r) : y ∈ L := by
  unfold delL at h
  rcases List.mem_append.1 h with h | h
  · exact List.mem_of_mem_take h
  · exact List.mem_of_mem_drop h
set_option maxHeartbeats 4000000 in
theorem oeraseAt_ok (Y : Nat → Prop) (mp : Option Addr) (q mx nx X T : Nat) (u : Bool) (L : List EP) (hh n : Nat) (c t h s : Int) (j : Nat) (w : World) (i : IxW Y mp q mx nx X T u L hh n c t h s w) (hj : j < L.length) (hL : L.length ≤ 100000) (hn : n ≤ 9000000) :
    Calls Tryz.prog 20 #[.pointer (some ⟨X, 0, none⟩), .int .i64 j] w fun e w' => ∃ hh' n', e = .returned (.tuple #[encE L[j].1, .int .i64 0]) ∧ IxW Y mp q mx nx X T u (delL L j) hh' n' c t h s w' ∧ n' ≤ n + 19 ∧ Chg (fun y => y = T) w w' := by
  obtain ⟨W, hW⟩ : ∃ W, W = w.alloc (.cells #[.slice none 0 0, .int .i64 0] 51) := ⟨_, rfl⟩
  have uW : Up w W := by rw [hW]; exact (Up.refl _).alloc _
  have hB : Box2 w.heap.size W := by rw [hW]; exact ⟨by go_simp, by go_simp, by go_simp, by go_simp⟩
  have hWl : w.heap.size < W.heap.size := by rw [hW]; simp
  have iW := i.wide uW (Z := fun y => y = w.heap.size) (fun y hy => ⟨Nat.le_of_eq hy.symm, by rw [show y = w.heap.size from hy]; exact hWl⟩)
  have hh8 := i.tr.tr.hle (by simpa using hL)
  have her := eraseAtM_ok _ T hh n j zeroET (L.map (·.1)) W iW.aT iW.yl iW.tr (by simpa using hj) (by simpa using hL) (by omega)
  have e0 : (L.map (·.1)).getD j zeroET = L[j].1 := by rw [List.getD_eq_getElem?_getD, List.getElem?_map, List.getElem?_eq_getElem hj]; rfl
  rw [e0] at her
  obtain ⟨x, hx⟩ : ∃ x, x = L[j].1 := ⟨_, rfl⟩
  rw [← hx] at her ⊢
  unfold encE at her ⊢
  have HER := hide her
  have x2 := iW.x2
  have HIW := hide iW
  have HI := hide i
  have HB := hide hB
  have HUW := hide uW
  have hW' := hW.symm
  have hTR : Hid (w.heap.size ≠ T) := by have := i.tr.tr.lt; unfold Hid; omega
  clear i iW her hB uW hW e0 hx
  go_enter Tryz.func20, Tryz.ntmps20
  go_wp2_with fail
  clear hW'
  refine HER.out.mono ?_
  rintro _ w3 ⟨rfl, hh3, k3, ht3, hk31, hk32, hc3⟩
  obtain ⟨b0, b1, f0, f1⟩ := box_chg HB.out hc3 (fun e => hTR.out e)
  obtain ⟨v0, g0⟩ := Option.isSome_iff_exists.1 b0
  obtain ⟨v1, g1⟩ := Option.isSome_iff_exists.1 b1
  have s1 := set2_chg w3 w.heap.size (.slice x.a x.n x.c) (.int .i64 x.id)
  have HFIN : Hid (IxW Y mp q mx nx X T u (delL L j) hh3 (n + k3) c t h s (set2 w3 w.heap.size (.slice x.a x.n x.c) (.int .i64 x.id)) ∧ n + k3 ≤ n + 19 ∧ Chg (fun y => y = T) w (set2 w3 w.heap.size (.slice x.a x.n x.c) (.int .i64 x.id))) := by
    have a1 := World.block_lt_of_cell? w _ HI.out.cw.k0
    have a2 := World.block_lt_of_cell? w _ HI.out.cw.k1
    have a3 := World.block_lt_of_cell? w _ HI.out.cw.tab
    simp only at a1 a2 a3
    have j3 := HIW.out.tree hc3 (L' := delL L j) (by rw [delL_map]; exact ht3) (fun y hy => HIW.out.ke y (mem_delL hy))
    have j4 := j3.other s1 (fun y hy => .inr hy) (fun g hg e => by have := HI.out.ylt g hg; have e' : g = w.heap.size := e; omega) (fun e => by have e' : mx = w.heap.size := e; omega) (fun e => by have e' : nx = w.heap.size := e; omega) (fun e => by have e' : 0 = w.heap.size := e; rw [e'] at a3; omega)
    exact ⟨j4.narrow (fun y hy => .inl hy) HI.out.yM, by omega, ((Chg.of_up HUW.out).trans hc3 (fun _ _ h => h)).trans s1 (fun y hy e => by have e' : y = w.heap.size := e; omega)⟩
  have k0 : (set2 w3 w.heap.size (.slice x.a x.n x.c) (.int .i64 x.id)).cell? ⟨w.heap.size, 0, none⟩ = some (.slice x.a x.n x.c) := set2_c0 g0
  have k1 : (set2 w3 w.heap.size (.slice x.a x.n x.c) (.int .i64 x.id)).cell? ⟨w.heap.size, 1, none⟩ = some (.int .i64 x.id) := set2_c1 g1
  unfold set2 at k0 k1
  clear b0 b1 ht3 hc3 s1 HER
  dsimp only
  go_wp2
  exact bodyPost_ret (v := .tuple #[.agg #[.slice x.a x.n x.c, .int .i64 x.id], .int .i64 0]) (by simp [results, Tryz.results20, go_sem, k0, k1]) rfl ⟨hh3, n + k3, rfl, HFIN.out⟩
set_option maxHeartbeats 4000000 in
theorem oinsertAt_ok (Y : Nat → Prop) (mp : Option Addr) (q mx nx X T : Nat) (u : Bool) (L : List EP) (hh n : Nat) (c t h s : Int) (j : Nat) (ka : Option Addr) (kn kc : Nat) (m : List VT) (id : Int) (w : World) (i : IxW Y mp q mx nx X T u L hh n c t h s w) (kk : KeyK w ka kn m) (hj : j ≤ L.length) (hL : L.length ≤ 100000) (hn : n ≤ 9000000) :
    Calls Tryz.prog 21 #[.pointer (some ⟨X, 0, none⟩), .int .i64 j, .agg #[.slice ka kn kc, .int .i64 id]] w fun e w' => ∃ hh' n' x, e = .returned (.int .i64 0) ∧ IxW Y mp q mx nx X T u (insL (x, m) L j) hh' n' c t h s w' ∧ x.id = id ∧ x.n = kn ∧ n' ≤ n + 19 ∧ Chg (fun y => y = T) w w' := by
  have x2 := i.x2
  have HI := hide i
  have HK := hide kk
  clear i kk
  go_enter Tryz.func21, Tryz.ntmps21
  go_wp2_with fail
  obtain ⟨W, hW⟩ : ∃ W, W = w.alloc (.cells #[.slice ka kn kc, .int .i64 id] 51) := ⟨_, rfl⟩
  rw [← hW]
  have uW : Up w W := by rw [hW]; exact (Up.refl _).alloc _
  have d0 : W.cell? ⟨w.heap.size, 0, none⟩ = some (.slice ka kn kc) := by rw [hW]; go_simp
  have d1 : W.cell? ⟨w.heap.size, 1, none⟩ = some (.int .i64 id) := by rw [hW]; go_simp
  have hWl : w.heap.size < W.heap.size := by rw [hW]; simp
  have IXW := hide (HI.out.up uW)
  replace x2 := uW.cell x2
  have HUW := hide uW
  have HKW := hide (HK.out.up uW)
  clear hW uW HK
  have HCOP : Hid (∀ w', Up W w' → Calls Tryz.prog 40 #[.agg #[.slice ka kn kc, .int .i64 id]] w' fun e w'' => ∃ a', e = .returned (.agg #[.slice a' kn kn, .int .i64 id]) ∧ (NewRow w'.heap.size w'' a' kn m ∧ (∀ g, RowB a' g → w'.heap.size ≤ g ∧ g < w''.heap.size)) ∧ Up w' w'') := fun w' hw' => (oxcopy_calls ka kn kc id m w' HKW.out.few (HKW.out.up hw').vals HKW.out.sh).mono (fun _ _ ⟨a', h1, h2, h3, h4⟩ => ⟨a', h1, ⟨h2, h3⟩, h4⟩)
  have HINS : Hid (∀ (w5 w' : World) (a5 : Option Addr), Up W w5 → Up w5 w' → Calls Tryz.prog 39 #[.pointer (some ⟨T, 0, none⟩), .int .i64 (j : Int), .agg #[.slice a5 kn kn, .int .i64 id]] w' fun e w'' => e = .returned (.int .i64 0) ∧ TrDoneM Y T n hh (insL ⟨a5, kn, kn, id⟩ (L.map (·.1)) j) w5 w'') := fun w5 w' a5 h5 h' => by
    have i5 := IXW.out.up (h5.trans h')
    refine (insertAtM_ok Y T hh n j ⟨a5, kn, kn, id⟩ (L.map (·.1)) w' i5.aT i5.yl i5.tr (by simpa using hj) (by simpa using hL) (by omega)).mono ?_
    rintro _ w'' ⟨rfl, h1, k, h2, h3, h4, h6⟩
    exact ⟨rfl, h1, k, h2, h3, h4, (Chg.of_up h').trans h6 (fun _ _ h => h)⟩
  have hTl : T < w.heap.size := HI.out.tr.tr.lt
  have HKS : Hid (∀ w', Chg (fun y => y = T) W w' → (Chg (fun y => y = T) W w' ∧ w'.cell? ⟨X, 2, none⟩ = some (.pointer (some ⟨T, 0, none⟩)) ∧ w'.cell? ⟨w.heap.size, 0, none⟩ = some (.slice ka kn kc) ∧ w'.cell? ⟨w.heap.size, 1, none⟩ = some (.int .i64 id))) := fun w' hw => ⟨hw, hw.cell x2 (fun e => IXW.out.aX (.inl e)), hw.cell d0 (fun e => by have e' : w.heap.size = T := e; omega), hw.cell d1 (fun e => by have e' : w.heap.size = T := e; omega)⟩
  have tok1 : True := trivial
  have tok2 : True := trivial
  go_region_held3 (fun w' => Chg (fun y => y = T) W w' ∧ w'.cell? ⟨X, 2, none⟩ = some (.pointer (some ⟨T, 0, none⟩)) ∧ w'.cell? ⟨w.heap.size, 0, none⟩ = some (.slice ka kn kc) ∧ w'.cell? ⟨w.heap.size, 1, none⟩ = some (.int .i64 id)) (exact HKS.out _ (by repeat' (with_reducible first | assumption | exact Chg.refl _ _ | apply Chg.alloc | apply Chg.drew)))
    (first
      | (clear tok1; go_at_call 40; refine (HCOP.out _ (by repeat' (with_reducible first | assumption | exact Up.refl _ | apply Up.alloc | apply Up.drew))).mono ?_; rintro _ w5 ⟨a5, rfl, hn5, hu5⟩; have hv5 : Up W w5 := Up.trans (by repeat' (with_reducible first | assumption | exact Up.refl _ | apply Up.alloc | apply Up.drew)) hu5; have hx5 : Chg (fun y => y = T) W w5 := Chg.of_up hv5; replace hn5 := hide (newKey_low hn5 (Up.size (w := W) (by repeat' (with_reducible first | assumption | exact Up.refl _ | apply Up.alloc | apply Up.drew)))); clear hu5)
      | (clear tok2; go_at_call 39; refine (HINS.out w5 _ a5 hv5 (by repeat' (with_reducible first | assumption | exact Up.refl _ | apply Up.alloc | apply Up.drew))).mono ?_; rintro _ w6 ⟨rfl, hd6⟩; have hx6 : Chg (fun y => y = T) W w6 := hx5.trans hd6.chg (fun _ _ h => h); replace hd6 := hide hd6))
  all_goals
    have HV5 := hide hv5
    have HX6 := hide hx6
    clear hv5 hx5 hx6
    go_wp2_with fail
    go_ret
    obtain ⟨hh', k, ht6, hk61, hk62, hc6⟩ := hd6.out
    have hh8 := IXW.out.tr.tr.hle (by simpa using hL)
    refine ⟨hh', n + k, ⟨a5, kn, kn, id⟩, rfl, (IXW.out.up HV5.out).tree hc6 (by rw [insL_map]; exact ht6) (fun y hy => ?_), rfl, rfl, by omega, (Chg.of_up HUW.out).trans HX6.out (fun _ _ h => h)⟩
    rcases mem_insL hy with rfl | hy
    · exact hn5.out.1.keyC hn5.out.2 HKW.out.few HKW.out.sh (fun y hy => by
        rcases hy with rfl | hy
        · omega
        · exact IXW.out.yl y hy)
    · exact (IXW.out.ke y hy).up HV5.out
end Go.Proofs.YtnokokhbcfkifaaGreatDoor
