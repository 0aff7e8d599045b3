/-
  What container/heap's Init, Fix, Pop and Push do with whatever they are handed, as their text runs.
-/
import Derived.Test.YtcemdiloiachlaaHeapWalk
namespace Go.Proofs.Ytcemdiloiachlaa
open Go.ChangeShapes Go.WideShapes Go.ChangeAt Go.RowKit
set_option linter.unusedVariables false

section
variable {α : Type} {z : α} {ah : α → α → Bool} {ok : α → Prop} {T : TypeId} {v : Value} {C : Nat → Prop} {st : World → List α → Prop}

set_option maxRecDepth 20000 in
set_option maxHeartbeats 8000000 in
theorem init_calls (P : Pile z ah ok T v C st) (w : World) (xs : List α) (hs : st w xs) (hok : ∀ k, k < xs.length → ok (xs.getD k z)) :
    Calls Try.prog 31 #[.iface T v] w fun e w' => e = .returned (.tuple #[]) ∧ st w' (initL z ah (xs.length / 2) xs) ∧ Chg C w w' := by
  have hsm := P.small w xs hs
  obtain ⟨R, hR⟩ : ∃ R, R = initL z ah (xs.length / 2) xs := ⟨_, rfl⟩
  rw [← hR]
  obtain ⟨f, r, ⟨hm, hcf⟩, hcl⟩ := P.len w xs hs
  obtain ⟨N, hN⟩ : ∃ N, N = xs.length := ⟨_, rfl⟩
  rw [← hN] at hsm hok hR hcl
  have HS := hide hs
  have HO := hide hok
  have HR := hide hR
  have HN := hide hN
  clear hs hok hR hN
  have hP := hide P
  clear P
  replace hcl := hide hcl
  go_enter Try.func31, Try.ntmps31
  go_wp2_with fail
  refine hcl.out.mono ?_
  rintro _ w9 ⟨rfl, hw9⟩
  obtain rfl : w = w9 := hw9.symm
  clear hw9
  clear hm hcl
  go_wp2_with fail
  go_loopw [3] (fun u wr => ∃ (k : Nat) (ys : List α), k ≤ N / 2 ∧ u = .int .i64 ((k : Int) - 1) ∧ N = ys.length ∧ st wr ys ∧ (∀ j, j < N → ok (ys.getD j z)) ∧ R = initL z ah k ys ∧ Chg C w wr) (fun u _ => (intOf u + 1).toNat)
  case atStart => exact ⟨N / 2, xs, Nat.le_refl _, by go_num, HN.out, HS.out, HO.out, HR.out, Chg.refl _ _⟩
  case round =>
    obtain ⟨k, ys, hk, rfl, hn', hst, hok, hR, hc⟩ := hrel
    cases k with
    | zero =>
      have t1 : decide ((((0 : Nat) : Int) - 1) ≥ 0) = false := by decide
      have e : R = ys := hR
      subst e
      replace hst := hide hst
      replace hc := hide hc
      clear hok hR HR HO HS
      go_wp2
      go_end0
      exact ⟨rfl, hst.out, hc.out⟩
    | succ k =>
      have e0 : (((k + 1 : Nat) : Int) - 1) = k := by omega
      rw [e0]
      have t1 : decide ((k : Int) ≥ 0) = true := decide_eq_true (by omega)
      have HST := hide hst
      have HOK := hide hok
      replace HR := hide hR
      have HC := hide hc
      have HN' := hide hn'
      clear hst hok hR hc hn' e0
      go_wp2_with fail
      go_at_call 34
      refine (down_calls hP.out k N wr ys HST.out (by omega) (by have := HN'.out; omega) HOK.out).mono ?_
      rintro _ w2 ⟨⟨b, rfl⟩, hs2, hc2⟩
      have HST2 := hide hs2
      replace HC := hide (HC.out.trans hc2 (fun _ _ h => h))
      clear hs2 hc2
      go_wp2
      go_roundw
      case rel =>
        refine ⟨k, downL z ah N ys k N, by omega, by go_num, by rw [downL_length]; exact HN'.out, HST2.out, downL_ok z ah _ _ _ _ (by have := HN'.out; omega) HOK.out, ?_, HC.out⟩
        rw [HR.out, initL, HN'.out]
      case measure => simp [intOf]

set_option maxRecDepth 20000 in
set_option maxHeartbeats 8000000 in
theorem fix_calls (P : Pile z ah ok T v C st) (w : World) (xs : List α) (hs : st w xs) (hok : ∀ k, k < xs.length → ok (xs.getD k z)) :
    Calls Try.prog 32 #[.iface T v, .int .i64 0] w fun e w' => e = .returned (.tuple #[]) ∧ st w' (fixL z ah xs) ∧ Chg C w w' := by
  have hsm := P.small w xs hs
  obtain ⟨f, r, ⟨hm, hcf⟩, hcl⟩ := P.len w xs hs
  have HS := hide hs
  have HO := hide hok
  clear hs hok
  have hP := hide P
  clear P
  replace hcl := hide hcl
  go_enter Try.func32, Try.ntmps32
  go_wp2_with fail
  refine hcl.out.mono ?_
  rintro _ w9 ⟨rfl, hw9⟩
  obtain rfl : w = w9 := hw9.symm
  clear hw9
  clear hm hcl
  go_wp2_with fail
  go_at_call 34
  refine (down_calls hP.out 0 xs.length w xs HS.out (by omega) (Nat.le_refl _) HO.out).mono ?_
  rintro _ w2 ⟨⟨b, rfl⟩, hs2, hc2⟩
  replace hs2 : st w2 (fixL z ah xs) := hs2
  have HO2 : Hid (∀ k, k < (fixL z ah xs).length → ok ((fixL z ah xs).getD k z)) := by
    have e : (fixL z ah xs).length = xs.length := downL_length z ah _ _ _ _
    rw [e]
    exact downL_ok z ah _ _ _ _ (Nat.le_refl _) HO.out
  replace hs2 := hide hs2
  replace hc2 := hide hc2
  cases b with
  | true =>
    go_wp2
    go_end0
    exact ⟨rfl, hs2.out, hc2.out⟩
  | false =>
    go_wp2_with fail
    go_at_call 33
    refine (up_calls hP.out 0 w2 _ hs2.out (.inr rfl) HO2.out).mono ?_
    rintro _ w3 ⟨rfl, hs3, hc3⟩
    replace hs3 := hide (show st w3 (fixL z ah xs) from hs3)
    replace hc3 := hide (hc2.out.trans hc3 (fun _ _ h => h))
    go_wp2
    go_end0
    exact ⟨rfl, hs3.out, hc3.out⟩

set_option maxRecDepth 20000 in
set_option maxHeartbeats 8000000 in
theorem pop_calls (P : Pile z ah ok T v C st) (w : World) (xs : List α) (hs : st w xs) (h0 : 0 < xs.length) (hok : ∀ k, 0 < k → k < xs.length → ok (xs.getD k z))
    (hpop : ∀ w ys, st w ys → 0 < ys.length → ∃ f r, Meth T v "Pop" w f r ∧ Calls Try.prog f #[r] w fun e w' => (∃ x, e = .returned x) ∧ st w' (ys.take (ys.length - 1)) ∧ Chg C w w') :
    Calls Try.prog 28 #[.iface T v] w fun e w' => (∃ x, e = .returned x) ∧ st w' (popL z ah xs) ∧ Chg C w w' := by
  have hsm := P.small w xs hs
  obtain ⟨f, r, ⟨hm, hcf⟩, hcl⟩ := P.len w xs hs
  obtain ⟨N, hN⟩ : ∃ N, xs.length = N + 1 := ⟨xs.length - 1, by omega⟩
  have eN : ((xs.length : Nat) : Int) = (N : Int) + 1 := by omega
  rw [eN] at hcl
  have HS := hide hs
  have HO := hide hok
  have HPO := hide hpop
  have HN := hide hN
  obtain ⟨fs, rs, ⟨hms, hcfs⟩, hcs⟩ := P.swap w xs 0 N hs (by omega) (by omega) (by omega)
  have hP := hide P
  clear hs hok hpop P eN
  replace hcl := hide hcl
  replace hcs := hide hcs
  replace hms := hide hms
  go_enter Try.func28, Try.ntmps28
  go_wp2_with fail
  refine hcl.out.mono ?_
  rintro _ w9 ⟨rfl, hw9⟩
  obtain rfl : w = w9 := hw9.symm
  clear hw9
  clear hm hcl
  have hm := hms.out
  have hx : (N : Int) + 1 - 1 = N := by omega
  go_wp2_with fail
  refine hcs.out.mono ?_
  rintro _ w1 ⟨rfl, hs1, hc1⟩
  clear hm hcs hms
  have HS1 := hide hs1
  have HC := hide hc1
  have HO1 : Hid (∀ k, k < N → ok ((swapL z xs 0 N).getD k z)) := fun k hk => by
    have h1 := HN.out
    rw [swapL_getD z (by omega) (by omega), if_neg (by omega)]
    split
    · exact HO.out N (by omega) (by omega)
    · exact HO.out k (by omega) (by omega)
  clear hs1 hc1
  go_wp2_with fail
  go_at_call 34
  refine (down_calls hP.out 0 N w1 _ HS1.out (by omega) (by have := HN.out; rw [swapL_length]; omega) HO1.out).mono ?_
  rintro _ w2 ⟨⟨b, rfl⟩, hs2, hc2⟩
  obtain ⟨fp, rp, ⟨hmp, hcfp⟩, hcp⟩ := HPO.out w2 _ hs2 (by rw [downL_length, swapL_length]; exact h0)
  have e : (downL z ah N (swapL z xs 0 N) 0 N).take ((downL z ah N (swapL z xs 0 N) 0 N).length - 1) = popL z ah xs := by
    unfold popL
    rw [downL_length, swapL_length, HN.out]
    rfl
  rw [e] at hcp
  clear e
  replace HC := hide (HC.out.trans hc2 (fun _ _ h => h))
  replace hcp := hide hcp
  clear hs2 hc2
  go_wp2_with fail
  refine hcp.out.mono ?_
  rintro _ w3 ⟨⟨x, rfl⟩, hs3, hc3⟩
  replace hs3 := hide hs3
  replace HC := hide (HC.out.trans hc3 (fun _ _ h => h))
  clear hc3
  go_wp2
  go_ret
  exact ⟨⟨_, rfl⟩, hs3.out, HC.out⟩
end

set_option maxRecDepth 20000 in
set_option maxHeartbeats 8000000 in
theorem push_calls {α : Type} {z : α} {ah : α → α → Bool} {T : TypeId} {v : Value} {C : Nat → Nat → Prop} {st : Nat → World → List α → Prop} (P : ∀ b, Pile z ah (fun _ => True) T v (C b) (st b)) (b : Nat) (w : World) (xs : List α) (a : α) (x : Value) (hs : st b w xs)
    (hC : ∀ b' x, C b' x → C b x ∨ x = b')
    (hpush : ∃ f r, Meth T v "Push" w f r ∧ Calls Try.prog f #[r, x] w fun e w' => e = .returned (.tuple #[]) ∧ ∃ b', st b' w' (xs ++ [a]) ∧ Chg (C b) w w' ∧ (b' = b ∨ w.heap.size ≤ b')) :
    Calls Try.prog 27 #[.iface T v, x] w fun e w' => e = .returned (.tuple #[]) ∧ ∃ b', st b' w' (pushL z ah xs a) ∧ Chg (C b) w w' ∧ (b' = b ∨ w.heap.size ≤ b') := by
  obtain ⟨f, r, ⟨hm, hcf⟩, hcl⟩ := hpush
  have HP := hide P
  have HC := hide hC
  replace hcl := hide hcl
  clear P hC
  go_enter Try.func27, Try.ntmps27
  go_wp2_with fail
  refine hcl.out.mono ?_
  rintro _ w1 ⟨rfl, b', hs1, hc1, hb⟩
  have hsm := (HP.out b').small w1 _ hs1
  obtain ⟨f1, r1, ⟨hm1, hcf1⟩, hcl1⟩ := (HP.out b').len w1 _ hs1
  rw [show (((xs ++ [a]).length : Nat) : Int) = (xs.length : Int) + 1 by simp] at hcl1
  rw [List.length_append] at hsm
  have hx : (xs.length : Int) + 1 - 1 = xs.length := by omega
  have HS1 := hide hs1
  have HC1 := hide hc1
  have HB := hide hb
  replace hcl1 := hide hcl1
  clear hm hcl hs1 hc1 hb
  simp only [List.length_singleton] at hsm
  go_wp2_with fail
  refine hcl1.out.mono ?_
  rintro _ w9 ⟨rfl, hw9⟩
  obtain rfl : w1 = w9 := hw9.symm
  clear hw9
  clear hm1 hcl1
  go_wp2_with fail
  go_at_call 33
  refine (up_calls (HP.out b') xs.length w1 _ HS1.out (.inl (by simp)) (fun _ _ => trivial)).mono ?_
  rintro _ w2 ⟨rfl, hs2, hc2⟩
  replace hs2 : Hid (st b' w2 (pushL z ah xs a)) := hs2
  replace HC1 : Hid (Chg (C b) w w2) := HC1.out.trans hc2 (fun x hx hd => (HC.out b' x hd).elim id (fun e => by rcases HB.out with h | h <;> first | (subst h; exact hd) | omega))
  clear hc2
  go_wp2
  go_end0
  exact ⟨rfl, b', hs2.out, HC1.out, HB.out⟩

end Go.Proofs.Ytcemdiloiachlaa
