/-
  What container/heap's Init, Fix, Pop and Push do with whatever they are handed, as their text runs.
-/
import Derived.Test.YtaodekbpjkcpeaaHeapWalk
namespace Go.Proofs.Ytaodekbpjkcpeaa
open Go.ChangeShapes Go.WideShapes Go.ChangeAt Go.RowKit
set_option linter.unusedVariables false

section
variable {α : Type} {z : α} {ah : α → α → Bool} {ok : α → Prop} {T : TypeId} {v : Value} {C : Nat → Prop} {st : World → List α → Prop}

set_option maxRecDepth 20000 in
set_option maxHeartbeats 8000000 in
theorem pop_calls (P : Pile z ah ok T v C st) (w : World) (xs : List α) (hs : st w xs) (h0 : 0 < xs.length) (hok : ∀ k, 0 < k → k < xs.length → ok (xs.getD k z))
    (hpop : ∀ w ys, st w ys → 0 < ys.length → ∃ f r, Meth T v "Pop" w f r ∧ Calls Try.prog f #[r] w fun e w' => (∃ x, e = .returned x) ∧ st w' (ys.take (ys.length - 1)) ∧ Chg C w w') :
    Calls Try.prog 56 #[.iface T v] w fun e w' => (∃ x, e = .returned x) ∧ st w' (popL z ah xs) ∧ Chg C w w' := by
  have hsm := P.small w xs hs
  obtain ⟨f, r, ⟨hm, hcf⟩, hcl⟩ := P.len w xs hs
  obtain ⟨N, hN⟩ : ∃ N, xs.length = N + 1 := ⟨xs.length - 1, by omega⟩
  have eN : ((xs.length : Nat) : Int) = (N : Int) + 1 := by omega
  rw [eN] at hcl
  have HS := hide hs
  have HO := hide hok
  have HPO := hide hpop
  have HN := hide hN
  obtain ⟨fs, rs, ⟨hms, hcfs⟩, hcs⟩ := P.swap w xs 0 N hs (by omega) (by omega) (by omega)
  have hP := hide P
  clear hs hok hpop P eN
  replace hcl := hide hcl
  replace hcs := hide hcs
  replace hms := hide hms
  go_enter Try.func56, Try.ntmps56
  go_wp2_with fail
  refine hcl.out.mono ?_
  rintro _ w9 ⟨rfl, hw9⟩
  obtain rfl : w = w9 := hw9.symm
  clear hw9
  clear hm hcl
  have hm := hms.out
  have hx : (N : Int) + 1 - 1 = N := by omega
  go_wp2_with fail
  refine hcs.out.mono ?_
  rintro _ w1 ⟨rfl, hs1, hc1⟩
  clear hm hcs hms
  have HS1 := hide hs1
  have HC := hide hc1
  have HO1 : Hid (∀ k, k < N → ok ((swapL z xs 0 N).getD k z)) := fun k hk => by
    have h1 := HN.out
    rw [swapL_getD z (by omega) (by omega), if_neg (by omega)]
    split
    · exact HO.out N (by omega) (by omega)
    · exact HO.out k (by omega) (by omega)
  clear hs1 hc1
  go_wp2_with fail
  go_at_call 63
  refine (down_calls hP.out 0 N w1 _ HS1.out (by omega) (by have := HN.out; rw [swapL_length]; omega) HO1.out).mono ?_
  rintro _ w2 ⟨⟨b, rfl⟩, hs2, hc2⟩
  obtain ⟨fp, rp, ⟨hmp, hcfp⟩, hcp⟩ := HPO.out w2 _ hs2 (by rw [downL_length, swapL_length]; exact h0)
  have e : (downL z ah N (swapL z xs 0 N) 0 N).take ((downL z ah N (swapL z xs 0 N) 0 N).length - 1) = popL z ah xs := by
    unfold popL
    rw [downL_length, swapL_length, HN.out]
    rfl
  rw [e] at hcp
  clear e
  replace HC := hide (HC.out.trans hc2 (fun _ _ h => h))
  replace hcp := hide hcp
  clear hs2 hc2
  go_wp2_with fail
  refine hcp.out.mono ?_
  rintro _ w3 ⟨⟨x, rfl⟩, hs3, hc3⟩
  replace hs3 := hide hs3
  replace HC := hide (HC.out.trans hc3 (fun _ _ h => h))
  clear hc3
  go_wp2
  go_ret
  exact ⟨⟨_, rfl⟩, hs3.out, HC.out⟩
end

set_option maxRecDepth 20000 in
set_option maxHeartbeats 8000000 in
theorem push_calls {α : Type} {z : α} {ah : α → α → Bool} {T : TypeId} {v : Value} {C : Nat → Nat → Prop} {st : Nat → World → List α → Prop} (P : ∀ b, Pile z ah (fun _ => True) T v (C b) (st b)) (b : Nat) (w : World) (xs : List α) (a : α) (x : Value) (hs : st b w xs)
    (hC : ∀ b' x, C b' x → C b x ∨ x = b')
    (hpush : ∃ f r, Meth T v "Push" w f r ∧ Calls Try.prog f #[r, x] w fun e w' => e = .returned (.tuple #[]) ∧ ∃ b', st b' w' (xs ++ [a]) ∧ Chg (C b) w w' ∧ (b' = b ∨ w.heap.size ≤ b')) :
    Calls Try.prog 34 #[.iface T v, x] w fun e w' => e = .returned (.tuple #[]) ∧ ∃ b', st b' w' (pushL z ah xs a) ∧ Chg (C b) w w' ∧ (b' = b ∨ w.heap.size ≤ b') := by
  obtain ⟨f, r, ⟨hm, hcf⟩, hcl⟩ := hpush
  have HP := hide P
  have HC := hide hC
  replace hcl := hide hcl
  clear P hC
  go_enter Try.func34, Try.ntmps34
  go_wp2_with fail
  refine hcl.out.mono ?_
  rintro _ w1 ⟨rfl, b', hs1, hc1, hb⟩
  have hsm := (HP.out b').small w1 _ hs1
  obtain ⟨f1, r1, ⟨hm1, hcf1⟩, hcl1⟩ := (HP.out b').len w1 _ hs1
  rw [show (((xs ++ [a]).length : Nat) : Int) = (xs.length : Int) + 1 by simp] at hcl1
  rw [List.length_append] at hsm
  have hx : (xs.length : Int) + 1 - 1 = xs.length := by omega
  have HS1 := hide hs1
  have HC1 := hide hc1
  have HB := hide hb
  replace hcl1 := hide hcl1
  clear hm hcl hs1 hc1 hb
  simp only [List.length_singleton] at hsm
  go_wp2_with fail
  refine hcl1.out.mono ?_
  rintro _ w9 ⟨rfl, hw9⟩
  obtain rfl : w1 = w9 := hw9.symm
  clear hw9
  clear hm1 hcl1
  go_wp2_with fail
  go_at_call 46
  refine (up_calls (HP.out b') xs.length w1 _ HS1.out (.inl (by simp)) (fun _ _ => trivial)).mono ?_
  rintro _ w2 ⟨rfl, hs2, hc2⟩
  replace hs2 : Hid (st b' w2 (pushL z ah xs a)) := hs2
  replace HC1 : Hid (Chg (C b) w w2) := HC1.out.trans hc2 (fun x hx hd => (HC.out b' x hd).elim id (fun e => by rcases HB.out with h | h <;> first | (subst h; exact hd) | omega))
  clear hc2
  go_wp2
  go_end0
  exact ⟨rfl, b', hs2.out, HC1.out, HB.out⟩

end Go.Proofs.Ytaodekbpjkcpeaa
