/-
  The library's ordered sort of at most 256 bytes.
-/
import Derived.Test.YtmbniakobhaomaaBySml
import Derived.Test.YtmbniakobhaomaaBySrZ
namespace Go.Proofs.Ytmbniakobhaomaa
open Go.ChangeShapes Go.WideShapes Go.ChangeAt Go.RowKit
open Go.Sort (swp PermIn SortedIn pdq bitsLen)
set_option linter.unusedVariables false
set_option maxRecDepth 100000

set_option maxHeartbeats 4000000 in
theorem sort_many : SortBy 256 := by
  intro w base v ks ho hl
  by_cases h12 : ks.length ≤ 12
  · exact sort_few w base v ks ho h12
  have hq : ∀ r : Nat, r ≤ 255 → Calls Try.prog 55 #[v, .int .i64 0, .int .i64 ks.length, .int .i64 r] w fun e w' => e = .returned (.tuple #[]) ∧ ∃ ks' : List UInt8, ks'.Perm ks ∧ ks'.Pairwise (fun a b => a ≤ b) ∧ Sl w' v ks' ∧ Chg (fun y => v.ownBlock = some y) w w' := by
    intro r hr
    have ho0 := ho
    rcases ho.2 with ⟨rfl, h0⟩ | ⟨g, cap, cur, rfl, hb, hg, hc, hm, hs, ht⟩
    · exact absurd h0 (by omega)
    · have hgl : g < w.heap.size := by
        rcases Nat.lt_or_ge g w.heap.size with h | h
        · exact h
        · rw [Array.getElem?_eq_none h] at hg; cases hg
      have hBel : Go.Sort.Below ltB 0 ks.length (byI ks) := .inl rfl
      refine (pdq_calls g cap ks.length w okB hgl hl (ks.length + 1) 0 ks.length r (byI ks) w (by omega) (own_srt ho0) (Nat.zero_le _) (Nat.le_refl _) (by omega) hBel).mono ?_
      rintro _ w' ⟨rfl, hs'⟩
      obtain ⟨ks', h1, h2, h3⟩ := srt_bytes hs'
      obtain ⟨h4, h5⟩ := Go.Sort.pdq_sorts ltB ltB_swo (byI ks) 0 ks.length r true true (Nat.zero_le _) (by rw [byI_size]; exact Nat.le_refl _) hBel
      rw [h2] at h4 h5
      rw [← h1] at h5
      refine ⟨rfl, ks', perm_bytes h4 h1, sorted_bytes h5, ⟨some ⟨g, 0, none⟩, cap, by rw [h1], by rw [h1]; exact hc, hm, rfl, ?_⟩, hs'.chg.mono (fun y _ (e : y = g) => by rw [e]; rfl)⟩
      rw [h1]
      exact .inr ⟨g, 0, rfl, fun i hi => by rw [Nat.zero_add]; exact h3 i hi⟩
  have HQ := hide hq
  obtain ⟨a, cap, hv⟩ : ∃ a cap, v = .slice a ks.length cap := by
    obtain ⟨a, c, h, _⟩ := ho.bts
    exact ⟨a, c, h⟩
  have ew : IntKind.u64.wrap (ks.length : Int) = ks.length := by simp [IntKind.wrap, IntKind.bits, IntKind.signed]; omega
  clear hq ho
  subst hv
  generalize hN : ks.length = N at *
  replace hN := hide hN
  have h9 : bitsLen N ≤ 255 := by have := bitsLen_9 N hl; omega
  go_enter Try.func49, Try.ntmps49
  go_wp2_with fail
  go_at_call 56
  refine (len_at N w hl).mono ?_
  rintro _ w9 ⟨rfl, hw9⟩
  obtain rfl : w = w9 := hw9.symm
  go_wp2_with fail
  go_at_call 55
  refine (HQ.out _ h9).mono ?_
  rintro _ w9 ⟨rfl, hq⟩
  replace hq := hide hq
  clear HQ
  go_wp2
  go_end0
  exact ⟨rfl, hq.out⟩

end Go.Proofs.Ytmbniakobhaomaa
