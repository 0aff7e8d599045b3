/-
  write, nodes, joined, halves of a counted tree of whole numbers, as their text runs.
-/
import Derived.Test.YtcaccbjolgjmkaaTrFnI
namespace Go.Proofs.Ytcaccbjolgjmkaa
open Go.ChangeShapes Go.WideShapes Go.ChangeAt Go.RowKit
set_option linter.unusedVariables false
set_option maxRecDepth 100000
attribute [local go_sem ↓] Go.wp_at_zero Go.wp_at_succ

set_option maxHeartbeats 2000000 in
theorem writeI_walk (T n : Nat) (tv : Value) (X : Nat → Prop) (ae ab : Option Addr) (ne ce nb cb : Nat) (L : List (Nat × List Int)) (w : World) (hT : TrC w T tv n) (hX : X T) (hr : Rd pE X w (.slice ab nb cb) (L.map (·.1))) (hk : ∀ q ∈ L, ¬ X q.1 ∧ w.cell? ⟨q.1, 2, none⟩ = some (.int .i64 q.2.length)) (hbig : ne + (L.flatMap (·.2)).length ≤ 1000000) (hL6 : L.length ≤ 1000) (hn : n ≤ 1000000000) :
    Calls Try.prog 62 #[.pointer (some ⟨T, 0, none⟩), .agg #[.slice ae ne ce, .slice ab nb cb]] w fun e w' => WritePost T tv n (.slice ae ne ce) (.slice ab nb cb) (ne + (L.flatMap (·.2)).length) w e w' := by
  have hTl : T < w.heap.size := World.block_lt_of_cell? w _ hT.c0
  obtain ⟨c0, c1, f0, f1⟩ := hT
  have HR := hide hr
  have HK := hide hk
  have HB := hide hbig
  clear hr hk hbig
  have e1 : IntKind.i64.wrap ((n : Int) + 1) = ((n + 1 : Nat) : Int) := by rw [IntKind.wrap_i64]; omega
  go_enter Try.func62, Try.ntmps62
  go_wp2_with fail
  generalize hW : ((w.setCell ⟨T, 1, none⟩ (.int .i64 ((n : Int) + 1))).alloc (.cells #[.slice ae ne ce, .slice ab nb cb] 64)).alloc (.cells #[.slice ae ne ce, .slice ab nb cb, .int .i64 ne] 66) = W
  obtain ⟨hT1, n0, n1, n2, nf, hch, hsz⟩ := write_world w T n tv _ _ ne _ _ ⟨c0, c1, f0, f1⟩ W (by rw [← hW]; rfl)
  have HT := hide hT1
  have HC := hide hch
  have HS := hide hsz
  clear c0 c1 f0 f1 hT1 hch hsz hW
  obtain ⟨nbk, hnb⟩ : ∃ nbk, nbk = w.heap.size + 1 := ⟨_, rfl⟩
  rw [← hnb] at n0 n1 n2 nf ⊢
  replace hnb := hide hnb
  have hLn : nb = L.length := by
    obtain ⟨_, _, _, h1, _⟩ := HR.out.sliceN
    obtain ⟨_, _, h2, _⟩ := HR.out
    cases h2; simp
  have hnm : nb ≤ 1000000000000 := by
    rw [hLn]; exact Nat.le_trans hL6 (by decide)
  replace hLn := hide hLn
  go_loopw [24] (fun iv wr => ∃ i c : Nat, i ≤ nb ∧ c ≤ 1000000 ∧ iv = .int .i64 i ∧ Hid (c = ne + ((L.take i).flatMap (·.2)).length) ∧ wr.cell? ⟨nbk, 0, none⟩ = some (.slice ae ne ce) ∧ wr.cell? ⟨nbk, 1, none⟩ = some (.slice ab nb cb) ∧ wr.cell? ⟨nbk, 2, none⟩ = some (.int .i64 c) ∧ wr.frozen? ⟨nbk, 2, none⟩ = false ∧ Hid (TrC wr T tv (n + 1)) ∧ Hid (Chg (fun y => y = T) w wr) ∧ Hid (nbk < wr.heap.size)) (fun iv _ => nb - (intOf iv).toNat)
  case atStart => exact ⟨0, ne, Nat.zero_le _, by have := HB.out; omega, rfl, by unfold Hid; simp, n0, n1, n2, nf, HT, HC, by unfold Hid; rw [hnb.out, HS.out]; omega⟩
  case round =>
    obtain ⟨i, c, hi, hc, rfl, hcc, n0, n1, n2, nf, hT, hch, hlt⟩ := hrel
    by_cases hin : i < nb
    · have hil : i < L.length := by rw [← hLn.out]; exact hin
      obtain ⟨g, off, rfl, hg⟩ := HR.out.get (i := i) (by rw [List.length_map]; exact hil)
      rw [List.getElem_map] at hg
      obtain ⟨hxq, hq⟩ := HK.out _ (List.getElem_mem hil)
      obtain ⟨_, _, hv, _, _, hv2⟩ := HR.out
      have hgX : ¬ X g := by
        cases hv
        rcases hv2 with hv2 | ⟨g', off', h1, h2, _⟩
        · have := congrArg List.length hv2; simp at this; rw [this] at hil; simp at hil
        · cases h1; exact h2
      clear hv hv2
      replace hg := hch.out.cell hg (fun e => hgX (by rw [show g = T from e]; exact hX))
      replace hq := hch.out.cell hq (fun e => hxq (by rw [show L[i].1 = T from e]; exact hX))
      have hcat := cat_le L i hil
      have hcat2 := cat_le2 L (i + 1) (n := (L.flatMap (·.2)).length) (Nat.le_refl _)
      obtain ⟨kb, hkb⟩ : ∃ kb, kb = L[i].1 := ⟨_, rfl⟩
      obtain ⟨kn, hkn⟩ : ∃ kn, kn = L[i].2.length := ⟨_, rfl⟩
      rw [← hkb] at hg hq
      rw [← hkn] at hq hcat
      have hck : c + kn ≤ 1000000 := by have := hcc.out; have := HB.out; omega
      have HCAT := hide hcat
      have i0 : (0 : Int) ≤ (i : Int) := by omega
      have i1 : (i : Int) < (nb : Int) := by omega
      have e3 : IntKind.i64.wrap ((c : Int) + (kn : Int)) = ((c + kn : Nat) : Int) := by rw [IntKind.wrap_i64]; omega
      have e2 : IntKind.i64.wrap ((i : Int) + 1) = (i : Int) + 1 := by rw [IntKind.wrap_i64]; omega
      unfold pE at hg
      clear hkb hkn hcat hcat2 hxq hgX hil
      go_wp2_with fail
      go_region
      all_goals
        go_wp2
        go_roundw
        case rel =>
          have hq := hnb.out
          obtain ⟨m0, m1, m2, m3, m4, m5, m6⟩ := set_count (v := .int .i64 ((c : Int) + (kn : Int))) n0 n1 n2 nf hT.out hch.out hlt.out (by omega) (by omega)
          exact ⟨i + 1, c + kn, by omega, hck, by first | rfl | congr 1, by unfold Hid; rw [← HCAT.out, hcc.out]; omega, m0, m1, m2, m3, m4, m5, m6⟩
        case measure => simp [intOf]; omega
    · obtain rfl : nb = i := by omega
      have hlt' : ¬ (nb : Int) < (nb : Int) := by omega
      go_wp2
      go_ret
      refine ⟨nbk, rfl, by rw [hnb.out]; omega, hlt.out, n0, n1, ?_, hT.out, hch.out⟩
      rw [n2, hcc.out, List.take_of_length_le (by rw [← hLn.out]; exact Nat.le_refl _)]
      simp [List.length_flatMap]

/-- A node is written. -/
def WrotePostI (X : Nat → Prop) (T : Nat) (tv : Value) (n h : Nat) (xs : List Int) (s : Nat) (w : World) (e : Ending) (w' : World) : Prop :=
  ∃ b, e = .returned (pE b) ∧ Nd (Value.int .i64) X w' h b xs s ∧ TrC w' T tv (n + 1) ∧ Chg (fun y => y = T) w w'
theorem writeI_calls (X : Nat → Prop) (T n : Nat) (tv : Value) (h : Nat) (ve vb : Value) (xs : List Int) (s : Nat) (w : World) (hT : TrC w T tv n) (hX : X T) (hXo : ∀ y, X y → y < w.heap.size) (hl : Ld (Value.int .i64) X w h ve vb xs s) (hs : s ≤ 1000) (hbig : xs.length ≤ 1000000) (hn : n ≤ 1000000000) :
    Calls Try.prog 62 #[.pointer (some ⟨T, 0, none⟩), .agg #[ve, vb]] w fun e w' => WrotePostI X T tv n h xs s w e w' := by
  have hl0 := hl
  cases h with
  | zero =>
    obtain ⟨⟨ae, ce, rfl, _⟩, ⟨ab, cb, rfl, hcb⟩, rfl⟩ := hl
    refine (writeI_walk T n tv X ae ab xs.length ce 0 cb [] w hT hX ⟨ab, cb, rfl, Nat.zero_le _, hcb, .inl rfl⟩ (fun q hq => absurd hq (by simp)) (by simpa using hbig) (by simp) hn).mono ?_
    rintro e w' ⟨b, rfl, h1, h2, h3, h4, h5, h6, h7⟩
    have hc : Chg X w w' := h7.mono (fun y _ e => by rw [show y = T from e]; exact hX)
    exact ⟨b, rfl, nd_iff.2 ⟨_, _, ⟨fun hx => by have := hXo b hx; omega, h3, h4, by simpa using h5⟩, hl0.chg hc⟩, h6, h7⟩
  | succ h =>
    obtain ⟨⟨ae, ce, rfl, _⟩, L, hr, hk, rfl, rfl⟩ := hl
    have hr0 := hr
    obtain ⟨ab, cb, rfl, _⟩ := hr
    refine (writeI_walk T n tv X ae ab 0 ce _ cb L w hT hX hr0 (fun q hq => by
      obtain ⟨t, _, _, t3⟩ := hk q hq
      obtain ⟨_, _, ⟨d0, _, _, d2⟩, _⟩ := nd_iff.1 t3
      exact ⟨d0, d2⟩) (by simpa using hbig) hs hn).mono ?_
    rintro e w' ⟨b, rfl, h1, h2, h3, h4, h5, h6, h7⟩
    have hc : Chg X w w' := h7.mono (fun y _ e => by rw [show y = T from e]; exact hX)
    exact ⟨b, rfl, nd_iff.2 ⟨_, _, ⟨fun hx => by have := hXo b hx; omega, h3, h4, by rw [h5, Nat.zero_add]⟩, hl0.chg hc⟩, h6, h7⟩
end Go.Proofs.Ytcaccbjolgjmkaa
