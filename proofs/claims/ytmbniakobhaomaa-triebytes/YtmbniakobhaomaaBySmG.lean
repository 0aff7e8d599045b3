/-
  The library's ordered sort at bytes: which worlds it passes through; the comparison.
  The library's insertion sort and reverseRange at a row of slots.
  The library's ordered sort of at most twelve bytes; bytes' rows in the sort's worlds.
-/
import Derived.Test.YtmbniakobhaomaaHaIds
import Derived.Test.YtmbniakobhaomaaQuietUp
import Derived.Sort.AssemblyPlain
import Derived.Deep.QuietTactic
import Derived.BigQuiet
import Derived.BigRegion
import Derived.Test.YtmbniakobhaomaaBytes
namespace Go.Proofs.Ytmbniakobhaomaa
open Go.ChangeShapes Go.WideShapes Go.ChangeAt Go.RowKit
open Go.Sort (swp insInner insOuter)
set_option linter.unusedVariables false

def ltB (x y : Int) : Bool := decide (x < y)
theorem ltB_swo : Go.Sort.SWO ltB := ⟨fun x => by simp [ltB], fun x y z h1 h2 => by simp [ltB] at *; omega, fun x y z h1 h2 => by simp [ltB] at *; omega⟩
theorem nanB_calls (x : Int) (w : World) : Calls Try.prog 75 #[.int .u8 x] w fun e w' => e = .returned (.bool false) ∧ w' = w := by
  go_enter Try.func75, Try.ntmps75
  go_wp2
  go_ret
  exact ⟨by simp, rfl⟩
theorem lessB_calls (x y : Int) (w : World) : Calls Try.prog 64 #[.int .u8 x, .int .u8 y] w fun e w' => e = .returned (.bool (ltB x y)) ∧ ∃ m, w' = w.drewN m := by
  go_enter Try.func64, Try.ntmps64
  go_wp2_with (go_at_call 75; refine (nanB_calls x _).mono ?_; rintro _ _ ⟨rfl, rfl⟩)
  go_ret
  exact ⟨rfl, 0, rfl⟩
/-- A world that the sort passes through. -/
structure SrtB (W0 : World) (g : Nat) (ok : Int → Prop) (n : Nat) (d : Array Int) (wr : World) : Prop where
  size : d.size = n
  ok : ∀ i, i < n → ok d[i]!
  chg : Chg (fun x => x = g) W0 wr
  cell : ∀ i, i < n → wr.cell? ⟨g, i, none⟩ = some (.int .u8 d[i]!)
  froz : ∀ i, i < n → wr.frozen? ⟨g, i, none⟩ = false
theorem swp_size (d : Array Int) (i j : Nat) : (swp d i j).size = d.size := by simp [swp]
theorem swp_at (d : Array Int) {i j k : Nat} (hi : i < d.size) (hj : j < d.size) (hk : k < d.size) : (swp d i j)[k]! = if k = j then d[i]! else if k = i then d[j]! else d[k]! := by
  unfold swp
  simp only [getElem!_def, Array.getElem?_setIfInBounds, Array.size_setIfInBounds]
  by_cases h1 : j = k
  · subst h1; simp [hj]
  · by_cases h2 : i = k
    · subst h2; simp [h1, hi, Ne.symm h1]
    · simp [h1, h2, Ne.symm h1, Ne.symm h2]
theorem SrtB.drewN {W0 wr : World} {g n : Nat} {ok : Int → Prop} {d : Array Int} (h : SrtB W0 g ok n d wr) (q : Nat) : SrtB W0 g ok n d (wr.drewN q) :=
  ⟨h.size, h.ok, h.chg.andUp ((Up.refl _).drewN _), fun i hi => h.cell i hi, fun i hi => h.froz i hi⟩
theorem SrtB.drew {W0 wr : World} {g n : Nat} {ok : Int → Prop} {d : Array Int} (h : SrtB W0 g ok n d wr) : SrtB W0 g ok n d wr.drew := h.drewN 1
theorem SrtB.swap {W0 wr : World} {g n : Nat} {ok : Int → Prop} {d : Array Int} (h : SrtB W0 g ok n d wr) {i j : Nat} (hi : i < n) (hj : j < n) : SrtB W0 g ok n (swp d i j) ((wr.setCell ⟨g, i, none⟩ (.int .u8 d[j]!)).setCell ⟨g, j, none⟩ (.int .u8 d[i]!)) := by
  have hs := h.size
  refine ⟨by rw [swp_size]; exact hs, fun k hk => ?_, (h.chg.set (p := ⟨g, i, none⟩) (fun _ => rfl) _).set (p := ⟨g, j, none⟩) (fun _ => rfl) _, fun k hk => ?_, fun k hk => ?_⟩
  · rw [swp_at d (by omega) (by omega) (by omega)]
    split
    · exact h.ok i hi
    · split
      · exact h.ok j hj
      · exact h.ok k hk
  · rw [swp_at d (by omega) (by omega) (by omega)]
    have c1 : ∃ u, (wr.setCell ⟨g, i, none⟩ (.int .u8 d[j]!)).cell? ⟨g, j, none⟩ = some u := by
      by_cases e : i = j
      · subst e; exact ⟨_, World.cell?_setCell_same _ _ _ (h.cell i hi)⟩
      · exact ⟨_, (World.cell?_setCell_other _ _ _ _ (by intro e'; simp only [Addr.mk.injEq] at e'; omega)).trans (h.cell j hj)⟩
    obtain ⟨u, hu⟩ := c1
    by_cases e1 : k = j
    · subst e1; rw [if_pos rfl]; exact World.cell?_setCell_same _ _ _ hu
    · rw [if_neg e1, World.cell?_setCell_other _ _ _ _ (by intro e'; simp only [Addr.mk.injEq] at e'; omega)]
      by_cases e2 : k = i
      · subst e2; rw [if_pos rfl]; exact World.cell?_setCell_same _ _ _ (h.cell k hk)
      · rw [if_neg e2, World.cell?_setCell_other _ _ _ _ (by intro e'; simp only [Addr.mk.injEq] at e'; omega)]
        exact h.cell k hk
  · rw [World.frozen?_setCell, World.frozen?_setCell]; exact h.froz k hk

end Go.Proofs.Ytmbniakobhaomaa

namespace Go.Proofs.Ytmbniakobhaomaa
open Go.ChangeShapes Go.WideShapes Go.ChangeAt Go.RowKit
open Go.Sort (swp insInner insOuter reverseLoop)
set_option linter.unusedVariables false
variable {lt : Int → Int → Bool}

theorem insI_go (a j : Nat) (d : Array Int) (hj : a < j + 1) (hl : lt d[j + 1]! d[j]! = true) : insInner lt a (j + 1) d = insInner lt a j (swp d (j + 1) j) := by
  rw [insInner, if_pos (by simp [hl]; omega)]
theorem insI_stop (a j : Nat) (d : Array Int) (hl : j = 0 ∨ j ≤ a ∨ lt d[j]! d[j - 1]! = false) : insInner lt a j d = d := by
  match j, hl with
  | 0, _ => rfl
  | j + 1, h =>
    rw [insInner, if_neg]
    simp only [Bool.and_eq_true, decide_eq_true_eq, not_and, Bool.not_eq_true]
    intro h1
    rcases h with h | h | h
    · omega
    · omega
    · exact h

set_option maxRecDepth 20000 in
set_option maxHeartbeats 16000000 in
theorem insertion_calls (g cap n a b : Nat) (W0 : World) (ok : Int → Prop) (d : Array Int) (w : World) (hs : SrtB W0 g ok n d w) (hab : a ≤ b) (hb : b ≤ n) (hn : n ≤ 100000) :
    Calls Try.prog 58 #[.slice (some ⟨g, 0, none⟩) n cap, .int .i64 a, .int .i64 b] w fun e w' => e = .returned (.tuple #[]) ∧ SrtB W0 g ok n (Go.Sort.insertionSort ltB d a b) w' := by
  have HS := hide hs
  clear hs
  go_enter Try.func58, Try.ntmps58
  go_wp2_with fail
  go_loopw [6] (fun u wr => ∃ (i : Nat) (dk : Array Int), u = .int .i64 i ∧ a < i ∧ i ≤ b + 1 ∧ SrtB W0 g ok n dk wr ∧ Hid (insOuter ltB a b i dk = insOuter ltB a b (a + 1) d)) (fun u _ => b + 1 - (intOf u).toNat)
  case atStart => exact ⟨a + 1, d, by go_num, by omega, by omega, HS.out, rfl⟩
  case round =>
    obtain ⟨i, dk, rfl, hai, hib, hsk, HO⟩ := hrel
    have HK := hide hsk
    clear hsk
    by_cases hlt : i < b
    · have t1 : decide ((i : Int) < b) = true := decide_eq_true (by omega)
      go_wp2_with fail
      go_loopw [7] (fun u wr => ∃ (j : Nat) (dj : Array Int), u = .int .i64 j ∧ a ≤ j ∧ j ≤ i ∧ SrtB W0 g ok n dj wr ∧ Hid (insInner ltB a j dj = insInner ltB a i dk)) (fun u _ => (intOf u).toNat)
      case atStart => exact ⟨i, dk, rfl, by omega, Nat.le_refl _, HK.out, rfl⟩
      case round =>
        obtain ⟨j, dj, rfl, haj, hji, hsj, HI⟩ := hrel
        have HJ := hide hsj
        clear hsj
        by_cases hja : a < j
        · obtain ⟨j, rfl⟩ : ∃ q, j = q + 1 := ⟨j - 1, by omega⟩
          have t2 : decide (((j : Nat) : Int) + 1 > (a : Int)) = true := decide_eq_true (by omega)
          have y1 := HJ.out.cell (j + 1) (by omega)
          have y0 := HJ.out.cell j (by omega)
          have f1 := HJ.out.froz (j + 1) (by omega)
          have f0 := HJ.out.froz j (by omega)
          have hcm : Hid (∀ q, Calls Try.prog 64 #[.int .u8 dj[j + 1]!, .int .u8 dj[j]!] (wr.drewN q) fun e w' => e = .returned (.bool (ltB dj[j + 1]! dj[j]!)) ∧ ∃ m, w' = (wr.drewN q).drewN m) := fun q => lessB_calls _ _ _
          have hneg : True := trivial
          have hswp : Hid (∀ q, SrtB W0 g ok n (swp dj (j + 1) j) (((wr.drewN q).setCell ⟨g, j + 1, none⟩ (.int .u8 dj[j]!)).setCell ⟨g, j, none⟩ (.int .u8 dj[j + 1]!))) := fun q => (HJ.out.drewN q).swap (by omega) (by omega)
          have hgo := insI_go (lt := ltB) a j dj (by omega)
          have hst := insI_stop (lt := ltB) a (j + 1) dj
          generalize hX : dj[j + 1]! = X at y1 hcm hneg hswp hgo hst
          generalize hY : dj[j]! = Y at y0 hcm hneg hswp hgo hst
          have jz : (j : Int) + 1 < n := by omega
          have jz0 : (j : Int) < n := by omega
          have jz1 : (a : Int) < (j : Int) + 1 := by omega
          cases hl : ltB X Y with
          | true =>
            rw [hl] at hcm hgo
            have HGO := hide (hgo rfl)
            clear hgo hst hX hY
            go_wp2_with fail
            go_quiet ((go_at_call 64; exact Calls.quiet_of (hcm.out _)))
            go_wp2_with fail
            go_region
            all_goals
              go_wp2
              go_roundw
              case rel => exact ⟨j, swp dj (j + 1) j, by go_num, by omega, by omega, (by first | exact hswp.out _ | exact (hswp.out _).drewN _ | exact (hswp.out _).drew), by show _ = _; rw [← HGO.out]; exact HI.out⟩
              case measure => simp [intOf]
          | false =>
            rw [hl] at hcm
            have HST : Hid (insInner ltB a (j + 1) dj = dj) := hst (.inr (.inr (by rw [Nat.add_sub_cancel, hY]; exact hl)))
            have HOUT : Hid (insOuter ltB a b (i + 1) dj = insOuter ltB a b (a + 1) d) := by
              show _ = _
              rw [← HO.out, insOuter.eq_1 ltB a b i dk, if_pos hlt, ← HI.out, HST.out]
            clear hgo hst hX hY
            go_wp2_with fail
            go_quiet ((go_at_call 64; exact Calls.quiet_of (hcm.out _)))
            go_wp2
            go_roundw
            case rel => exact ⟨i + 1, dj, by go_num, by omega, by omega, (HJ.out.drewN _), HOUT.out⟩
            case measure => simp [intOf]; omega
        · have t2 : decide ((j : Int) > (a : Int)) = false := decide_eq_false (by omega)
          have HOUT : Hid (insOuter ltB a b (i + 1) dj = insOuter ltB a b (a + 1) d) := by
            show _ = _
            rw [← HO.out, insOuter.eq_1 ltB a b i dk, if_pos hlt, ← HI.out, insI_stop a j dj (.inr (.inl (by omega)))]
          go_wp2_with fail
          go_quiet (fail)
          go_wp2
          go_roundw
          case rel => exact ⟨i + 1, dj, by go_num, by omega, by omega, (HJ.out.drewN _), HOUT.out⟩
          case measure => simp [intOf]; omega
    · have t1 : decide ((i : Int) < b) = false := decide_eq_false (by omega)
      have HOUT : Hid (dk = Go.Sort.insertionSort ltB d a b) := by
        show _ = _
        unfold Go.Sort.insertionSort
        rw [← HO.out, insOuter.eq_1 ltB a b i dk, if_neg hlt]
      go_wp2
      go_end0
      exact ⟨rfl, by rw [← HOUT.out]; exact HK.out⟩

end Go.Proofs.Ytmbniakobhaomaa

namespace Go.Proofs.Ytmbniakobhaomaa
open Go.ChangeShapes Go.WideShapes Go.ChangeAt Go.RowKit
open Go.Sort (swp insInner insOuter reverseLoop PermIn SortedIn)
set_option linter.unusedVariables false
set_option maxRecDepth 100000

/-- Bytes as numbers. -/
def byI (ks : List UInt8) : Array Int := (ks.map (fun b => (b.toNat : Int))).toArray
theorem byI_size (ks : List UInt8) : (byI ks).size = ks.length := by simp [byI]
theorem byI_at (ks : List UInt8) {i : Nat} (hi : i < ks.length) : (byI ks)[i]! = (ks[i].toNat : Int) := by
  unfold byI
  rw [getElem!_pos _ _ (by simpa using hi)]
  simp
/-- A byte. -/
def okB (x : Int) : Prop := ∃ b : UInt8, x = (b.toNat : Int)
/-- A row of bytes is one that may be sorted. -/
theorem own_srt {w : World} {base g cap : Nat} {ks : List UInt8} (h : Own w base (.slice (some ⟨g, 0, none⟩) ks.length cap) ks) : SrtB w g okB ks.length (byI ks) w := by
  rcases h.2 with ⟨h0, _⟩ | ⟨g', cap', cur, hv, hb, hg, hc, hm, hs, ht⟩
  · cases h0
  · cases hv
    refine ⟨byI_size ks, fun i hi => ⟨ks[i], byI_at ks hi⟩, Chg.refl _ _, fun i hi => ?_, fun i hi => by simp [World.frozen?, hg]⟩
    have := World.ownsRow.cellAt h i (by omega)
    rw [this, byI_at ks hi, bcells_get, List.getElem?_eq_getElem hi]
    rfl
/-- What the sort leaves, as bytes. -/
theorem srt_bytes {W0 w' : World} {g n : Nat} {d : Array Int} (h : SrtB W0 g okB n d w') : ∃ ks : List UInt8, ks.length = n ∧ d = byI ks ∧ ∀ i, i < n → w'.cell? ⟨g, i, none⟩ = some (.int .u8 ((ks.getD i 0).toNat : Int)) := by
  have key : ∀ i, ∃ b : UInt8, i < n → d[i]! = (b.toNat : Int) := fun i => by
    by_cases hi : i < n
    · obtain ⟨b, hb⟩ := h.ok i hi; exact ⟨b, fun _ => hb⟩
    · exact ⟨0, fun h => absurd h hi⟩
  obtain ⟨f, hf⟩ : ∃ f : Nat → UInt8, ∀ i, i < n → d[i]! = ((f i).toNat : Int) := ⟨fun i => Classical.choose (key i), fun i hi => Classical.choose_spec (key i) hi⟩
  refine ⟨(List.range n).map f, by simp, ?_, fun i hi => ?_⟩
  · apply Array.ext
    · rw [byI_size, h.size]; simp
    · intro i h1 h2
      rw [byI_size] at h2
      simp only [List.length_map, List.length_range] at h2
      have e1 := hf i h2
      rw [getElem!_pos d i h1] at e1
      have e2 := byI_at ((List.range n).map f) (i := i) (by simpa using h2)
      rw [getElem!_pos _ i (by rw [byI_size]; simpa using h2)] at e2
      rw [e1, e2]
      simp
  · rw [h.cell i hi, hf i hi, List.getD_eq_getElem?_getD, List.getElem?_map, List.getElem?_range hi]
    rfl
/-- Permuted and in order, as bytes. -/
theorem perm_bytes {ks ks' : List UInt8} (hp : PermIn 0 ks.length (byI ks) (byI ks')) (hl : ks'.length = ks.length) : ks'.Perm ks := by
  obtain ⟨_, _, h3⟩ := hp
  rw [Array.extract_eq_self_of_le (by rw [byI_size]; omega), Array.extract_eq_self_of_le (by rw [byI_size]; omega)] at h3
  simp only [byI, List.toList_toArray] at h3
  have h4 := h3.map (fun x : Int => UInt8.ofNat x.toNat)
  simpa [List.map_map, Function.comp_def] using h4
theorem sorted_bytes {ks : List UInt8} (h : SortedIn ltB 0 ks.length (byI ks)) : ks.Pairwise (fun a b => a ≤ b) := by
  rw [List.pairwise_iff_getElem]
  intro i j hi hj hij
  have := h i j (Nat.zero_le _) hij hj
  rw [byI_at ks hi, byI_at ks hj] at this
  unfold ltB at this
  have h2 := of_decide_eq_false this
  exact UInt8.le_iff_toNat_le.2 (by omega)
/-- What the library's sort does of at most B bytes. -/
def SortBy (B : Nat) : Prop := ∀ (w : World) (base : Nat) (v : Value) (ks : List UInt8), Own w base v ks → ks.length ≤ B → Calls Try.prog 49 #[v] w fun e w' => e = .returned (.tuple #[]) ∧ ∃ ks' : List UInt8, ks'.Perm ks ∧ ks'.Pairwise (fun a b => a ≤ b) ∧ Sl w' v ks' ∧ Chg (fun y => v.ownBlock = some y) w w'

set_option maxHeartbeats 4000000 in
theorem len64_calls (x : Nat) (w : World) (hx : x < 256) : Calls Try.prog 68 #[.int .u64 x] w fun e w' => (∃ r : Nat, r ≤ 255 ∧ e = .returned (.int .i64 r)) ∧ w' = w := by
  have t1 : decide ((x : Int) ≥ 4294967296) = false := decide_eq_false (by omega)
  have t2 : decide ((x : Int) ≥ 65536) = false := decide_eq_false (by omega)
  have t3 : decide ((x : Int) ≥ 256) = false := decide_eq_false (by omega)
  go_enter Try.func68, Try.ntmps68
  go_wp2
  go_ret
  refine ⟨?_, rfl⟩
  have key : ∀ b : UInt8, ∃ r : Nat, r ≤ 255 ∧ Ending.returned (.int .i64 (wrap64 (wrap64 (b.toNat : Int)))) = .returned (.int .i64 r) := fun b => by
    have hb := b.toNat_lt
    have e : wrap64 (b.toNat : Int) = b.toNat := by unfold wrap64; omega
    exact ⟨b.toNat, by omega, by rw [e, e]⟩
  exact key _
set_option maxHeartbeats 4000000 in
theorem lenB_calls (x : Nat) (w : World) (hx : x < 256) : Calls Try.prog 56 #[.int .u64 x] w fun e w' => (∃ r : Nat, r ≤ 255 ∧ e = .returned (.int .i64 r)) ∧ w' = w := by
  go_enter Try.func56, Try.ntmps56
  go_wp2_with fail
  go_at_call 68
  refine (len64_calls x w hx).mono ?_
  rintro _ w9 ⟨⟨r, hr, rfl⟩, hw9⟩
  obtain rfl : w = w9 := hw9.symm
  go_wp2
  go_ret
  exact ⟨⟨r, hr, rfl⟩, rfl⟩

/-- Of none. -/
theorem insertion_none (a : Option Addr) (cap : Nat) (w : World) : Calls Try.prog 58 #[.slice a 0 cap, .int .i64 0, .int .i64 0] w fun e w' => e = .returned (.tuple #[]) ∧ w' = w := by
  go_enter Try.func58, Try.ntmps58
  go_wp2_with fail
  refine wp_loop_rounds 1 ?_
  rw [rounds_succ]
  go_wp2
  go_end0
  exact ⟨rfl, rfl⟩
set_option maxHeartbeats 4000000 in
theorem pdq_few (a : Option Addr) (n cap r : Nat) (hn : n ≤ 12) (w : World) (Q : Ending → World → Prop) (hi : Calls Try.prog 58 #[.slice a n cap, .int .i64 0, .int .i64 n] w fun e w' => e = .returned (.tuple #[]) ∧ Q e w') :
    Calls Try.prog 55 #[.slice a n cap, .int .i64 0, .int .i64 n, .int .i64 r] w fun e w' => e = .returned (.tuple #[]) ∧ Q e w' := by
  have t1 : decide ((n : Int) ≤ 12) = true := decide_eq_true (by omega)
  have HI := hide hi
  clear hi
  go_enter Try.func55, Try.ntmps55
  go_wp2_with fail
  refine wp_loop_rounds 1 ?_
  rw [rounds_succ]
  go_wp2_with fail
  go_at_call 58
  refine HI.out.mono ?_
  rintro _ w9 ⟨rfl, hq⟩
  replace hq := hide hq
  go_wp2
  (try simp only [Exit.inBlock, Exit.then])
  refine bodyPost_ret (results_none rfl _ _ _) rfl ?_
  exact ⟨rfl, hq.out⟩
set_option maxHeartbeats 4000000 in
theorem sort_few : SortBy 12 := by
  intro w base v ks ho hl
  have hq : Calls Try.prog 58 #[v, .int .i64 0, .int .i64 ks.length] w fun e w' => e = .returned (.tuple #[]) ∧ ∃ ks' : List UInt8, ks'.Perm ks ∧ ks'.Pairwise (fun a b => a ≤ b) ∧ Sl w' v ks' ∧ Chg (fun y => v.ownBlock = some y) w w' := by
    have ho0 := ho
    rcases ho.2 with ⟨rfl, h0⟩ | ⟨g, cap, cur, rfl, hb, hg, hc, hm, hs, ht⟩
    · rw [h0]
      refine (insertion_none none 0 w).mono ?_
      rintro _ w' ⟨rfl, rfl⟩
      have : ks = [] := List.length_eq_zero_iff.1 h0
      subst this
      exact ⟨rfl, [], List.Perm.refl _, List.Pairwise.nil, ⟨none, 0, rfl, Nat.zero_le _, Nat.zero_le _, rfl, .inl rfl⟩, Chg.refl _ _⟩
    · refine (insertion_calls g cap ks.length 0 ks.length w okB (byI ks) w (own_srt ho0) (Nat.zero_le _) (Nat.le_refl _) (by omega)).mono ?_
      rintro _ w' ⟨rfl, hs'⟩
      obtain ⟨ks', h1, h2, h3⟩ := srt_bytes hs'
      obtain ⟨h4, h5⟩ := Go.Sort.insertionSort_holds ltB_swo (byI ks) 0 ks.length (Nat.zero_le _) (by rw [byI_size]; exact Nat.le_refl _)
      rw [h2] at h4 h5
      rw [← h1] at h5
      refine ⟨rfl, ks', perm_bytes h4 h1, sorted_bytes h5, ⟨some ⟨g, 0, none⟩, cap, by rw [h1], by rw [h1]; exact hc, hm, rfl, ?_⟩, hs'.chg.mono (fun y _ (e : y = g) => by rw [e]; rfl)⟩
      rw [h1]
      exact .inr ⟨g, 0, rfl, fun i hi => by rw [Nat.zero_add]; exact h3 i hi⟩
  have HQ := hide hq
  obtain ⟨a, cap, hv⟩ : ∃ a cap, v = .slice a ks.length cap := by
    obtain ⟨a, c, h, _⟩ := ho.bts
    exact ⟨a, c, h⟩
  have ew : IntKind.u64.wrap (ks.length : Int) = ks.length := by simp [IntKind.wrap, IntKind.bits, IntKind.signed]; omega
  clear hq ho
  subst hv
  generalize hN : ks.length = N at *
  replace hN := hide hN
  go_enter Try.func49, Try.ntmps49
  go_wp2_with fail
  go_at_call 56
  refine (lenB_calls N w (by omega)).mono ?_
  rintro _ w9 ⟨⟨r, hr, rfl⟩, hw9⟩
  obtain rfl : w = w9 := hw9.symm
  go_wp2_with fail
  go_at_call 55
  refine (pdq_few a N cap r hl w _ HQ.out).mono ?_
  rintro _ w9 ⟨rfl, hq⟩
  replace hq := hide hq
  clear HQ
  go_wp2
  go_end0
  exact ⟨rfl, hq.out⟩

end Go.Proofs.Ytmbniakobhaomaa
