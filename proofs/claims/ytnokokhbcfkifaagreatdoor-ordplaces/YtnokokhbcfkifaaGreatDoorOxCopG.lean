/-
  ordidx.copied, as its text runs.
  ordidx's Insert, where the comparator doesn't strike, as its text runs.
  ordidx's New, Rank, Erase of what isn't there, At; where the comparator doesn't strike, as their texts run.
-/
import Derived.Test.YtnokokhbcfkifaaGreatDoorHookAns
import Derived.Test.YtnokokhbcfkifaaGreatDoorTrRowG
import Derived.Test.YtnokokhbcfkifaaGreatDoorOxIxG
namespace Go.Proofs.YtnokokhbcfkifaaGreatDoor
open Go.ChangeShapes Go.WideShapes Go.ChangeAt Go.RowKit
set_option linter.unusedVariables false
attribute [local go_sem ↓] Go.wp_at_zero Go.wp_at_succ
attribute [local go_sem] run_store_float

set_option maxRecDepth 20000 in
set_option maxHeartbeats 4000000 in
theorem oxcopy_some (b off n c : Nat) (id : Int) (m : List VT) (w : World) (hn : n ≤ 12) (hm : m.length = n) (hx : ∀ i, i < n → At w b (off + i * 4) (m.getD i zeroT)) (hft : ∀ i, Fits (m.getD i zeroT)) (hs : ∀ i, (m.getD i zeroT).2.2.1.size ≤ 200) :
    Calls Tryz.prog 40 #[.agg #[.slice (some ⟨b, off, none⟩) n c, .int .i64 id]] w fun e w' => ∃ a', e = .returned (.agg #[.slice a' n n, .int .i64 id]) ∧ NewRow w.heap.size w' a' n m ∧ Up w w' := by
  obtain ⟨i0, hi, hz0, hz1, hz2⟩ := info_parts info_value
  obtain ⟨M, hM⟩ : ∃ M, M = madeCells (Value.agg #[.int .i64 0, .int .i64 0, .string ⟨#[]⟩, .float .f64 0]).cells (((n : Nat) : Int).toNat * i0.size) := ⟨_, rfl⟩
  have hMs : M.size = n * 4 := by rw [hM, size_madeCells, hz1]; simp
  have hmk : ∀ W : World, (Instr.makeSlice 37 (.int .i64 (n : Int)) (.int .i64 (n : Int))).run Tryz.prog W = .ok (.slice (some ⟨W.heap.size, 0, none⟩) n n) (W.alloc (.cells M 77)) := fun W => by
    have h := run_make (P := Tryz.prog) W 37 77 i0 (.agg #[.int .i64 0, .int .i64 0, .string ⟨#[]⟩, .float .f64 0]) Tryz.underlying37 hi hz0 .i64 .i64 (n : Int) (n : Int) (by omega) (by omega) (by rw [hz2]; omega) (by omega)
    rw [← hM] at h
    simpa using h
  clear hM
  obtain ⟨W0, hW0⟩ : ∃ W0, W0 = ((w.alloc (.cells #[.slice (some ⟨b, off, none⟩) n c, .int .i64 id] 51)).alloc (.cells #[.slice none 0 0, .int .i64 0] 51)).alloc (.cells M 77) := ⟨_, rfl⟩
  obtain ⟨G, hG⟩ : ∃ G, G = w.heap.size + 1 + 1 := ⟨_, rfl⟩
  have hGs : ((w.alloc (.cells #[.slice (some ⟨b, off, none⟩) n c, .int .i64 id] 51)).alloc (.cells #[.slice none 0 0, .int .i64 0] 51)).heap.size = w.heap.size + 1 + 1 := by simp
  have hhalf0 : ∀ X : World, Half (X.alloc (.cells M 77)) X.heap.size n 0 m := fun X => by
    refine ⟨fun i hi => absurd hi (Nat.not_lt_zero i), fun i hi => ⟨M[i]'(by omega), ?_⟩, fun i => by simp⟩
    simp [hMs, hi]
  have hhalf : Half W0 G n 0 m := by
    rw [hW0, hG, ← hGs]
    exact hhalf0 _
  clear hhalf0
  have hu0 : Hid (Up w W0) := by rw [hW0]; exact (((Up.refl _).alloc _).alloc _).alloc _
  have i1 : W0.cell? ⟨w.heap.size, 1, none⟩ = some (.int .i64 id) := by rw [hW0]; go_simp
  have i00 : W0.cell? ⟨w.heap.size, 0, none⟩ = some (.slice (some ⟨b, off, none⟩) n c) := by rw [hW0]; go_simp
  have hB : Box2 (w.heap.size + 1) W0 := by rw [hW0]; exact ⟨by go_simp, by go_simp, by go_simp, by go_simp⟩
  have hW0s : W0.heap.size = G + 1 := by rw [hW0, hG]; simp
  have hN : n ≤ 2 ^ 63 - 1 := by omega
  have HM := hide hm
  have HX := hide hx
  have HS := hide hs
  have HFT := hide hft
  have HB := hide hB
  have I1 := hide i1
  have hW0' := hW0.symm
  have hG' := hG.symm
  have HG := hide hG
  clear hm hx hs hft hW0 hB i1 hGs hG
  go_enter Tryz.func40, Tryz.ntmps40
  go_wp2_with fail
  clear hmk hMs hi hz0 hz1 hz2 hW0' hG'
  have hGw : Hid (w.heap.size ≤ G) := by show _ ≤ _; have := HG.out; omega
  go_loopw [13] (fun i wr => ∃ k : Nat, k ≤ n ∧ i = .int .i64 k ∧ Hid (Chg (fun y => y = G) W0 wr) ∧ G < wr.heap.size ∧ Half wr G n k m) (fun i _ => n - (intOf i).toNat)
  case atStart => exact ⟨0, Nat.zero_le _, rfl, Chg.refl _ _, by omega, hhalf⟩
  case round =>
    clear hhalf
    obtain ⟨k, hk, rfl, hc, hgs, hh⟩ := hrel
    have hu : Hid (Up w wr) := up_of_chg_new hu0.out hc.out hGw.out
    replace hh := hide hh
    by_cases hlt : k < n
    · have t3 : decide ((k : Int) < n) = true := decide_eq_true (by omega)
      obtain ⟨c0, c1, c2, c3⟩ := (HX.out k hlt).up hu.out
      have hsz := HS.out k
      obtain ⟨⟨q, z, s, f⟩, hv⟩ : ∃ v, v = m.getD k zeroT := ⟨_, rfl⟩
      rw [← hv] at c0 c1 c2 c3 hsz
      dsimp only at c0 c1 c2 c3 hsz
      replace hv := hide hv
      go_wp2_with fail
      go_at_call 61
      refine (clone_calls _ _ (by omega)).mono ?_
      rintro _ w2 ⟨rfl, hu2⟩
      clear c0 c1 c2 c3
      have e0 : w2.cell? ⟨wr.heap.size, 0, none⟩ = some (.int .i64 q) := hu2.cell (by go_simp)
      have e1 : w2.cell? ⟨wr.heap.size, 1, none⟩ = some (.int .i64 z) := hu2.cell (by go_simp)
      have e2 : w2.cell? ⟨wr.heap.size, 2, none⟩ = some (.string s) := hu2.cell (by go_simp)
      have e3 : w2.cell? ⟨wr.heap.size, 3, none⟩ = some (.float .f64 f) := hu2.cell (by go_simp)
      have ef : w2.frozen? ⟨wr.heap.size, 2, none⟩ = false := (hu2.frozen (p := ⟨wr.heap.size, 2, none⟩) (by simp)).trans (by go_simp)
      replace hh := hide (hh.out.up (((Up.refl wr).alloc _).trans hu2) hgs)
      have hc0 := hide hc.out
      replace hc := hide ((hc.out.alloc _).andUp hu2)
      have hg2 : G < w2.heap.size := Nat.lt_of_lt_of_le hgs (Nat.le_trans (by simp) hu2.size)
      have hne : ¬ wr.heap.size = G := by omega
      have hne' : ¬ G = wr.heap.size := by omega
      have hV : Hid (w.heap.size ≤ wr.heap.size) := by have := hGw.out; show _ ≤ _; omega
      obtain ⟨v0, x0⟩ := hh.out.2.1 (k * 4) (by omega)
      obtain ⟨v1, x1⟩ := hh.out.2.1 (k * 4 + 1) (by omega)
      obtain ⟨v2, x2⟩ := hh.out.2.1 (k * 4 + 2) (by omega)
      obtain ⟨v3, x3⟩ := hh.out.2.1 (k * 4 + 3) (by omega)
      have y0 := hh.out.2.2 (k * 4)
      have y1 := hh.out.2.2 (k * 4 + 1)
      have y2 := hh.out.2.2 (k * 4 + 2)
      have y3 := hh.out.2.2 (k * 4 + 3)
      have hx : ∀ i, (w2.setCell ⟨wr.heap.size, 2, none⟩ (.string s)).cell? ⟨G, i, none⟩ = w2.cell? ⟨G, i, none⟩ := fun i => World.cell?_setCell_other _ _ _ _ (by intro e; exact hne (congrArg Addr.block e))
      replace x0 := (hx _).trans x0
      replace x1 := (hx _).trans x1
      replace x2 := (hx _).trans x2
      replace x3 := (hx _).trans x3
      clear hu2 hx
      have h5 := hide (((((hh.out.other ⟨wr.heap.size, 2, none⟩ hne (.string s)).set (k * 4) (Nat.le_refl _) (by omega) (.int .i64 q)).set (k * 4 + 1) (by omega) (by omega) (.int .i64 z)).set (k * 4 + 2) (by omega) (by omega) (.string s)).set (k * 4 + 3) (by omega) (by omega) (.float .f64 f))
      go_wp2_with fail
      refine ⟨⟨k + 1, by omega, by go_num, ?_, by simpa using hg2, ⟨fun i hi => ?_, h5.out.2.1, h5.out.2.2⟩⟩, by simp [intOf]; omega⟩
      · have hn2 : W0.heap.size ≤ wr.heap.size := hc0.out.size
        exact (((((hc.out.mono (D := fun y => y = G ∨ y = wr.heap.size) (fun _ _ h => .inl h)).set (p := ⟨wr.heap.size, 2, none⟩) (fun _ => .inr rfl) _).set (p := ⟨G, k * 4, none⟩) (fun _ => .inl rfl) _).set (p := ⟨G, k * 4 + 1, none⟩) (fun _ => .inl rfl) _).set (p := ⟨G, k * 4 + 2, none⟩) (fun _ => .inl rfl) _).set (p := ⟨G, k * 4 + 3, none⟩) (fun _ => .inl rfl) _ |>.mono (fun y hy h => h.resolve_right (by omega))
      · rcases Nat.lt_succ_iff_lt_or_eq.1 hi with hi | rfl
        · exact h5.out.1 i hi
        · rw [← hv.out]
          exact ⟨by go_simp, by go_simp, by go_simp, by go_simp⟩
    · obtain rfl : k = n := by omega
      have t3 : decide ((k : Int) < k) = false := decide_eq_false (by omega)
      have j1 := hc.out.cell I1.out (fun e => by have e' : w.heap.size = G := e; have := HG.out; omega)
      obtain ⟨b0, b1, f0, f1⟩ := box_chg HB.out hc.out (fun e => by have e' : w.heap.size + 1 = G := e; have := HG.out; omega)
      obtain ⟨v0, g0⟩ := Option.isSome_iff_exists.1 b0
      obtain ⟨v1, g1⟩ := Option.isSome_iff_exists.1 b1
      have hRG : ¬ G = w.heap.size + 1 := by have := HG.out; omega
      clear b0 b1
      go_wp2
      have k0 : ((wr.setCell ⟨w.heap.size + 1, 0, none⟩ (.slice (some ⟨G, 0, none⟩) k k)).setCell ⟨w.heap.size + 1, 1, none⟩ (.int .i64 id)).cell? ⟨w.heap.size + 1, 0, none⟩ = some (.slice (some ⟨G, 0, none⟩) k k) := set2_c0 g0
      have k1 : ((wr.setCell ⟨w.heap.size + 1, 0, none⟩ (.slice (some ⟨G, 0, none⟩) k k)).setCell ⟨w.heap.size + 1, 1, none⟩ (.int .i64 id)).cell? ⟨w.heap.size + 1, 1, none⟩ = some (.int .i64 id) := set2_c1 g1
      have s1 := set2_chg wr (w.heap.size + 1) (.slice (some ⟨G, 0, none⟩) k k) (.int .i64 id)
      have h6 := (hh.out.other ⟨w.heap.size + 1, 0, none⟩ (Ne.symm hRG) (.slice (some ⟨G, 0, none⟩) k k)).other ⟨w.heap.size + 1, 1, none⟩ (Ne.symm hRG) (.int .i64 id)
      exact bodyPost_ret (v := .agg #[.slice (some ⟨G, 0, none⟩) k k, .int .i64 id]) (by simp [results, Tryz.results40, go_sem, k0, k1]) rfl ⟨_, rfl, ⟨⟨HM.out, HFT.out, .inr ⟨G, 0, rfl, fun i hi => by rw [Nat.zero_add]; exact h6.1 i hi⟩⟩, .inr ⟨G, rfl, hGw.out, by simpa using hgs, h6.2.2⟩⟩, up_of_chg_new hu.out s1 (by omega)⟩

theorem oxcopy_none (a : Option Addr) (c : Nat) (id : Int) (w : World) :
    Calls Tryz.prog 40 #[.agg #[.slice a 0 c, .int .i64 id]] w fun e w' => ∃ a', e = .returned (.agg #[.slice a' 0 0, .int .i64 id]) ∧ (∀ g, RowB a' g → w.heap.size ≤ g ∧ g < w'.heap.size) ∧ Up w w' := by
  obtain ⟨i0, hi, hz0, hz1, hz2⟩ := info_parts info_value
  obtain ⟨M, hM⟩ : ∃ M, M = madeCells (Value.agg #[.int .i64 0, .int .i64 0, .string ⟨#[]⟩, .float .f64 0]).cells ((0 : Int).toNat * i0.size) := ⟨_, rfl⟩
  have hmk : ∀ W : World, (Instr.makeSlice 37 (.int .i64 0) (.int .i64 0)).run Tryz.prog W = .ok (.slice (some ⟨W.heap.size, 0, none⟩) 0 0) (W.alloc (.cells M 77)) := fun W => by
    have h := run_make (P := Tryz.prog) W 37 77 i0 (.agg #[.int .i64 0, .int .i64 0, .string ⟨#[]⟩, .float .f64 0]) Tryz.underlying37 hi hz0 .i64 .i64 0 0 (by omega) (by omega) (by rw [hz2]; omega) (by omega)
    rw [← hM] at h
    simpa using h
  clear hM hi hz0 hz1 hz2
  go_enter Tryz.func40, Tryz.ntmps40
  go_wp2_with fail
  refine wp_loop_rounds 1 ?_
  rw [rounds_succ]
  go_wp2
  exact bodyPost_ret (v := .agg #[.slice (some ⟨w.heap.size + 1 + 1, 0, none⟩) 0 0, .int .i64 id]) (by simp [results, Tryz.results40, go_sem]) rfl ⟨_, rfl, fun g hg => by obtain ⟨o, ho⟩ := hg; cases ho; exact ⟨by omega, by simp⟩, (((Up.refl _).alloc _).alloc _).alloc _⟩

theorem oxcopy_calls (a : Option Addr) (n c : Nat) (id : Int) (m : List VT) (w : World) (hn : n ≤ 12) (hv : Vals w a n m) (hs : ∀ i, (m.getD i zeroT).2.2.1.size ≤ 200) :
    Calls Tryz.prog 40 #[.agg #[.slice a n c, .int .i64 id]] w fun e w' => ∃ a', e = .returned (.agg #[.slice a' n n, .int .i64 id]) ∧ NewRow w.heap.size w' a' n m ∧ (∀ g, RowB a' g → w.heap.size ≤ g ∧ g < w'.heap.size) ∧ Up w w' := by
  by_cases h0 : n = 0
  · subst h0
    obtain rfl : m = [] := List.length_eq_zero_iff.1 hv.1
    refine (oxcopy_none a c id w).mono ?_
    rintro _ w1 ⟨a', rfl, hf, hu⟩
    exact ⟨a', rfl, ⟨⟨rfl, hv.2.1, .inl rfl⟩, .inl rfl⟩, hf, hu⟩
  · rcases hv.2.2 with h | ⟨b, off, rfl, hx⟩
    · exact absurd h h0
    · refine (oxcopy_some b off n c id m w hn hv.1 hx hv.2.1 hs).mono ?_
      rintro _ w1 ⟨a', rfl, hn1, hu⟩
      refine ⟨a', rfl, hn1, fun g hg => ?_, hu⟩
      rcases hn1.2 with h | ⟨G, h1, h2, h3, _⟩
      · exact absurd h h0
      · obtain ⟨o, ho⟩ := hg
        rw [h1] at ho
        cases ho
        exact ⟨h2, h3⟩

end Go.Proofs.YtnokokhbcfkifaaGreatDoor

namespace Go.Proofs.YtnokokhbcfkifaaGreatDoor
open Go.ChangeShapes Go.WideShapes Go.ChangeAt Go.RowKit
set_option linter.unusedVariables false
set_option maxRecDepth 100000
attribute [local go_sem ↓] Go.wp_at_zero Go.wp_at_succ

theorem insL_map (x : EP) (L : List EP) (r : Nat) : (insL x L r).map (·.1) = insL x.1 (L.map (·.1)) r := by
  unfold insL
  rw [List.map_append, List.map_cons, List.map_take, List.map_drop]
theorem mem_insL {x y : EP} {L : List EP} {r : Nat} (h : y ∈ insL x L r) : y = x ∨ y ∈ L := by
  unfold insL at h
  rcases List.mem_append.1 h with h | h
  · exact .inr (List.mem_of_mem_take h)
  · rcases List.mem_cons.1 h with h | h
    · exact .inl h
    · exact .inr (List.mem_of_mem_drop h)
/-- A row in new memory is a key that nobody writes into. -/
theorem NewRow.keyC {C : Nat → Prop} {B : Nat} {w : World} {a : Option Addr} {n : Nat} {m : List VT} (h : NewRow B w a n m) (hf : ∀ g, RowB a g → B ≤ g ∧ g < w.heap.size) (hn : n ≤ 12) (hs : ∀ i, (m.getD i zeroT).2.2.1.size ≤ 200) (hC : ∀ y, C y → y < B) : KeyC C w a n n m :=
  ⟨⟨hn, h.1, hs⟩, fun g hg hc => by have := hC g hc; have := hf g hg; omega, fun g hg => (hf g hg).2, Nat.le_refl _, Nat.le_trans hn (by decide)⟩
/-- What Insert leaves where it is done. -/
def InsOk (Y : Nat → Prop) (mp : Option Addr) (q mx nx X T : Nat) (u : Bool) (L : List EP) (hh n : Nat) (c t h s : Int) (m : List VT) (id : Int) (r : Nat) (w : World) (e : Ending) (w' : World) : Prop :=
  ∃ (k hh' n' : Nat) (x : ET), k ≤ 2 * bitsN L.length ∧ e = .returned (.tuple #[.int .i64 r, .nilIface]) ∧ IxW Y mp q mx nx X T u (insL (x, m) L r) hh' n' (c + k) t h s w' ∧ x.id = id ∧ n + 1 ≤ n' ∧ n' ≤ n + 19 ∧ Chg (XT T (InM mp)) w w'
theorem NewRow.low {B B' : Nat} {w : World} {a : Option Addr} {n : Nat} {m : List VT} (h : NewRow B w a n m) (hB : B' ≤ B) : NewRow B' w a n m := ⟨h.1, h.2.imp id (fun ⟨G, h1, h2, h3⟩ => ⟨G, h1, Nat.le_trans hB h2, h3⟩)⟩
theorem newKey_low {B B' : Nat} {w : World} {a : Option Addr} {n : Nat} {m : List VT} (h : NewRow B w a n m ∧ (∀ g, RowB a g → B ≤ g ∧ g < w.heap.size)) (hB : B' ≤ B) : NewRow B' w a n m ∧ (∀ g, RowB a g → B' ≤ g ∧ g < w.heap.size) := ⟨h.1.low hB, fun g hg => ⟨Nat.le_trans hB (h.2 g hg).1, (h.2 g hg).2⟩⟩
theorem TrDoneM.chg {Y : Nat → Prop} {T n h : Nat} {zs : List ET} {w w' : World} (d : TrDoneM Y T n h zs w w') : Chg (fun y => y = T) w w' := by
  obtain ⟨_, _, _, _, _, h⟩ := d
  exact h
set_option maxHeartbeats 4000000 in
theorem insert_ok (Y : Nat → Prop) (mp : Option Addr) (q mx nx X T : Nat) (u : Bool) (L : List EP) (hh n : Nat) (c t h s : Int) (ka : Option Addr) (kn kc : Nat) (m : List VT) (id : Int) (p p' r : Nat) (w : World) (i : IxW Y mp q mx nx X T u L hh n c t h s w) (hL : L.length ≤ 100000) (hn : n ≤ 9000000) (hc0 : 0 ≤ c) (hc1 : c ≤ 800000) (ht : t = 0 ∨ t ≤ c) (kk : KeyC (InM mp) w ka kn kc m) (hs : Spot q L m p p') (hr : RankAt L p p' id r)
    (hnot : decide (r < p' ∧ (L.getD r (zeroET, [])).1.id = id) = false) (hu : (u && decide (p < p')) = false) :
    Calls Tryz.prog 15 #[.pointer (some ⟨X, 0, none⟩), .slice ka kn kc, .int .i64 id] w fun e w' => InsOk Y mp q mx nx X T u L hh n c t h s m id r w e w' := by
  have hsp := spotOf_ok Y mp q mx nx X T u L hh n c t h s ka kn kc m id p p' r w i hL hc0 hc1 ht kk hs hr
  rw [hnot] at hsp
  unfold SpotOk spotV at hsp
  have HSP := hide hsp
  have HI := hide i
  have HS := hide hs
  have HR := hide hr
  have HK := hide kk
  clear hsp i hs hr kk hnot
  go_enter Tryz.func15, Tryz.ntmps15
  go_wp2_with fail
  refine HSP.out.mono ?_
  rintro _ w1 ⟨k1, hk1, rfl, hc1', hm1⟩
  have ix1 := HI.out.met hc1' hm1
  obtain ⟨W2, hW2⟩ : ∃ W2, W2 = w1.alloc (.cells #[.int .i64 (p : Int), .int .i64 (p' : Int), .int .i64 (r : Int), .bool false] 95) := ⟨_, rfl⟩
  have u2 : Up w1 W2 := by rw [hW2]; exact (Up.refl _).alloc _
  have s0 : W2.cell? ⟨w1.heap.size, 0, none⟩ = some (.int .i64 (p : Int)) := by rw [hW2]; go_simp
  have s1 : W2.cell? ⟨w1.heap.size, 1, none⟩ = some (.int .i64 (p' : Int)) := by rw [hW2]; go_simp
  have s2 : W2.cell? ⟨w1.heap.size, 2, none⟩ = some (.int .i64 (r : Int)) := by rw [hW2]; go_simp
  have s3 : W2.cell? ⟨w1.heap.size, 3, none⟩ = some (.bool false) := by rw [hW2]; go_simp
  have f3 : W2.frozen? ⟨w1.heap.size, 3, none⟩ = false := by rw [hW2]; go_simp
  have hW2' := hW2.symm
  obtain ⟨W3, hW3⟩ : ∃ W3, W3 = W2.setCell ⟨w1.heap.size, 3, none⟩ (.bool false) := ⟨_, rfl⟩
  have c3 : Chg (fun y => y = w1.heap.size) W2 W3 := by rw [hW3]; exact (Chg.refl _ W2).set (C := fun y => y = w1.heap.size) (p := ⟨w1.heap.size, 3, none⟩) (fun _ => rfl) _
  have u3 : Up w1 W3 := up_of_chg_new u2 c3 (Nat.le_refl _)
  have z0 : W3.cell? ⟨w1.heap.size, 0, none⟩ = some (.int .i64 (p : Int)) := by rw [hW3]; exact (World.cell?_setCell_other _ _ _ _ (by intro e; cases e)).trans s0
  have z1 : W3.cell? ⟨w1.heap.size, 1, none⟩ = some (.int .i64 (p' : Int)) := by rw [hW3]; exact (World.cell?_setCell_other _ _ _ _ (by intro e; cases e)).trans s1
  have z2 : W3.cell? ⟨w1.heap.size, 2, none⟩ = some (.int .i64 (r : Int)) := by rw [hW3]; exact (World.cell?_setCell_other _ _ _ _ (by intro e; cases e)).trans s2
  have z3 : W3.cell? ⟨w1.heap.size, 3, none⟩ = some (.bool false) := by rw [hW3]; exact World.cell?_setCell_same _ _ _ s3
  have hW3' := hW3.symm
  have ix3 := ix1.up u3
  have x0 := ix3.x0
  have x2 := ix3.x2
  have HC3 := hide (hc1'.andUp u3)
  have IX3 := hide ix3
  have HK1 := hide hk1
  have HKEY := hide ((HK.out.chg hc1').up u3)
  have IXT : Hid (T < w1.heap.size) := ix1.tr.tr.lt
  have hWl : w1.heap.size < W3.heap.size := by rw [hW3, hW2]; simp
  have t1 : u = true → ¬ p < p' := fun hut => by
    rw [hut, Bool.true_and] at hu
    exact of_decide_eq_false hu
  clear hc1' hm1 hk1 ix1 HSP hu u2 u3 c3 ix3 hW2 hW3
  dsimp only
  cases u with
  | true =>
    have t2 : decide ((p : Int) < (p' : Int)) = false := decide_eq_false (by have := t1 rfl; omega)
    have t3 : decide (p < p') = false := decide_eq_false (t1 rfl)
    clear t1
    go_wp2_with fail
    clear hW2' hW3'
    have HCOP : Hid (∀ w', Up W3 w' → Calls Tryz.prog 40 #[.agg #[.slice ka kn kc, .int .i64 id]] w' fun e w'' => ∃ a', e = .returned (.agg #[.slice a' kn kn, .int .i64 id]) ∧ (NewRow w'.heap.size w'' a' kn m ∧ (∀ g, RowB a' g → w'.heap.size ≤ g ∧ g < w''.heap.size)) ∧ Up w' w'') := fun w' hw' => (oxcopy_calls ka kn kc id m w' HKEY.out.k.few (HKEY.out.k.up hw').vals HKEY.out.k.sh).mono (fun _ _ ⟨a', h1, h2, h3, h4⟩ => ⟨a', h1, ⟨h2, h3⟩, h4⟩)
    have HINS : Hid (∀ (w5 w' : World) (a5 : Option Addr), Up W3 w5 → Up w5 w' → Calls Tryz.prog 39 #[.pointer (some ⟨T, 0, none⟩), .int .i64 (r : Int), .agg #[.slice a5 kn kn, .int .i64 id]] w' fun e w'' => e = .returned (.int .i64 0) ∧ TrDoneM Y T n hh (insL ⟨a5, kn, kn, id⟩ (L.map (·.1)) r) w5 w'') := fun w5 w' a5 h5 h' => by
      have i5 := IX3.out.up (h5.trans h')
      refine (insertAtM_ok Y T hh n r ⟨a5, kn, kn, id⟩ (L.map (·.1)) w' i5.aT i5.yl i5.tr (by have := HR.out.hi; have := HS.out.top; simp; omega) (by simpa using hL) (by omega)).mono ?_
      rintro _ w'' ⟨rfl, h1, k, h2, h3, h4, h6⟩
      exact ⟨rfl, h1, k, h2, h3, h4, (Chg.of_up h').trans h6 (fun _ _ h => h)⟩
    have hTl : T < w1.heap.size := IXT.out
    have HKS : Hid (∀ w', Chg (fun y => y = T) W3 w' → (Chg (fun y => y = T) W3 w' ∧ w'.cell? ⟨X, 2, none⟩ = some (.pointer (some ⟨T, 0, none⟩)) ∧ w'.cell? ⟨w1.heap.size, 2, none⟩ = some (.int .i64 (r : Int)))) := fun w' hw => ⟨hw, hw.cell x2 (fun e => IX3.out.aX (.inl e)), hw.cell z2 (fun e => by have e' : w1.heap.size = T := e; omega)⟩
    have tok1 : True := trivial
    have tok2 : True := trivial
    go_region_held3 (fun w' => Chg (fun y => y = T) W3 w' ∧ w'.cell? ⟨X, 2, none⟩ = some (.pointer (some ⟨T, 0, none⟩)) ∧ w'.cell? ⟨w1.heap.size, 2, none⟩ = some (.int .i64 (r : Int))) (exact HKS.out _ (by repeat' (with_reducible first | assumption | exact Chg.refl _ _ | apply Chg.alloc | apply Chg.drew)))
      (first
        | (clear tok1; go_at_call 40; refine (HCOP.out _ (by repeat' (with_reducible first | assumption | exact Up.refl _ | apply Up.alloc | apply Up.drew))).mono ?_; rintro _ w5 ⟨a5, rfl, hn5, hu5⟩; have hv5 : Up W3 w5 := Up.trans (by repeat' (with_reducible first | assumption | exact Up.refl _ | apply Up.alloc | apply Up.drew)) hu5; have hx5 : Chg (fun y => y = T) W3 w5 := Chg.of_up hv5; replace hn5 := hide (newKey_low hn5 (Up.size (w := W3) (by repeat' (with_reducible first | assumption | exact Up.refl _ | apply Up.alloc | apply Up.drew)))); clear hu5)
        | (clear tok2; go_at_call 39; refine (HINS.out w5 _ a5 hv5 (by repeat' (with_reducible first | assumption | exact Up.refl _ | apply Up.alloc | apply Up.drew))).mono ?_; rintro _ w6 ⟨rfl, hd6⟩; have hx6 : Chg (fun y => y = T) W3 w6 := hx5.trans hd6.chg (fun _ _ h => h); have y2 := hx6.cell z2 (fun e => by have e' : w1.heap.size = T := e; omega); replace hd6 := hide hd6))
    all_goals
      have HV5 := hide hv5
      have HX6 := hide hx6
      clear hv5 hx5 hx6
      go_wp2_with fail
      go_ret2
      obtain ⟨hh', k, ht6, hk61, hk62, hc6⟩ := hd6.out
      have hh8 := IX3.out.tr.tr.hle (by simpa using hL)
      refine ⟨k1, hh', n + k, ⟨a5, kn, kn, id⟩, HK1.out, rfl, (IX3.out.up HV5.out).tree hc6 (by rw [insL_map]; exact ht6) (fun y hy => ?_), rfl, by omega, by omega, ?_⟩
      · rcases mem_insL hy with rfl | hy
        · exact hn5.out.1.keyC hn5.out.2 HKEY.out.k.few HKEY.out.k.sh (fun y hy => by
            rcases hy with rfl | hy
            · exact Nat.lt_trans hTl hWl
            · exact IX3.out.yl y hy)
        · exact (IX3.out.ke y hy).up HV5.out
      · exact (HC3.out.mono (D := XT T (InM mp)) (fun _ _ h => .inr h)).trans HX6.out (fun _ _ h => .inl h)
  | false =>
    clear t1
    go_wp2_with fail
    clear hW2' hW3'
    have HCOP : Hid (∀ w', Up W3 w' → Calls Tryz.prog 40 #[.agg #[.slice ka kn kc, .int .i64 id]] w' fun e w'' => ∃ a', e = .returned (.agg #[.slice a' kn kn, .int .i64 id]) ∧ (NewRow w'.heap.size w'' a' kn m ∧ (∀ g, RowB a' g → w'.heap.size ≤ g ∧ g < w''.heap.size)) ∧ Up w' w'') := fun w' hw' => (oxcopy_calls ka kn kc id m w' HKEY.out.k.few (HKEY.out.k.up hw').vals HKEY.out.k.sh).mono (fun _ _ ⟨a', h1, h2, h3, h4⟩ => ⟨a', h1, ⟨h2, h3⟩, h4⟩)
    have HINS : Hid (∀ (w5 w' : World) (a5 : Option Addr), Up W3 w5 → Up w5 w' → Calls Tryz.prog 39 #[.pointer (some ⟨T, 0, none⟩), .int .i64 (r : Int), .agg #[.slice a5 kn kn, .int .i64 id]] w' fun e w'' => e = .returned (.int .i64 0) ∧ TrDoneM Y T n hh (insL ⟨a5, kn, kn, id⟩ (L.map (·.1)) r) w5 w'') := fun w5 w' a5 h5 h' => by
      have i5 := IX3.out.up (h5.trans h')
      refine (insertAtM_ok Y T hh n r ⟨a5, kn, kn, id⟩ (L.map (·.1)) w' i5.aT i5.yl i5.tr (by have := HR.out.hi; have := HS.out.top; simp; omega) (by simpa using hL) (by omega)).mono ?_
      rintro _ w'' ⟨rfl, h1, k, h2, h3, h4, h6⟩
      exact ⟨rfl, h1, k, h2, h3, h4, (Chg.of_up h').trans h6 (fun _ _ h => h)⟩
    have hTl : T < w1.heap.size := IXT.out
    have HKS : Hid (∀ w', Chg (fun y => y = T) W3 w' → (Chg (fun y => y = T) W3 w' ∧ w'.cell? ⟨X, 2, none⟩ = some (.pointer (some ⟨T, 0, none⟩)) ∧ w'.cell? ⟨w1.heap.size, 2, none⟩ = some (.int .i64 (r : Int)))) := fun w' hw => ⟨hw, hw.cell x2 (fun e => IX3.out.aX (.inl e)), hw.cell z2 (fun e => by have e' : w1.heap.size = T := e; omega)⟩
    have tok1 : True := trivial
    have tok2 : True := trivial
    go_region_held3 (fun w' => Chg (fun y => y = T) W3 w' ∧ w'.cell? ⟨X, 2, none⟩ = some (.pointer (some ⟨T, 0, none⟩)) ∧ w'.cell? ⟨w1.heap.size, 2, none⟩ = some (.int .i64 (r : Int))) (exact HKS.out _ (by repeat' (with_reducible first | assumption | exact Chg.refl _ _ | apply Chg.alloc | apply Chg.drew)))
      (first
        | (clear tok1; go_at_call 40; refine (HCOP.out _ (by repeat' (with_reducible first | assumption | exact Up.refl _ | apply Up.alloc | apply Up.drew))).mono ?_; rintro _ w5 ⟨a5, rfl, hn5, hu5⟩; have hv5 : Up W3 w5 := Up.trans (by repeat' (with_reducible first | assumption | exact Up.refl _ | apply Up.alloc | apply Up.drew)) hu5; have hx5 : Chg (fun y => y = T) W3 w5 := Chg.of_up hv5; replace hn5 := hide (newKey_low hn5 (Up.size (w := W3) (by repeat' (with_reducible first | assumption | exact Up.refl _ | apply Up.alloc | apply Up.drew)))); clear hu5)
        | (clear tok2; go_at_call 39; refine (HINS.out w5 _ a5 hv5 (by repeat' (with_reducible first | assumption | exact Up.refl _ | apply Up.alloc | apply Up.drew))).mono ?_; rintro _ w6 ⟨rfl, hd6⟩; have hx6 : Chg (fun y => y = T) W3 w6 := hx5.trans hd6.chg (fun _ _ h => h); have y2 := hx6.cell z2 (fun e => by have e' : w1.heap.size = T := e; omega); replace hd6 := hide hd6))
    all_goals
      have HV5 := hide hv5
      have HX6 := hide hx6
      clear hv5 hx5 hx6
      go_wp2_with fail
      go_ret2
      obtain ⟨hh', k, ht6, hk61, hk62, hc6⟩ := hd6.out
      have hh8 := IX3.out.tr.tr.hle (by simpa using hL)
      refine ⟨k1, hh', n + k, ⟨a5, kn, kn, id⟩, HK1.out, rfl, (IX3.out.up HV5.out).tree hc6 (by rw [insL_map]; exact ht6) (fun y hy => ?_), rfl, by omega, by omega, ?_⟩
      · rcases mem_insL hy with rfl | hy
        · exact hn5.out.1.keyC hn5.out.2 HKEY.out.k.few HKEY.out.k.sh (fun y hy => by
            rcases hy with rfl | hy
            · exact Nat.lt_trans hTl hWl
            · exact IX3.out.yl y hy)
        · exact (IX3.out.ke y hy).up HV5.out
      · exact (HC3.out.mono (D := XT T (InM mp)) (fun _ _ h => .inr h)).trans HX6.out (fun _ _ h => .inl h)
end Go.Proofs.YtnokokhbcfkifaaGreatDoor

namespace Go.Proofs.YtnokokhbcfkifaaGreatDoor
open Go.ChangeShapes Go.WideShapes Go.ChangeAt Go.RowKit
set_option linter.unusedVariables false
set_option maxRecDepth 100000
attribute [local go_sem ↓] Go.wp_at_zero Go.wp_at_succ

theorem tnewM_calls (Y : Nat → Prop) (w : World) (hY : ∀ y, Y y → y < w.heap.size) : Calls Tryz.prog 31 #[] w fun e w' => ∃ T, e = .returned (.pointer (some ⟨T, 0, none⟩)) ∧ TrM Y w' T [] 0 0 ∧ w.heap.size ≤ T ∧ Up w w' := by
  have HY := hide hY
  clear hY
  go_enter Tryz.func31, Tryz.ntmps31
  go_wp2
  go_ret
  refine ⟨w.heap.size + 1, rfl, ⟨w.heap.size, ⟨by go_simp; rfl, by go_simp, by go_simp, by go_simp⟩, 0, ⟨.slice none 0 0, .slice none 0 0, ⟨?_, by go_simp, by go_simp, by go_simp⟩, RdV.nil _ _ _, Emp.nil, rfl⟩, by omega, fun h => absurd rfl h⟩, by omega, ((Up.refl _).alloc _).alloc _⟩
  rintro (h | h)
  · omega
  · have := HY.out _ h; omega
/-- What New tells. -/
def NewOk (Y : Nat → Prop) (mp : Option Addr) (q mx nx : Nat) (u : Bool) (c t h s : Int) (w : World) (e : Ending) (w' : World) : Prop := ∃ X T, e = .returned (.pointer (some ⟨X, 0, none⟩)) ∧ IxW Y mp q mx nx X T u [] 0 0 c t h s w' ∧ w.heap.size ≤ T ∧ Up w w'
theorem onew_calls (Y : Nat → Prop) (mp : Option Addr) (q mx nx : Nat) (u : Bool) (c t h s : Int) (w : World) (cw : CpW mp q mx nx c t h s w) (hq : q ≤ 2) (hyM : ∀ g, InM mp g → Y g) (hyl : ∀ g, Y g → g < w.heap.size) :
    Calls Tryz.prog 9 #[.bool u, cpF mx nx] w fun e w' => NewOk Y mp q mx nx u c t h s w e w' := by
  have HT := hide (tnewM_calls Y)
  have HC := hide cw
  clear cw
  unfold cpF
  go_enter Tryz.func9, Tryz.ntmps9
  go_wp2_with fail
  refine (HT.out w hyl).mono ?_
  rintro _ w1 ⟨T, rfl, ht, hT, hu⟩
  obtain ⟨W2, hW2⟩ : ∃ W2, W2 = w1.alloc (.cells #[.bool u, .func (.func 53) #[] #[.pointer (some ⟨mx, 0, none⟩), .pointer (some ⟨nx, 0, none⟩)], .pointer (some ⟨T, 0, none⟩)] 87) := ⟨_, rfl⟩
  have u2 : Up w1 W2 := by rw [hW2]; exact (Up.refl _).alloc _
  have x0 : W2.cell? ⟨w1.heap.size, 0, none⟩ = some (.bool u) := by rw [hW2]; go_simp
  have x1 : W2.cell? ⟨w1.heap.size, 1, none⟩ = some (cpF mx nx) := by rw [hW2]; unfold cpF; go_simp
  have x2 : W2.cell? ⟨w1.heap.size, 2, none⟩ = some (.pointer (some ⟨T, 0, none⟩)) := by rw [hW2]; go_simp
  have far : ∀ y, w.heap.size ≤ y → ¬ Y y := fun y hy h => by have := hyl y h; omega
  have hTl := ht.tr.lt
  have HIX : Hid (IxW Y mp q mx nx w1.heap.size T u [] 0 0 c t h s W2) := by
    have a1 := World.block_lt_of_cell? w _ HC.out.k0
    have a2 := World.block_lt_of_cell? w _ HC.out.k1
    have a3 := World.block_lt_of_cell? w _ HC.out.tab
    simp only at a1 a2 a3
    refine ⟨x0, x1, x2, HC.out.up (hu.trans u2), ht.up u2, fun p hp => absurd hp (by simp), fun e => ?_, far T hT, by omega, by omega, ?_, hq, hyM, ?_⟩
    · rcases e with e | e
      · omega
      · exact far w1.heap.size hu.size e
    · intro e
      rw [e] at a3
      omega
    · exact fun g hg => Nat.lt_of_lt_of_le (hyl g hg) (hu.trans u2).size
  have HU := hide (hu.trans u2)
  have HTT := hide hT
  have hW2' := hW2.symm
  clear ht hu u2 x0 x1 x2 far hT hW2 hTl
  dsimp only
  go_wp2
  go_ret
  exact ⟨_, T, rfl, HIX.out, HTT.out, HU.out⟩
theorem orank_ok (mp : Option Addr) (q mx nx X T : Nat) (u : Bool) (L : List EP) (hh n : Nat) (c t h s : Int) (ka : Option Addr) (kn kc : Nat) (m : List VT) (id : Int) (p p' r : Nat) (b : Bool) (w : World) (hsp : Calls Tryz.prog 37 #[.pointer (some ⟨X, 0, none⟩), .slice ka kn kc, .int .i64 id] w fun e w' => SpotOk mp c t h s L.length p p' r b w e w') :
    Calls Tryz.prog 19 #[.pointer (some ⟨X, 0, none⟩), .slice ka kn kc, .int .i64 id] w fun e w' => ∃ k : Nat, k ≤ 2 * bitsN L.length ∧ e = .returned (.tuple #[.int .i64 r, .bool b, .nilIface]) ∧ Chg (InM mp) w w' ∧ MetO w' mp (c + k) t h s := by
  unfold SpotOk spotV at hsp
  have HSP := hide hsp
  clear hsp
  go_enter Tryz.func19, Tryz.ntmps19
  go_wp2_with fail
  refine HSP.out.mono ?_
  rintro _ w1 ⟨k1, hk1, rfl, hc1, hm1⟩
  have HH := hide (show Chg (InM mp) w w1 ∧ MetO w1 mp (c + k1) t h s from ⟨hc1, hm1⟩)
  clear hc1 hm1 HSP
  dsimp only
  go_wp2_with fail
  obtain ⟨W2, hW2⟩ : ∃ W2, W2 = w1.alloc (.cells #[.int .i64 (p : Int), .int .i64 (p' : Int), .int .i64 (r : Int), .bool b] 95) := ⟨_, rfl⟩
  have u2 : Up w1 W2 := by rw [hW2]; exact (Up.refl _).alloc _
  have s2 : W2.cell? ⟨w1.heap.size, 2, none⟩ = some (.int .i64 (r : Int)) := by rw [hW2]; go_simp
  have s3 : W2.cell? ⟨w1.heap.size, 3, none⟩ = some (.bool b) := by rw [hW2]; go_simp
  rw [← hW2]
  have HU2 := hide u2
  clear hW2 u2
  go_quiet (fail)
  have HG : Hid (Chg (InM mp) w (W2.drewN nq) ∧ MetO (W2.drewN nq) mp (c + k1) t h s) := ⟨HH.out.1.andUp (HU2.out.drewN nq), HH.out.2.up (HU2.out.drewN nq)⟩
  go_wp2
  refine bodyPost_ret (v := .tuple #[.int .i64 r, .bool b, .nilIface]) (by simp [results, Tryz.results19, go_sem]) rfl ⟨k1, hk1, rfl, HG.out⟩
set_option maxHeartbeats 1000000 in
theorem oerase_not (mp : Option Addr) (q mx nx X T : Nat) (u : Bool) (L : List EP) (hh n : Nat) (c t h s : Int) (ka : Option Addr) (kn kc : Nat) (m : List VT) (id : Int) (p p' r : Nat) (w : World) (hsp : Calls Tryz.prog 37 #[.pointer (some ⟨X, 0, none⟩), .slice ka kn kc, .int .i64 id] w fun e w' => SpotOk mp c t h s L.length p p' r false w e w') :
    Calls Tryz.prog 17 #[.pointer (some ⟨X, 0, none⟩), .slice ka kn kc, .int .i64 id] w fun e w' => ∃ k : Nat, k ≤ 2 * bitsN L.length ∧ e = .returned (.tuple #[.int .i64 0, .iface 56 (.int .i64 71)]) ∧ Chg (InM mp) w w' ∧ MetO w' mp (c + k) t h s := by
  unfold SpotOk spotV at hsp
  have HSP := hide hsp
  clear hsp
  go_enter Tryz.func17, Tryz.ntmps17
  go_wp2_with fail
  refine HSP.out.mono ?_
  rintro _ w1 ⟨k1, hk1, rfl, hc1, hm1⟩
  have HH := hide (show Chg (InM mp) w w1 ∧ MetO w1 mp (c + k1) t h s from ⟨hc1, hm1⟩)
  clear hc1 hm1 HSP
  dsimp only
  have HG : Hid (∀ x, Chg (InM mp) w (w1.alloc x) ∧ MetO (w1.alloc x) mp (c + k1) t h s) := fun x => ⟨HH.out.1.andUp ((Up.refl _).alloc _), HH.out.2.up ((Up.refl _).alloc _)⟩
  go_wp2_with fail
  go_ret2
  exact ⟨k1, hk1, rfl, HG.out _⟩
/-- At, of a place that is there. -/
theorem oat_ok (X T hh n : Nat) (L : List EP) (j : Nat) (C : Nat → Prop) (w : World) (x2 : w.cell? ⟨X, 2, none⟩ = some (.pointer (some ⟨T, 0, none⟩))) (t : TrE w T (L.map (·.1)) hh n) (hk : ∀ p ∈ L, KeyC C w p.1.a p.1.n p.1.c p.2) (hj : j < L.length) (hL : L.length ≤ 100000) :
    Calls Tryz.prog 28 #[.pointer (some ⟨X, 0, none⟩), .int .i64 j] w fun e w' => ∃ a' : Option Addr, e = .returned (.tuple #[.agg #[.slice a' L[j].1.n L[j].1.n, .int .i64 L[j].1.id], .bool true]) ∧ NewRow w.heap.size w' a' L[j].1.n L[j].2 ∧ (∀ g, RowB a' g → w.heap.size ≤ g ∧ g < w'.heap.size) ∧ Up w w' := by
  obtain ⟨W, hW⟩ : ∃ W, W = w.alloc (.cells #[.slice none 0 0, .int .i64 0] 51) := ⟨_, rfl⟩
  have uW : Up w W := by rw [hW]; exact (Up.refl _).alloc _
  have hB : Box2 w.heap.size W := by rw [hW]; exact ⟨by go_simp, by go_simp, by go_simp, by go_simp⟩
  have hWl : w.heap.size < W.heap.size := by rw [hW]; simp
  have hat := tatE_ok T hh n j zeroET (L.map (·.1)) W (t.up uW) (by simpa using hj) (by simpa using hL)
  rw [map_getD] at hat
  have e0 : (L.getD j (zeroET, [])) = L[j] := by rw [List.getD_eq_getElem?_getD, List.getElem?_eq_getElem hj]; rfl
  rw [e0] at hat
  have kj := hk L[j] (List.getElem_mem hj)
  obtain ⟨⟨x, vs⟩, hx⟩ : ∃ x, x = L[j] := ⟨_, rfl⟩
  rw [← hx] at hat kj ⊢
  dsimp only at hat kj ⊢
  unfold encE at hat
  have HAT := hide hat
  have HKJ := hide kj
  have HB := hide hB
  have HUW := hide uW
  replace x2 := uW.cell x2
  have hW' := hW.symm
  clear hat kj hk t e0 hx hB uW hW
  go_enter Tryz.func28, Tryz.ntmps28
  go_wp2_with fail
  clear hW'
  refine HAT.out.mono ?_
  rintro _ w1 ⟨rfl, hu1⟩
  obtain ⟨W2, hW2⟩ : ∃ W2, W2 = w1.alloc (.cells #[.slice x.a x.n x.c, .int .i64 x.id] 51) := ⟨_, rfl⟩
  have u2 : Up w1 W2 := by rw [hW2]; exact (Up.refl _).alloc _
  have d0 : W2.cell? ⟨w1.heap.size, 0, none⟩ = some (.slice x.a x.n x.c) := by rw [hW2]; go_simp
  have d1 : W2.cell? ⟨w1.heap.size, 1, none⟩ = some (.int .i64 x.id) := by rw [hW2]; go_simp
  have hcop := oxcopy_calls x.a x.n x.c x.id vs W2 HKJ.out.k.few (HKJ.out.k.up (HUW.out.trans (hu1.trans u2))).vals HKJ.out.k.sh
  have HCOP := hide hcop
  have HU2 := hide (hu1.trans u2)
  have hW2' := hW2.symm
  clear hu1 u2 hcop hW2 HAT
  dsimp only
  go_wp2_with fail
  clear hW2'
  refine HCOP.out.mono ?_
  rintro _ w3 ⟨a3, rfl, hn3, hf3, hu3⟩
  obtain ⟨b0, b1, f0, f1⟩ := box_chg HB.out (Chg.of_up (C := fun _ => False) (HU2.out.trans hu3)) (fun h => h)
  obtain ⟨v0, g0⟩ := Option.isSome_iff_exists.1 b0
  obtain ⟨v1, g1⟩ := Option.isSome_iff_exists.1 b1
  have s1 := set2_chg w3 w.heap.size (.slice a3 x.n x.n) (.int .i64 x.id)
  have HFIN : Hid (NewRow w.heap.size (set2 w3 w.heap.size (.slice a3 x.n x.n) (.int .i64 x.id)) a3 x.n vs ∧ (∀ g, RowB a3 g → w.heap.size ≤ g ∧ g < (set2 w3 w.heap.size (.slice a3 x.n x.n) (.int .i64 x.id)).heap.size) ∧ Up w (set2 w3 w.heap.size (.slice a3 x.n x.n) (.int .i64 x.id))) := by
    have hs2 : w.heap.size < W2.heap.size := Nat.lt_of_lt_of_le hWl HU2.out.size
    refine ⟨⟨hn3.1.chg s1 (fun g hg e => by have := hf3 g hg; have e' : g = w.heap.size := e; omega), hn3.2.imp id (fun ⟨G, h1, h2, h3, h4⟩ => ⟨G, h1, by omega, by have := s1.size; omega, fun i => ?_⟩)⟩, fun g hg => by have := hf3 g hg; have := s1.size; omega, up_of_chg_new (HUW.out.trans (HU2.out.trans hu3)) s1 (Nat.le_refl _)⟩
    exact (s1.frozen (p := ⟨G, i, none⟩) h3 (fun e => by have e' : G = w.heap.size := e; omega)).trans (h4 i)
  have k0 : (set2 w3 w.heap.size (.slice a3 x.n x.n) (.int .i64 x.id)).cell? ⟨w.heap.size, 0, none⟩ = some (.slice a3 x.n x.n) := set2_c0 g0
  have k1 : (set2 w3 w.heap.size (.slice a3 x.n x.n) (.int .i64 x.id)).cell? ⟨w.heap.size, 1, none⟩ = some (.int .i64 x.id) := set2_c1 g1
  unfold set2 at k0 k1
  clear b0 b1 hn3 hf3 hu3 s1
  dsimp only
  go_wp2
  exact bodyPost_ret (v := .tuple #[.agg #[.slice a3 x.n x.n, .int .i64 x.id], .bool true]) (by simp [results, Tryz.results28, go_sem, k0, k1]) rfl ⟨a3, rfl, HFIN.out⟩
end Go.Proofs.YtnokokhbcfkifaaGreatDoor
