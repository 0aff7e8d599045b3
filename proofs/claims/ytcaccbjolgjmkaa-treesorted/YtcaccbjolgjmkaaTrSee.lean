/-
  Search of a counted tree, and TreeSearch of rialtolaw11, as their text runs.
-/
import Derived.Test.YtcaccbjolgjmkaaTrSea
import Derived.Lib.MinMax
namespace Go.Proofs.Ytcaccbjolgjmkaa
open Go.ChangeShapes Go.WideShapes Go.ChangeAt Go.RowKit
set_option linter.unusedVariables false
set_option maxRecDepth 100000
attribute [local go_sem ↓] Go.wp_at_zero Go.wp_at_succ

set_option maxHeartbeats 4000000 in
/-- Search by whatever question: I says what holds behind so many askings. -/
theorem tsearch_calls (T h n p : Nat) (g : FuncId) (cb : Array Value) (xs : List Int) (qv : Int → Bool) (I : Nat → World → Prop) (w W : World) (hW : W = (w.alloc (.cells #[.pointer (some ⟨T, 0, none⟩)] 24)).alloc (.cells #[.func (.func g) #[] cb] 42)) (hx : xs.length ≤ 100000) (hg : ∀ args w, (callFunc g args).run Try.prog w = .ok (.enter g args) w) (hA : AskV g cb qv I) (hIu : ∀ k w w', I k w → Up w w' → I k w')
    (hI : ∀ k w', I k w' → TrI w' T xs h n ∧ w'.cell? ⟨w.heap.size, 0, none⟩ = some (.pointer (some ⟨T, 0, none⟩)) ∧ w'.cell? ⟨w.heap.size + 1, 0, none⟩ = some (.func (.func g) #[] cb))
    (hI0 : I 0 W) (hp : p ≤ xs.length) (hlo : ∀ i, i < p → qv (xs.getD i 0) = false) (hhi : ∀ i, p ≤ i → i < xs.length → qv (xs.getD i 0) = true) :
    Calls Try.prog 22 #[.pointer (some ⟨T, 0, none⟩), .func (.func g) #[] cb] w fun e w' => SeaPost p xs.length I e w' := by
  obtain ⟨t, c0, c1⟩ := hI 0 W hI0
  have HL := hide (tlenI_calls T h n xs W t)
  have HS := hide (sortSearch_calls 42 #[.pointer (some ⟨w.heap.size, 0, none⟩), .pointer (some ⟨w.heap.size + 1, 0, none⟩)] xs.length p _ I W (by omega) (enters_of Try.func42 (by kernel_rfl) rfl) (ask1_calls T h n w.heap.size (w.heap.size + 1) g cb xs qv I hx hg hA hIu hI) hp hlo hhi hI0)
  have hW' := hW.symm
  clear t hA hI hIu hI0 hW hlo hhi
  go_enter Try.func22, Try.ntmps22
  go_wp2_with fail
  clear hW'
  refine HL.out.mono ?_
  rintro _ w1 ⟨rfl, hw1⟩
  obtain rfl : W = w1 := hw1.symm
  dsimp only
  go_wp2_with fail
  refine HS.out.mono ?_
  rintro _ w2 ⟨k2, rfl, hI2, hk2⟩
  replace hI2 := hide hI2
  dsimp only
  go_wp2
  go_ret
  exact ⟨k2, rfl, hI2.out, hk2⟩
/-- Numbers, rising from nought. -/
def nums (i : Nat) : List Int := (List.range i).map (fun (j : Nat) => (j : Int))
theorem nums_len (i : Nat) : (nums i).length = i := by unfold nums; simp
theorem nums_put (i : Nat) : insL (i : Int) (nums i) i = nums (i + 1) := by
  unfold insL
  rw [List.take_of_length_le (by rw [nums_len]; exact Nat.le_refl _), List.drop_eq_nil_of_le (by rw [nums_len]; exact Nat.le_refl _)]
  unfold nums
  rw [List.range_succ, List.map_append]
  rfl
theorem nums_get (k i : Nat) (h : i < k) : (nums k).getD i 0 = (i : Int) := by
  rw [List.getD_eq_getElem?_getD]
  unfold nums
  rw [List.getElem?_map, List.getElem?_range h]
  rfl
/-- What holds while the question is asked. -/
structure SeaI (T h n ab fs : Nat) (first : Int) (xs : List Int) (w W : World) (k : Nat) (w' : World) : Prop where
  top : ∃ b, TrC w' T (pE b) n ∧ Top (Value.int .i64) (XT T (fun y => y = ab)) w' b xs h
  asked : w'.cell? ⟨ab, 0, none⟩ = some (.int .i64 k)
  free : w'.frozen? ⟨ab, 0, none⟩ = false
  first : w'.cell? ⟨fs, 0, none⟩ = some (.int .i64 first)
  chg : Chg (fun y => y = ab) W w'
theorem SeaI.up {T h n ab fs : Nat} {first : Int} {xs : List Int} {w W : World} {k : Nat} {w' w'' : World} (s : SeaI T h n ab fs first xs w W k w') (hu : Up w' w'') : SeaI T h n ab fs first xs w W k w'' := by
  obtain ⟨b, h1, q, h2, h3⟩ := s.top
  exact ⟨⟨b, h1.up hu, q, h2.chg (Chg.of_up hu), h3⟩, hu.cell s.asked, (hu.frozen (p := ⟨ab, 0, none⟩) (World.block_lt_of_cell? _ _ s.asked)).trans s.free, hu.cell s.first, s.chg.andUp hu⟩
theorem SeaI.tr {T h n ab fs : Nat} {first : Int} {xs : List Int} {w W : World} {k : Nat} {w' : World} (s : SeaI T h n ab fs first xs w W k w') : TrI w' T xs h n := by
  obtain ⟨b, h1, q, h2, h3⟩ := s.top
  exact ⟨b, h1, q, h2.mono (fun y _ e => .inl e), h3⟩
theorem sea1_calls (T h n ab fs : Nat) (first : Int) (xs : List Int) (w W : World) (habT : ab ≠ T) (hfs : fs ≠ ab) :
    AskV 23 #[.pointer (some ⟨ab, 0, none⟩), .pointer (some ⟨fs, 0, none⟩)] (fun x => decide (first ≤ x)) (fun k w' => SeaI T h n ab fs first xs w W k w') := by
  intro k x w1 hk s
  have c0 := s.asked
  have f0 := s.free
  have c1 := s.first
  have e1 : IntKind.i64.wrap ((k : Int) + 1) = ((k + 1 : Nat) : Int) := by rw [IntKind.wrap_i64]; omega
  have HS : Hid (SeaI T h n ab fs first xs w W (k + 1) (w1.setCell ⟨ab, 0, none⟩ (.int .i64 ((k : Int) + 1)))) := by
    have hc := (Chg.refl (fun y => y = ab) w1).set (C := fun y => y = ab) (p := ⟨ab, 0, none⟩) (fun _ => rfl) (.int .i64 ((k : Int) + 1))
    obtain ⟨b, h1, q, h2, h3⟩ := s.top
    refine ⟨⟨b, h1.chg hc (fun e => habT e.symm), q, h2.chg (hc.mono (fun y _ e => .inr e)), h3⟩, World.cell?_setCell_same _ _ _ c0, by simp [f0], hc.cell c1 hfs, s.chg.trans hc (fun _ _ h => h)⟩
  have c1' : (w1.setCell ⟨ab, 0, none⟩ (.int .i64 ((k : Int) + 1))).cell? ⟨fs, 0, none⟩ = some (.int .i64 first) := HS.out.first
  clear s
  go_enter Try.func23, Try.ntmps23
  go_wp2
  go_ret
  exact ⟨rfl, HS.out⟩
/-- What holds from round to round. -/
def NumIn (w : World) (T i : Nat) (wr : World) : Prop := ∃ (h n : Nat), TrI wr T (nums i) h n ∧ n ≤ 20 * i ∧ Up w wr
set_option maxHeartbeats 8000000 in
theorem treeSearch_all (a0 first : Int) (w : World) (h0 : 0 ≤ a0 ∧ a0 ≤ 255) :
    Calls Try.prog 4 #[.int .u8 a0, .int .i64 first] w fun e w' => e = .returned (.bool true) ∧ Up w w' := by
  obtain ⟨k0, rfl⟩ : ∃ k : Nat, a0 = (k : Int) := ⟨a0.toNat, by omega⟩
  have hk0 : k0 ≤ 255 := by omega
  have ek0 : IntKind.i64.wrap (k0 : Int) = (k0 : Int) := by rw [IntKind.wrap_i64]; omega
  obtain ⟨k, hk⟩ : ∃ k : Nat, k = k0 % 200 := ⟨_, rfl⟩
  have hk2 : k < 200 := by rw [hk]; exact Nat.mod_lt _ (by decide)
  have q1 : (k0 : Int) % 200 = (k : Int) := by omega
  have q2 : (k0 : Int).tmod 200 = (k : Int) := by rw [Int.tmod_eq_emod_of_nonneg (by omega)]; exact q1
  have q3 : k0 % 200 = k := hk.symm
  have ek : IntKind.i64.wrap (k : Int) = (k : Int) := by rw [IntKind.wrap_i64]; omega
  have ek' : wrap64 (k : Int) = (k : Int) := wrap64_id _ (by omega)
  clear hk h0
  obtain ⟨Wb, hWb⟩ : ∃ Wb, Wb = w.alloc (.cells #[.int .i64 first] 3) := ⟨_, rfl⟩
  have uWb : Hid (Up w Wb) := by rw [hWb]; exact (Up.refl _).alloc _
  have cf : Wb.cell? ⟨w.heap.size, 0, none⟩ = some (.int .i64 first) := by rw [hWb]; go_simp
  have CF := hide cf
  have hWb' := hWb.symm
  clear hWb cf
  go_enter Try.func4, Try.ntmps4
  go_wp2_with fail
  clear hWb'
  refine (known11_calls Wb).mono ?_
  rintro _ wk ⟨rfl, huk⟩
  replace huk := hide huk
  dsimp only
  go_wp2_with fail
  refine (tnewI_calls wk).mono ?_
  rintro _ w0 ⟨T, rfl, t0, hTw, hu0⟩
  have hT : Wb.heap.size ≤ T := Nat.le_trans huk.out.size hTw
  have HA0 : Hid (NumIn Wb T 0 w0) := ⟨0, 0, t0, Nat.le_refl _, huk.out.trans hu0⟩
  clear t0 hu0
  dsimp only
  go_wp2_with fail
  go_loopw [7] (fun iv wr => ∃ i : Nat, i ≤ k ∧ iv = .int .i64 i ∧ Hid (NumIn Wb T i wr)) (fun iv _ => k - (intOf iv).toNat)
  case atStart => exact ⟨0, Nat.zero_le _, rfl, HA0⟩
  case round =>
    obtain ⟨i, hi, rfl, hA⟩ := hrel
    by_cases hlt : i < k
    · have hlt' : (i : Int) < (k : Int) := by omega
      obtain ⟨h, n, t, hnn, hu⟩ := hA.out
      have hh : h ≤ 8 := t.hle (by rw [nums_len]; omega)
      have HI := hide (insertAtI_ok T h n i (i : Int) (nums i) wr t (by rw [nums_len]; exact Nat.le_refl _) (by rw [nums_len]; omega) (by omega))
      have HU := hide hu
      have e1 : IntKind.i64.wrap ((i : Int) + 1) = (i : Int) + 1 := by rw [IntKind.wrap_i64]; omega
      clear hA t hu
      go_wp2_with fail
      refine HI.out.mono ?_
      rintro _ w2 ⟨rfl, h2, k2, t2, hk1, hk2', hc2⟩
      have hu2 := hide (up_of_tree HU.out hT hc2)
      rw [nums_put] at t2
      have T2 := hide t2
      obtain ⟨m2, hm2⟩ : ∃ m, m = n + k2 := ⟨_, rfl⟩
      rw [← hm2] at T2
      have hm20 : m2 ≤ 20 * (i + 1) := by omega
      clear t2 hc2 hm2 HI
      dsimp only
      go_wp2
      go_roundw
      case rel => exact ⟨i + 1, by omega, by first | rfl | congr 1, h2, m2, T2.out, hm20, hu2.out⟩
      case measure => simp [intOf]; omega
    · obtain rfl : k = i := by omega
      have hlt' : ¬ (k : Int) < (k : Int) := by omega
      obtain ⟨h, n, t, hnn, hu⟩ := hA.out
      have htl := t.lt
      -- the count, its box
      obtain ⟨W1, hW1⟩ : ∃ W1, W1 = wr.alloc (.cells #[.int .i64 0] 3) := ⟨_, rfl⟩
      have u1 : Up wr W1 := by rw [hW1]; exact (Up.refl _).alloc _
      have ca : W1.cell? ⟨wr.heap.size, 0, none⟩ = some (.int .i64 0) := by rw [hW1]; go_simp
      have fa : W1.frozen? ⟨wr.heap.size, 0, none⟩ = false := by rw [hW1]; go_simp
      have hs1 : wr.heap.size < W1.heap.size := by rw [hW1]; simp
      obtain ⟨W2, hW2⟩ : ∃ W2, W2 = (W1.alloc (.cells #[.pointer (some ⟨T, 0, none⟩)] 24)).alloc (.cells #[.func (.func 23) #[] #[.pointer (some ⟨wr.heap.size, 0, none⟩), .pointer (some ⟨w.heap.size, 0, none⟩)]] 42) := ⟨_, rfl⟩
      have u2 : Up W1 W2 := by rw [hW2]; exact ((Up.refl _).alloc _).alloc _
      have b1 : W2.cell? ⟨W1.heap.size, 0, none⟩ = some (.pointer (some ⟨T, 0, none⟩)) := by rw [hW2]; go_simp
      have b2 : W2.cell? ⟨W1.heap.size + 1, 0, none⟩ = some (.func (.func 23) #[] #[.pointer (some ⟨wr.heap.size, 0, none⟩), .pointer (some ⟨w.heap.size, 0, none⟩)]) := by rw [hW2]; go_simp
      obtain ⟨p, hp⟩ : ∃ p : Nat, (p : Int) = max 0 (min first (k : Int)) := ⟨(max 0 (min first (k : Int))).toNat, by omega⟩
      have hpk : p ≤ k := by omega
      have hwf : w.heap.size < wr.heap.size := by
        have h1 := World.block_lt_of_cell? _ _ CF.out
        have h2 := hu.size
        exact Nat.lt_of_lt_of_le h1 h2
      have hI0 : SeaI T h n wr.heap.size w.heap.size first (nums k) w W2 0 W2 := by
        obtain ⟨b, c1, s, c2, c3⟩ := t.top
        refine ⟨⟨b, c1.up (u1.trans u2), s, (c2.mono (fun y hy e => ?_)).chg (Chg.of_up (u1.trans u2)), c3⟩, u2.cell ca, (u2.frozen (p := ⟨wr.heap.size, 0, none⟩) hs1).trans fa, (hu.trans (u1.trans u2)).cell CF.out, Chg.refl _ _⟩
        rcases e with e | e
        · exact e
        · have e' : y = wr.heap.size := e
          omega
      have HS := hide (tsearch_calls T h n p 23 #[.pointer (some ⟨wr.heap.size, 0, none⟩), .pointer (some ⟨w.heap.size, 0, none⟩)] (nums k) (fun x => decide (first ≤ x)) (fun j w' => SeaI T h n wr.heap.size w.heap.size first (nums k) w W2 j w') W1 W2 hW2 (by rw [nums_len]; omega) (enters_of Try.func23 (by kernel_rfl) rfl) (sea1_calls T h n wr.heap.size w.heap.size first (nums k) w W2 (by omega) (by omega)) (fun j a b s hu => s.up hu) (fun j w' s => ⟨s.tr, s.chg.cell b1 (by simp; omega), s.chg.cell b2 (by simp; omega)⟩) hI0 (by rw [nums_len]; exact hpk) (fun j hj => by
        rw [nums_get k j (by omega)]
        exact decide_eq_false (by omega)) (fun j hj hjk => by
        rw [nums_len] at hjk
        rw [nums_get k j hjk]
        exact decide_eq_true (by omega)))
      have HUw := hide (uWb.out.trans (hu.trans (u1.trans u2)))
      have hmm : Hid (max 0 (min first (k : Int)) = (p : Int)) := hp.symm
      have HW1 := hide hW1
      clear hA t hu u1 u2 ca fa b1 b2 hI0 hW1 hW2 hp
      go_wp2_with fail
      rw [← HW1.out]
      refine HS.out.mono ?_
      rintro _ w3 ⟨q, rfl, hI3, hq3⟩
      have hI3' := hide hI3
      have t3 := hide hI3.tr
      have ca3 := hI3.asked
      have cf3 := hI3.first
      have HU3 : Hid (Up w w3) := ((Chg.of_up (C := fun y => y = wr.heap.size) HUw.out).trans hI3.chg (fun _ _ h => h)).up (fun y hy e => by have e' : y = wr.heap.size := e; omega)
      rw [nums_len] at hq3
      have hb := bitsN_le (m := k + 1) (by omega)
      have hqb : q ≤ bitsN (k + 1) := Nat.le_trans hq3 (bitsN_mono (by omega))
      obtain ⟨bb, hbb⟩ : ∃ b, b = bitsN (k + 1) := ⟨_, rfl⟩
      rw [← hbb] at hqb hb
      have hlog : ∀ m, Calls Try.prog 20 #[.int .i64 k] (w3.drewN m) fun e w' => e = .returned (.int .i64 bb) ∧ w' = w3.drewN m := fun m => by
        rw [hbb]; exact logs_calls k (by omega) _
      have hlen : ∀ m, Calls Try.prog 18 #[.pointer (some ⟨T, 0, none⟩)] (w3.drewN m) fun e w' => e = .returned (.int .i64 k) ∧ w' = w3.drewN m := fun m => by
        have := tlenI_calls T h n (nums k) (w3.drewN m) (t3.out.up ((Up.refl w3).drewN m))
        rw [nums_len] at this
        exact this
      have HLOG := hide hlog
      have HLEN := hide hlen
      have e1 : IntKind.i64.wrap (4 * (bb : Int)) = 4 * (bb : Int) := by rw [IntKind.wrap_i64]; omega
      have g1 : decide ((q : Int) ≤ 4 * (bb : Int)) = true := decide_eq_true (by omega)
      have g1' : (q : Int) ≤ 4 * (bb : Int) := by omega
      have hmm' := hmm.out
      have g2 : ((p : Int) == (p : Int)) = true := by simp
      clear hI3 hlog hlen hbb HS
      dsimp only
      go_wp2_with fail
      go_quiet ((first
        | (go_at_call 20; exact Calls.quiet_of_same (HLOG.out _))
        | (go_at_call 18; exact Calls.quiet_of_same (HLEN.out _))))
      go_wp2
      go_ret
      exact ⟨rfl, HU3.out.drewN _⟩
end Go.Proofs.Ytcaccbjolgjmkaa
