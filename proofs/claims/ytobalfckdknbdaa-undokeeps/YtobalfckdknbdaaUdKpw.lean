/-
  UndoKeeps: a log of steps that count their calls.
-/
import Derived.Test.YtobalfckdknbdaaUdKnw
namespace Go.Proofs.Ytobalfckdknbdaa
open Go.RowKit
set_option linter.unusedVariables false
set_option maxRecDepth 20000
attribute [local go_sem ↓] Go.wp_at_zero Go.wp_at_succ

theorem keep_inc1 (B c : Nat) (hc : c < 1000000) (w : World) (h : w.cell? ⟨B, 0, none⟩ = some (.int .i64 c)) (hf : w.frozen? ⟨B, 0, none⟩ = false) :
    Calls Try.prog 20 #[.pointer (some ⟨B, 0, none⟩)] w fun e w' => e = .returned (.tuple #[]) ∧ w' = w.setCell ⟨B, 0, none⟩ (.int .i64 ((c + 1 : Nat) : Int)) := by
  have hw : wrap64 ((c : Int) + 1) = (c : Int) + 1 := IntWalk.wrap64_in _ (by omega)
  go_enter Try.func20, Try.ntmps20
  go_wp2
  go_end0
  exact ⟨rfl, by simp⟩
theorem keep_inc2 (B c : Nat) (hc : c < 1000000) (w : World) (h : w.cell? ⟨B, 0, none⟩ = some (.int .i64 c)) (hf : w.frozen? ⟨B, 0, none⟩ = false) :
    Calls Try.prog 21 #[.pointer (some ⟨B, 0, none⟩)] w fun e w' => e = .returned (.tuple #[]) ∧ w' = w.setCell ⟨B, 0, none⟩ (.int .i64 ((c + 1 : Nat) : Int)) := by
  have hw : wrap64 ((c : Int) + 1) = (c : Int) + 1 := IntWalk.wrap64_in _ (by omega)
  go_enter Try.func21, Try.ntmps21
  go_wp2
  go_end0
  exact ⟨rfl, by simp⟩

/-- A log of n steps, each of which counts in B, that stands at c. -/
structure UkIn (w : World) (T B n c : Nat) (l : List Bk) (w' : World) : Prop where
  log : LogAt T l w'
  len : l.length = n
  fns : ∀ k ∈ l, k.blk ≠ B ∧ (k.fn = 20 ∨ k.fn = 21) ∧ k.cap = #[.pointer (some ⟨B, 0, none⟩)]
  cell : w'.cell? ⟨B, 0, none⟩ = some (.int .i64 c)
  free : w'.frozen? ⟨B, 0, none⟩ = false
  ne : B ≠ T
  new : w.heap.size ≤ T ∧ w.heap.size ≤ B
  up : Up w w'

theorem up_of_chg {C : Nat → Prop} {w a b : World} (h : Up w a) (hc : Chg C a b) (hC : ∀ x, C x → w.heap.size ≤ x) : Up w b :=
  ((Chg.of_up (C := C) h).trans hc (fun _ _ h => h)).up (fun x hx h => by have := hC x h; omega)

theorem uk_add {w : World} {T B n c : Nat} {l : List Bk} {W : World} (h : UkIn w T B n c l W) (G : FuncId) (hG : G = 20 ∨ G = 21) (hn : n < 1000) :
    Calls Try.prog 8 #[.pointer (some ⟨T, 0, none⟩), .func (.func G) #[] #[.pointer (some ⟨B, 0, none⟩)]] W fun e W' => e = .returned (.tuple #[]) ∧ ∃ l', UkIn w T B (n + 1) c l' W' := by
  refine (udAdd_calls T l G _ W h.log (by have := h.len; omega)).mono ?_
  rintro _ W' ⟨rfl, hl, hc, hs⟩
  have hBW : B < W.heap.size := World.block_lt_of_cell? W ⟨B, 0, none⟩ h.cell
  refine ⟨rfl, _, hl, by simp [h.len], ?_, hc.cell (p := ⟨B, 0, none⟩) h.cell h.ne, (hc.frozen (p := ⟨B, 0, none⟩) hBW h.ne).trans h.free, h.ne, h.new, up_of_chg h.up hc (fun x hx => by rw [hx]; exact h.new.1)⟩
  intro k hk
  rcases List.mem_cons.1 hk with rfl | hk
  · exact ⟨(Nat.ne_of_lt hBW).symm, hG, rfl⟩
  · exact h.fns k hk

theorem uk_keep {w : World} {T B n c : Nat} {l : List Bk} {W : World} (h : UkIn w T B n c l W) (m : Nat) (hm : m ≤ n) :
    Calls Try.prog 11 #[.pointer (some ⟨T, 0, none⟩), .int .i64 m] W fun e W' => e = .returned (.bool true) ∧ ∃ l', UkIn w T B m c l' W' := by
  refine (udKeep_ok T l m W h.log (by rw [h.len]; exact hm)).mono ?_
  rintro _ W' ⟨rfl, hl, hc, hs⟩
  have hBW : B < W.heap.size := World.block_lt_of_cell? W ⟨B, 0, none⟩ h.cell
  refine ⟨rfl, _, hl, by rw [List.length_drop]; have := h.len; omega, fun k hk => h.fns k (List.mem_of_mem_drop hk), hc.cell (p := ⟨B, 0, none⟩) h.cell h.ne, (hc.frozen (p := ⟨B, 0, none⟩) hBW h.ne).trans h.free, h.ne, h.new, up_of_chg h.up hc (fun x hx => by rw [hx]; exact h.new.1)⟩

theorem uk_back {w : World} {T B n c : Nat} {l : List Bk} {W : World} (h : UkIn w T B n c l W) (m : Nat) (hm : m ≤ n) (hn : n < 1000) (hc : c < 1000) :
    Calls Try.prog 10 #[.pointer (some ⟨T, 0, none⟩), .int .i64 m] W fun e W' => e = .returned (.bool true) ∧ ∃ l', UkIn w T B m (c + (n - m)) l' W' := by
  have hlen := h.len
  refine (udBack_box T B l m (fun r => .int .i64 ((c + (n - r.length) : Nat) : Int)) W h.log (by rw [hlen]; exact hm) h.ne ?_ h.free (fun k hk => (h.fns k hk).1) ?_ ?_).mono ?_
  · have e : c + (n - l.length) = c := by omega
    rw [e]; exact h.cell
  · intro k hk w'
    obtain ⟨-, h1 | h1, h2⟩ := h.fns k hk <;> rw [h1] <;> rfl
  · rintro k r W' ⟨p, hp⟩ hmr hcell hfz
    have hkl : k ∈ l := by rw [hp]; exact List.mem_append_right _ (List.mem_cons_self ..)
    have hrl : r.length + 1 ≤ n := by
      have : l.length = p.length + (r.length + 1) := by rw [hp, List.length_append, List.length_cons]
      omega
    have e : c + (n - r.length) = c + (n - (k :: r).length) + 1 := by rw [List.length_cons]; omega
    simp only [e]
    obtain ⟨-, h1 | h1, h2⟩ := h.fns k hkl
    · rw [h1, h2]; exact keep_inc1 B _ (by omega) W' hcell hfz
    · rw [h1, h2]; exact keep_inc2 B _ (by omega) W' hcell hfz
  · rintro _ W' ⟨rfl, hl, hj⟩
    have hdl : (l.drop (l.length - m)).length = m := by rw [List.length_drop]; omega
    refine ⟨rfl, _, hl, hdl, fun k hk => h.fns k (List.mem_of_mem_drop hk), by have := hj.at'; simp only [hdl] at this; exact this, hj.free, h.ne, h.new, up_of_chg h.up hj.chg (fun x hx => by
      rcases hx with hx | hx
      · rw [hx]; exact h.new.1
      · rw [hx]; exact h.new.2)⟩

set_option maxHeartbeats 8000000 in
theorem undoKeeps_all (a b d : Int) (w : World) (ha : 0 ≤ a ∧ a ≤ 255) (hb : 0 ≤ b ∧ b ≤ 255) (hd : 0 ≤ d ∧ d ≤ 255) :
    Calls Try.prog 5 #[.int .u8 a, .int .u8 b, .int .u8 d] w fun e w' => e = .returned (.bool true) ∧ Up w w' := by
  have hmf : ∀ (fn : Fn) (first cap : Array Value) (w : World), (Instr.makeFunc fn first cap).run Try.prog w = .ok (.func fn first cap) w := fun _ _ _ _ => rfl
  obtain ⟨A, rfl⟩ : ∃ k : Nat, a = (k : Int) := ⟨a.toNat, by omega⟩
  obtain ⟨D, rfl⟩ : ∃ k : Nat, b = (k : Int) := ⟨b.toNat, by omega⟩
  obtain ⟨M, rfl⟩ : ∃ k : Nat, d = (k : Int) := ⟨d.toNat, by omega⟩
  obtain ⟨x, hx⟩ : ∃ k : Nat, k = A % 12 := ⟨_, rfl⟩
  obtain ⟨y, hy⟩ : ∃ k : Nat, k = D % 12 := ⟨_, rfl⟩
  obtain ⟨m, hm⟩ : ∃ k : Nat, k = M % (x + 1) := ⟨_, rfl⟩
  have ex : (A : Int) % 12 = (x : Int) := by omega
  have ey : (D : Int) % 12 = (y : Int) := by omega
  have em : (M : Int) % ((x : Int) + 1) = (m : Int) := by rw [hm, Int.natCast_emod]; rfl
  have x12 : x < 12 := by omega
  have y12 : y < 12 := by omega
  have mx : m ≤ x := by rw [hm]; exact Nat.le_of_lt_succ (Nat.mod_lt M (Nat.succ_pos x))
  clear hx hy hm
  go_enter Try.func5, Try.ntmps5
  go_wp2_with fail
  refine (known16_calls w).mono ?_
  rintro _ wk ⟨rfl, huk⟩
  replace huk := hide huk
  dsimp only
  go_wp2_with fail
  refine (udNew_calls wk).mono ?_
  rintro _ w1 ⟨rfl, hl1, hu1⟩
  have hTsz : wk.heap.size < w1.heap.size := hl1.old.1
  have hwk : w.heap.size ≤ wk.heap.size := huk.out.size
  generalize hT : wk.heap.size = T at hl1 hTsz hwk ⊢
  have HL1 := hide hl1
  have HU1 := hide hu1
  clear hl1 hu1
  dsimp only
  go_wp2_with fail
  generalize hB : w1.heap.size = B at *
  have hTB : B ≠ T := by omega
  have hUK : Hid (UkIn w T B 0 0 [] (w1.alloc (.cells #[.int .i64 0] 3))) := hide ⟨HL1.out.up ((Up.refl _).alloc _), rfl, fun k hk => (by cases hk), by rw [← hB]; go_simp, by rw [← hB]; simp, hTB, ⟨by omega, by omega⟩, (huk.out.trans HU1.out).alloc _⟩
  generalize w1.alloc (.cells #[.int .i64 0] 3) = W at *
  clear HL1 HU1 hB hT hTsz hTB huk
  rw [ex, ey]
  clear ex ey ha hb
  have EM := hide em
  clear em
  go_loopw [11] (fun iv wr => ∃ (i : Nat) (l : List Bk), iv = .int .i64 i ∧ i ≤ x ∧ Hid (UkIn w T B i 0 l wr)) (fun iv _ => x - (intOf iv).toNat)
  case atStart => exact ⟨0, [], rfl, Nat.zero_le _, hUK⟩
  case round =>
    obtain ⟨i, l, rfl, hi, hu⟩ := hrel
    by_cases hlt : i < x
    · have k1 : (i : Int) < (x : Int) := by omega
      have ei : IntKind.i64.wrap ((i : Int) + 1) = (i : Int) + 1 := by rw [IntKind.wrap_i64]; omega
      go_wp2_with fail
      go_at_call 8
      refine (uk_add hu.out _ (.inl rfl) (by omega)).mono ?_
      rintro _ w2 ⟨rfl, l2, hu2⟩
      replace hu2 := hide hu2
      go_wp2
      go_roundw
      case rel => exact ⟨i + 1, l2, by simp, by omega, hu2⟩
      case measure => simp [intOf]; omega
    · obtain rfl : i = x := by omega
      have k1 : ¬ (i : Int) < (i : Int) := by omega
      have em := EM.out
      have hk := hide (uk_keep hu.out m mx)
      clear hu
      go_wp2_with fail
      go_at_call 11
      refine hk.out.mono ?_
      rintro _ w2 ⟨rfl, l2, hu2⟩
      have hc2 := hu2.cell
      have hlen := hide (udLen_calls T l2 w2 hu2.log)
      have hl2 := hu2.len
      have HU2 := hide hu2
      clear hk hu2
      dsimp only
      go_wp2_with (go_at_call 12; refine hlen.out.mono ?_; rintro _ wm ⟨rfl, hwm⟩; obtain rfl : w2 = wm := hwm.symm)
      clear hlen hc2 hi hlt k1 hwk wk hwm em EM hUK hmf
      go_loopw [13] (fun iv wr => ∃ (j : Nat) (l : List Bk), iv = .int .i64 j ∧ j ≤ y ∧ Hid (UkIn w T B (m + j) 0 l wr)) (fun iv _ => y - (intOf iv).toNat)
      case atStart => exact ⟨0, l2, rfl, Nat.zero_le _, HU2⟩
      case round =>
        obtain ⟨j, l, rfl, hj, hu⟩ := hrel
        by_cases hlt : j < y
        · have k1 : (j : Int) < (y : Int) := by omega
          have ei : IntKind.i64.wrap ((j : Int) + 1) = (j : Int) + 1 := by rw [IntKind.wrap_i64]; omega
          go_wp2_with fail
          go_at_call 8
          refine (uk_add hu.out _ (.inr rfl) (by omega)).mono ?_
          rintro _ w2 ⟨rfl, l2, hu2⟩
          replace hu2 : Hid (UkIn w T B (m + (j + 1)) 0 l2 w2) := hide hu2
          go_wp2
          go_roundw
          case rel => exact ⟨j + 1, l2, by simp, by omega, hu2⟩
          case measure => simp [intOf]; omega
        · obtain rfl : j = y := by omega
          have k1 : ¬ (j : Int) < (j : Int) := by omega
          have hk := hide (uk_back hu.out m (by omega) (by omega) (by omega))
          have e1 : 0 + (m + j - m) = j := by omega
          rw [e1] at hk
          clear hu e1
          go_wp2_with fail
          go_at_call 10
          refine hk.out.mono ?_
          rintro _ w3 ⟨rfl, l3, hu3⟩
          have hc3 := hu3.cell
          have hk2 := hide (uk_back hu3 0 (Nat.zero_le _) (by omega) (by omega))
          clear hk hu3
          dsimp only
          go_wp2_with fail
          go_at_call 10
          refine hk2.out.mono ?_
          rintro _ w4 ⟨rfl, l4, hu4⟩
          have e2 : j + (m - 0) = j + m := by omega
          rw [e2] at hu4
          have hc4 := hu4.cell
          have hl4 : l4 = [] := List.length_eq_zero_iff.1 hu4.len
          subst hl4
          have hK := hide (udKeep_not T [] 1 w4 hu4.log (by decide))
          have hB := hide (udBack_not T [] (-1) w4 hu4.log (by decide))
          have hL := hide (udLen_calls T [] w4 hu4.log)
          have hU := hide hu4.up
          have ew : wrap64 ((j : Int) + (m : Int)) = ((j + m : Nat) : Int) := by rw [IntWalk.wrap64_in _ (by omega)]; omega
          clear hk2 hu4 e2 hc3
          dsimp only
          go_wp2_with (first | (go_at_call 11; refine hK.out.mono ?_; rintro _ wm ⟨rfl, hwm⟩; obtain rfl : w4 = wm := hwm.symm) | (go_at_call 10; refine hB.out.mono ?_; rintro _ wm ⟨rfl, hwm⟩; obtain rfl : w4 = wm := hwm.symm) | (go_at_call 12; refine hL.out.mono ?_; rintro _ wm ⟨rfl, hwm⟩; obtain rfl : w4 = wm := hwm.symm))
          go_ret
          exact ⟨rfl, hU.out⟩

end Go.Proofs.Ytobalfckdknbdaa
