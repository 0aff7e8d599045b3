/-
  TreeTypes of rialtolaw11, as its text runs.
-/
import Derived.Test.YtcaccbjolgjmkaaTrKnw
import Derived.Test.YtcaccbjolgjmkaaTrAskS
namespace Go.Proofs.Ytcaccbjolgjmkaa
open Go.ChangeShapes Go.WideShapes Go.ChangeAt Go.RowKit
set_option linter.unusedVariables false
set_option maxRecDepth 100000
attribute [local go_sem ↓] Go.wp_at_zero Go.wp_at_succ

/-- What stands in the queue: those put in and not yet taken out, the last one ahead. -/
def queL (l : List ByteArray) (i o : Nat) : List ByteArray := ((l.take i).drop o).reverse
theorem queL_put (l : List ByteArray) (i o : Nat) (hi : i < l.length) (ho : o ≤ i) : insL l[i] (queL l i o) 0 = queL l (i + 1) o := by
  unfold insL queL
  rw [List.take_add_one, List.getElem?_eq_getElem hi, List.drop_append_of_le_length (by rw [List.length_take]; omega)]
  simp
theorem queL_len (l : List ByteArray) (i o : Nat) (hi : i ≤ l.length) : (queL l i o).length = i - o := by
  unfold queL; rw [List.length_reverse, List.length_drop, List.length_take]; omega
theorem del_last {α : Type} (A : List α) (x : α) : delL (A ++ [x]) A.length = A := by
  unfold delL
  rw [List.take_left, List.drop_eq_nil_of_le (by simp), List.append_nil]
theorem get_last {α : Type} (z : α) (A : List α) (x : α) : (A ++ [x]).getD A.length z = x := by
  rw [List.getD_eq_getElem?_getD, List.getElem?_append_right (Nat.le_refl _)]
  simp
theorem queL_take (l : List ByteArray) (z : ByteArray) (i o : Nat) (hi : i ≤ l.length) (ho : o < i) : (queL l i o).getD (i - o - 1) z = l[o]'(by omega) ∧ delL (queL l i o) (i - o - 1) = queL l i (o + 1) := by
  have hl : (queL l i (o + 1)).length = i - o - 1 := by rw [queL_len _ _ _ hi]; omega
  have e : queL l i o = queL l i (o + 1) ++ [l[o]'(by omega)] := by
    unfold queL
    rw [List.drop_eq_getElem_cons (by rw [List.length_take]; omega), List.reverse_cons, List.getElem_take]
  rw [e, ← hl]
  exact ⟨get_last z _ _, del_last _ _⟩
theorem queL_erase (T h n i o p : Nat) (y : ByteArray) (l : List ByteArray) (w : World) (t : TrS w T (queL l i o) h n) (hi : i ≤ l.length) (ho : o < i) (hl : l.length ≤ 80) (hn : n ≤ 10000000) (hp : p = i - o - 1) (hy : y = l[o]'(by omega)) :
    Calls Try.prog 26 #[.pointer (some ⟨T, 0, none⟩), .int .i64 p] w fun e w' => e = .returned (.tuple #[.string y, .int .i64 0]) ∧ TrDoneS T n h (queL l i (o + 1)) w w' := by
  have hlen := queL_len l i o hi
  have h1 : p < (queL l i o).length := by omega
  have h2 : (queL l i o).length ≤ 100000 := by omega
  obtain ⟨hq1, hq2⟩ := queL_take l ByteArray.empty i o hi ho
  rw [← hp] at hq1 hq2
  refine (eraseAtS_ok T h n p ByteArray.empty _ w t h1 h2 hn).mono ?_
  rintro e w' ⟨he, hd⟩
  rw [hq1, ← hy] at he
  rw [hq2] at hd
  exact ⟨he, hd⟩
/-- What holds from round to round. -/
def TypIn (l : List ByteArray) (w : World) (T i o : Nat) (wr : World) : Prop := ∃ (h n : Nat), TrS wr T (queL l i o) h n ∧ n ≤ 20 * i + 20 * o ∧ o ≤ i ∧ Up w wr
set_option maxHeartbeats 8000000 in
theorem treeTypes_few (a0 a1 : Option Addr) (n0 c0 n1 c1 : Nat) (l : List ByteArray) (ts : List Bool) (w : World) (hl : l.length = n0) (hr : Rd Value.string (fun _ => False) w (.slice a0 n0 c0) l) (hs : ∀ x ∈ l, x.size ≤ maxLen) (hts : ts.length = n1) (hrt : Rd Value.bool (fun _ => False) w (.slice a1 n1 c1) ts) (hn : n0 ≤ 80) :
    Calls Try.prog 6 #[.slice a0 n0 c0, .slice a1 n1 c1] w fun e w' => e = .returned (.bool true) ∧ Up w w' := by
  have HL := hide hl
  have HR := hide hr
  have HS := hide hs
  have HTS := hide hts
  have HRT := hide hrt
  have g0 : decide ((n0 : Int) > 80) = false := decide_eq_false (by omega)
  have g0' : ¬ ((n0 : Int) > 80) := by omega
  have g0'' : decide (80 < n0) = false := decide_eq_false (by omega)
  clear hl hr hs hts hrt
  go_enter Try.func6, Try.ntmps6
  go_wp2_with fail
  refine (known11_calls w).mono ?_
  rintro _ wk ⟨rfl, huk⟩
  replace huk := hide huk
  dsimp only
  go_wp2_with fail
  refine (tnewS_calls wk).mono ?_
  rintro _ w0 ⟨T, rfl, t0, hTw, hu0⟩
  have hT : w.heap.size ≤ T := Nat.le_trans huk.out.size hTw
  have HA0 : Hid (TypIn l w T 0 0 w0) := ⟨0, 0, t0, Nat.le_refl _, Nat.le_refl _, huk.out.trans hu0⟩
  clear t0 hu0
  dsimp only
  go_wp2_with fail
  go_loopw [6, 7] (fun ov iv wr => ∃ i o : Nat, i ≤ n0 ∧ o ≤ i ∧ ov = .int .i64 o ∧ iv = .int .i64 i ∧ Hid (TypIn l w T i o wr)) (fun _ iv _ => n0 - (intOf iv).toNat)
  case atStart => exact ⟨0, 0, Nat.zero_le _, Nat.le_refl _, rfl, rfl, HA0⟩
  case round =>
    obtain ⟨i, o, hi, hoi, rfl, rfl, hA⟩ := hrel
    by_cases hlt : i < n0
    · have hlt' : (i : Int) < (n0 : Int) := by omega
      have i0 : (0 : Int) ≤ (i : Int) := by omega
      obtain ⟨h, n, t, hnn, -, hu⟩ := hA.out
      have hil : i < l.length := by rw [HL.out]; exact hlt
      obtain ⟨gb, go, rfl, hg⟩ := (HR.out.up hu).get (i := i) hil
      have hsz := HS.out _ (List.getElem_mem hil)
      obtain ⟨x, hx, hg1⟩ : ∃ x, x = l[i] ∧ wr.cell? ⟨gb, go + i, none⟩ = some (.string x) := ⟨l[i], rfl, hg⟩
      rw [← hx] at hsz
      have HX := hide hx
      have HT := hide t
      have HU := hide hu
      have hh : h ≤ 8 := t.hle (by rw [queL_len _ _ _ (by omega)]; omega)
      clear hA t hu hg hx
      by_cases h60 : x.size ≤ 60
      · have g1 : decide ((x.size : Int) > 60) = false := decide_eq_false (by omega)
        have g1' : ¬ ((x.size : Int) > 60) := by omega
        have g1'' : decide (60 < x.size) = false := decide_eq_false (by omega)
        go_wp2_with fail
        refine (insertAtS_ok T h n 0 x _ wr HT.out (Nat.zero_le _) (by rw [queL_len _ _ _ (by omega)]; omega) (by omega)).mono ?_
        rintro _ w2 ⟨rfl, h2, k2, t2, hk1, hk2, hc2⟩
        have hu2 := hide (up_of_tree HU.out hT hc2)
        rw [HX.out, queL_put l i o hil hoi] at t2
        have T2 := hide t2
        obtain ⟨m2, hm2⟩ : ∃ m, m = n + k2 := ⟨_, rfl⟩
        rw [← hm2] at T2
        have hm20 : m2 ≤ 20 * (i + 1) + 20 * o := by omega
        have e1 : IntKind.i64.wrap ((i : Int) + 1) = (i : Int) + 1 := by rw [IntKind.wrap_i64]; omega
        have hh2 : h2 ≤ 8 := t2.hle (by rw [queL_len _ _ _ (by omega)]; omega)
        clear t2 hc2 hm2 g1 g1' g1''
        by_cases hin : i < n1
        · have hin' : (i : Int) < (n1 : Int) := by omega
          have hin2 : decide (i < n1) = true := decide_eq_true hin
          have htl : i < ts.length := by rw [HTS.out]; exact hin
          obtain ⟨gt, ot, rfl, hgt⟩ := (HRT.out.up hu2.out).get (i := i) htl
          obtain ⟨tk, htk, hgt1⟩ : ∃ x, x = ts[i] ∧ w2.cell? ⟨gt, ot + i, none⟩ = some (.bool x) := ⟨ts[i], rfl, hgt⟩
          clear htk hgt
          cases tk with
          | false =>
            dsimp only
            go_wp2
            go_roundw
            case rel => exact ⟨i + 1, o, by omega, by omega, rfl, by first | rfl | congr 1, h2, m2, T2.out, hm20, by omega, hu2.out⟩
            case measure => simp [intOf]; omega
          | true =>
            have hlen : Hid (Calls Try.prog 27 #[.pointer (some ⟨T, 0, none⟩)] w2 fun e w' => e = .returned (.int .i64 ((i + 1 - o : Nat) : Int)) ∧ w' = w2) := by
              have := tlenS_calls T h2 _ _ w2 T2.out
              rw [queL_len _ _ _ (by omega)] at this
              exact this
            obtain ⟨p, hp⟩ : ∃ p, p = i + 1 - o - 1 := ⟨_, rfl⟩
            obtain ⟨p1, hp1⟩ : ∃ p, p = i + 1 - o := ⟨_, rfl⟩
            rw [← hp1] at hlen
            have e2 : IntKind.i64.wrap ((p1 : Int) - 1) = (p : Int) := by rw [IntKind.wrap_i64]; omega
            have e3 : (p1 : Int) - 1 = (p : Int) := by omega
            have e5 : wrap64 (p : Int) = (p : Int) := wrap64_id _ (by omega)
            have e4 : IntKind.i64.wrap ((o : Int) + 1) = (o : Int) + 1 := by rw [IntKind.wrap_i64]; omega
            have hol : o < l.length := by omega
            obtain ⟨y, hy⟩ : ∃ y, Hid (y = l[o]) := ⟨l[o], rfl⟩
            have hl80 : l.length ≤ 80 := by rw [HL.out]; exact hn
            have HE := hide (queL_erase T h2 m2 (i + 1) o p y l w2 T2.out hil (by omega) hl80 (by omega) hp hy.out)
            clear hp hp1 hl80
            dsimp only
            go_wp2_with fail
            refine hlen.out.mono ?_
            rintro _ w3 ⟨rfl, hw3⟩
            obtain rfl : w2 = w3 := hw3.symm
            dsimp only
            go_wp2_with fail
            refine HE.out.mono ?_
            rintro _ w4 ⟨rfl, h4, k4, t4, hk41, hk42, hc4⟩
            have hu4 := hide (up_of_tree hu2.out hT hc4)
            obtain ⟨gb', go', hgb, hgo⟩ := (HR.out.up hu4.out).get (i := o) hol
            cases hgb
            obtain ⟨y2, hy2, hgo1⟩ : ∃ x, x = y ∧ w4.cell? ⟨gb, go + o, none⟩ = some (.string x) := ⟨l[o], hy.out.symm, hgo⟩
            subst hy2
            have T4 := hide t4
            have o0 : (0 : Int) ≤ (o : Int) := by omega
            have o1 : (o : Int) < (n0 : Int) := by omega
            obtain ⟨m4, hm4⟩ : ∃ m, m = m2 + k4 := ⟨_, rfl⟩
            rw [← hm4] at T4
            have hm40 : m4 ≤ 20 * (i + 1) + 20 * (o + 1) := by omega
            clear t4 hc4 hgo hy hm4 hlen HE
            dsimp only
            go_wp2
            go_roundw
            case rel => exact ⟨i + 1, o + 1, by omega, by omega, by first | rfl | congr 1, by first | rfl | congr 1, h4, m4, T4.out, hm40, by omega, hu4.out⟩
            case measure => simp [intOf]; omega
        · have hin' : ¬ (i : Int) < (n1 : Int) := by omega
          have hin2 : decide (i < n1) = false := decide_eq_false hin
          dsimp only
          go_wp2
          go_roundw
          case rel => exact ⟨i + 1, o, by omega, by omega, rfl, by first | rfl | congr 1, h2, m2, T2.out, hm20, by omega, hu2.out⟩
          case measure => simp [intOf]; omega
      · have g1 : decide ((x.size : Int) > 60) = true := decide_eq_true (by omega)
        have g1' : (x.size : Int) > 60 := by omega
        have g1'' : decide (60 < x.size) = true := decide_eq_true (by omega)
        go_wp2
        go_ret
        exact ⟨rfl, HU.out⟩
    · obtain rfl : n0 = i := by omega
      have hlt' : ¬ (n0 : Int) < (n0 : Int) := by omega
      obtain ⟨W0, rfl⟩ : ∃ W0, W0 = wr := ⟨_, rfl⟩
      go_wp2_with fail
      go_loopw [6] (fun ov wr => ∃ o : Nat, o ≤ n0 ∧ ov = .int .i64 o ∧ Hid (TypIn l w T n0 o wr)) (fun ov _ => n0 - (intOf ov).toNat)
      case atStart => exact ⟨o, hoi, rfl, hA⟩
      case round =>
        obtain ⟨o, ho, rfl, hA⟩ := hrel
        obtain ⟨h, n, t, hnn, -, hu⟩ := hA.out
        have HT := hide t
        have HU := hide hu
        have hh : h ≤ 8 := t.hle (by rw [queL_len _ _ _ (by rw [HL.out]; exact Nat.le_refl _)]; omega)
        have HLe : Hid (n0 ≤ l.length) := by unfold Hid; rw [HL.out]; exact Nat.le_refl _
        clear hA t hu
        by_cases hon : o < n0
        · have hon' : (o : Int) < (n0 : Int) := by omega
          have o0 : (0 : Int) ≤ (o : Int) := by omega
          have hlen : Hid (Calls Try.prog 27 #[.pointer (some ⟨T, 0, none⟩)] wr fun e w' => e = .returned (.int .i64 ((n0 - o : Nat) : Int)) ∧ w' = wr) := by
            have := tlenS_calls T h _ _ wr HT.out
            rw [queL_len _ _ _ HLe.out] at this
            exact this
          obtain ⟨p, hp⟩ : ∃ p, p = n0 - o - 1 := ⟨_, rfl⟩
          obtain ⟨p1, hp1⟩ : ∃ p, p = n0 - o := ⟨_, rfl⟩
          rw [← hp1] at hlen
          have e2 : IntKind.i64.wrap ((p1 : Int) - 1) = (p : Int) := by rw [IntKind.wrap_i64]; omega
          have e3 : (p1 : Int) - 1 = (p : Int) := by omega
          have e5 : wrap64 (p : Int) = (p : Int) := wrap64_id _ (by omega)
          have e4 : IntKind.i64.wrap ((o : Int) + 1) = (o : Int) + 1 := by rw [IntKind.wrap_i64]; omega
          have hol : o < l.length := by have := HLe.out; omega
          obtain ⟨y, hy⟩ : ∃ y, Hid (y = l[o]) := ⟨l[o], rfl⟩
          have hl80 : l.length ≤ 80 := by rw [HL.out]; exact hn
          have HE := hide (queL_erase T h n n0 o p y l wr HT.out HLe.out hon hl80 (by omega) hp hy.out)
          clear hp hp1 hl80
          go_wp2_with fail
          refine hlen.out.mono ?_
          rintro _ w3 ⟨rfl, hw3⟩
          obtain rfl : wr = w3 := hw3.symm
          dsimp only
          go_wp2_with fail
          refine HE.out.mono ?_
          rintro _ w4 ⟨rfl, h4, k4, t4, hk41, hk42, hc4⟩
          have hu4 := hide (up_of_tree HU.out hT hc4)
          obtain ⟨gb, go, rfl, hgo⟩ := (HR.out.up hu4.out).get (i := o) hol
          obtain ⟨y2, hy2, hgo1⟩ : ∃ x, x = y ∧ w4.cell? ⟨gb, go + o, none⟩ = some (.string x) := ⟨l[o], hy.out.symm, hgo⟩
          subst hy2
          have T4 := hide t4
          obtain ⟨m4, hm4⟩ : ∃ m, m = n + k4 := ⟨_, rfl⟩
          rw [← hm4] at T4
          have hm40 : m4 ≤ 20 * n0 + 20 * (o + 1) := by omega
          clear t4 hc4 hgo hy hm4 hlen HE
          dsimp only
          go_wp2
          go_roundw
          case rel => exact ⟨o + 1, by omega, by first | rfl | congr 1, h4, m4, T4.out, hm40, by omega, hu4.out⟩
          case measure => simp [intOf]; omega
        · obtain rfl : n0 = o := by omega
          have hon' : ¬ (n0 : Int) < (n0 : Int) := by omega
          have hq : queL l n0 n0 = [] := List.length_eq_zero_iff.1 (by rw [queL_len _ _ _ HLe.out]; omega)
          have HT' : Hid (TrS wr T [] h n) := by unfold Hid; rw [← hq]; exact HT.out
          clear hq HT
          go_wp2_with fail
          refine (tatS_not T h n 0 [] wr HT'.out (.inr (by simp))).mono ?_
          rintro _ w5 ⟨rfl, hu5⟩
          have T5 := hide (HT'.out.up hu5)
          have hu5' := hide (HU.out.trans hu5)
          clear hu5
          dsimp only
          go_wp2_with fail
          refine (tlenS_calls T h n [] w5 T5.out).mono ?_
          rintro _ w6 ⟨rfl, hw6⟩
          obtain rfl : w5 = w6 := hw6.symm
          dsimp only
          go_wp2
          go_ret
          exact ⟨rfl, hu5'.out⟩
theorem treeTypes_many (a0 a1 : Option Addr) (n0 c0 n1 c1 : Nat) (w : World) (hn : 80 < n0) :
    Calls Try.prog 6 #[.slice a0 n0 c0, .slice a1 n1 c1] w fun e w' => e = .returned (.bool true) ∧ Up w w' := by
  have g0 : decide ((n0 : Int) > 80) = true := decide_eq_true (by omega)
  have g0' : (n0 : Int) > 80 := by omega
  have g0'' : decide (80 < n0) = true := decide_eq_true hn
  go_enter Try.func6, Try.ntmps6
  go_wp2_with fail
  refine (known11_calls w).mono ?_
  rintro _ wk ⟨rfl, huk⟩
  replace huk := hide huk
  dsimp only
  go_wp2
  go_ret
  exact ⟨rfl, huk.out⟩
end Go.Proofs.Ytcaccbjolgjmkaa
