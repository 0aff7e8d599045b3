/-
  TrieBytes: the statement's text runs to true.
-/
import Derived.Test.YtmbniakobhaomaaTbRow
import Derived.Deep.CutRange
import Derived.Laws.Cover1
import Derived.Lib.Strings
import Derived.Deep.RegionHeld3
namespace Go.Proofs.Ytmbniakobhaomaa
open Go.ChangeShapes Go.WideShapes Go.ChangeAt Go.RowKit
set_option linter.unusedVariables false
set_option maxRecDepth 100000
attribute [local go_sem ↓] Go.wp_at_zero Go.wp_at_succ

theorem bytes_lt : ∀ (x y : List UInt8), Op.bytesLess x y = decide (x < y)
  | [], [] => by simp [Op.bytesLess]
  | _ :: _, [] => by simp [Op.bytesLess]
  | [], _ :: _ => by simp [Op.bytesLess]
  | a :: x, b :: y => by
    rw [Op.bytesLess, bytes_lt x y]
    simp only [List.cons_lt_cons_iff]
    by_cases h1 : a < b <;> by_cases h2 : a = b <;> by_cases h3 : x < y <;> simp [h1, h2, h3]
theorem ownR_J {w : World} {base : Nat} {v : Value} {l : List Int} (h : OwnR 2 (Value.int .i64) w base v l) : OwnJ w base v l := by
  have e : ∀ l : List Int, l.flatMap jC = l.map (Value.int .i64) := fun l => by
    induction l with
    | nil => rfl
    | cons x l ih => simp only [List.flatMap_cons, List.map_cons, ih]; rfl
  unfold OwnJ OwnG
  rw [e l]
  exact h
theorem bwrap (i : Nat) (h : i ≤ 30) : wrap64 ((i : Int) + 1) = ((i + 1 : Nat) : Int) := by rw [wrap64]; omega
theorem bmeas (n i : Nat) (h : i < n) : n + 1 - (intOf (.int .i64 ((i + 1 : Nat) : Int))).toNat < n + 1 - (intOf (.int .i64 (i : Int))).toNat := by
  show n + 1 - ((i + 1 : Nat) : Int).toNat < n + 1 - (i : Int).toNat
  omega
set_option maxHeartbeats 8000000 in
theorem trieBytes_many (a0 : Option Addr) (n0 c0 : Nat) (w : World) (hn : ¬ n0 ≤ 30) :
    Calls Try.prog 3 #[.slice a0 n0 c0] w fun e w' => e = .returned (.bool true) ∧ Up w w' := by
  have g0 : (n0 : Int) > 30 := by omega
  have g1 : (30 : Int) < (n0 : Int) := by omega
  have g2 : decide ((n0 : Int) > 30) = true := decide_eq_true g0
  clear hn
  go_enter Try.func3, Try.ntmps3
  go_wp2_with fail
  refine (known15_calls w).mono ?_
  rintro _ wk ⟨rfl, huk⟩
  dsimp only
  go_wp2
  go_ret
  exact ⟨rfl, huk⟩
set_option maxHeartbeats 16000000 in
theorem trieBytes_few (a0 : Option Addr) (n0 c0 : Nat) (l : List ByteArray) (w : World) (hl : l.length = n0) (hr : Rd Value.string (fun _ => False) w (.slice a0 n0 c0) l) (hs : ∀ x ∈ l, x.size ≤ maxLen) (hn : n0 ≤ 30) :
    Calls Try.prog 3 #[.slice a0 n0 c0] w fun e w' => e = .returned (.bool true) ∧ Up w w' := by
  have HL := hide hl
  have HR := hide hr
  have g0 : ¬ (n0 : Int) > 30 := by omega
  have g1 : ¬ (30 : Int) < (n0 : Int) := by omega
  have g2 : decide ((n0 : Int) > 30) = false := decide_eq_false g0
  clear hl hr hs
  go_enter Try.func3, Try.ntmps3
  go_wp2_with fail
  refine (known15_calls w).mono ?_
  rintro _ wk ⟨rfl, huk⟩
  replace huk := hide huk
  dsimp only
  go_wp2_with fail
  refine (trnew_calls wk).mono ?_
  rintro _ w1 ⟨T, O, rfl, hT, htr, hO, hu⟩
  have HG0 : Hid (GB w w1 T 0 l) := hide (by
    have hs := huk.out.size
    exact ⟨⟨O, by rw [zB_0, gE_nil]; exact htr, fun y hy => Nat.le_trans hs (hO y hy)⟩, huk.out.trans hu⟩)
  clear htr hO hu hT
  dsimp only
  go_wp2_with fail
  go_loopw [4] (fun v4 wr => ∃ i : Nat, i ≤ n0 ∧ v4 = .int .i64 i ∧ Hid (GB w wr T i l) ∧ Hid (∀ j (h : j < l.length), j < i → l[j].size ≤ 60)) (fun v4 _ => n0 + 1 - (intOf v4).toNat)
  case atStart => exact ⟨0, Nat.zero_le _, rfl, HG0, hide (fun j _ h => absurd h (Nat.not_lt_zero _))⟩
  case round =>
    obtain ⟨i, hi, rfl, hG, hS⟩ := hrel
    have z0 : (0 : Int) ≤ (i : Int) := by omega
    by_cases hlt : i < n0
    · have t1 : (i : Int) < (n0 : Int) := by omega
      have hil : i < l.length := by rw [HL.out]; exact hlt
      obtain ⟨gb, ob, rfl, hg⟩ := (HR.out.up hG.out.up).get (i := i) hil
      obtain ⟨x, hx, hg1⟩ : ∃ x, x = l[i] ∧ wr.cell? ⟨gb, ob + i, none⟩ = some (.string x) := ⟨l[i], rfl, hg⟩
      have e1 := bwrap i (by omega)
      clear hg
      by_cases h60 : x.size ≤ 60
      · have t2 : ¬ (x.size : Int) > 60 := by omega
        have HIN := hide (gb_insert hG.out hil (by rw [HL.out]; exact hn) (by rw [← hx]; exact h60))
        rw [← hx] at HIN
        have hS' : Hid (∀ j (h : j < l.length), j < i + 1 → l[j].size ≤ 60) := hide (fun j h hj => by
          rcases Nat.lt_or_ge j i with h1 | h1
          · exact hS.out j h h1
          · obtain rfl : j = i := by omega
            rw [← hx]; exact h60)
        clear hx
        go_wp2_with fail
        try rw [e1]
        refine HIN.out.mono ?_
        rintro _ w3 ⟨rfl, hg3⟩
        replace hg3 := hide hg3
        dsimp only
        go_wp2
        go_roundw
        case rel => exact ⟨i + 1, hlt, rfl, hg3, hS'⟩
        case measure => exact bmeas n0 i hlt
      · have t2 : (x.size : Int) > 60 := by omega
        have hup := hide hG.out.up
        clear hx
        go_wp2
        try go_ret
        exact ⟨rfl, hup.out⟩
    · obtain rfl : i = n0 := by omega
      have t1 : ¬ ((i : Int) < (i : Int)) := by omega
      clear hlt hi
      obtain rfl : l.length = i := HL.out
      have HS : Hid (∀ j (h : j < l.length), l[j].size ≤ 60) := hide (fun j h => hS.out j h h)
      have HAL := hide (gb_all hG.out hn)
      clear hS
      go_wp2_with fail
      refine HAL.out.mono ?_
      intro e w2 hpo
      obtain ⟨v, ids, rfl, hv, hA, hu2⟩ := all_nums hpo
      obtain ⟨a5, c5, e5, _⟩ := hv.get
      rw [hA.len] at e5
      subst e5
      replace hG := hide (hG.out.upw hu2)
      have HV := hide hv
      have HA := hide hA
      have HPX := hide (gb_prefix hG.out hn ⟨#[]⟩ (by decide))
      clear hu2 hpo hv hA HAL
      dsimp only
      go_wp2_with fail
      refine HPX.out.mono ?_
      intro e w3 hpo
      obtain ⟨v3, ids3, rfl, hv3, hA3, hu3⟩ := all_nums hpo
      obtain ⟨a3, c3, e3, _⟩ := hv3.get
      rw [hA3.len] at e3
      subst e3
      replace hG := hide (hG.out.upw hu3)
      replace HV := hide (HV.out.up hu3)
      clear hu3 hpo hv3 hA3 HPX
      dsimp only
      go_wp2_with fail
      go_loopw [6, 7, 8] (fun v6 v7 v8 wr => ∃ i : Nat, i ≤ l.length ∧ v6 = .int .i64 ((i + 1 : Nat) : Int) ∧ Hid (GB w wr T l.length l) ∧ Hid (NumsAt wr (.slice a5 l.length c5) ids)) (fun v6 _ _ _ => l.length + 2 - (intOf v6).toNat)
      case atStart => exact ⟨0, Nat.zero_le _, rfl, hG, HV⟩
      case round =>
        clear hG HV
        obtain ⟨m, hm, rfl, hG, HV⟩ := hrel
        obtain ⟨i, hi⟩ : ∃ i, i = m + 1 := ⟨_, rfl⟩
        rw [← hi]
        have z0 : (0 : Int) ≤ (i : Int) := by omega
        by_cases hlt : i < l.length
        · have t1 : (i : Int) < (l.length : Int) := by omega
          have hx1 : m < ids.length := by rw [HA.out.len]; omega
          have hx2 : m + 1 < ids.length := by rw [HA.out.len]; omega
          obtain ⟨j, hj, ej⟩ := HA.out.at' m hx1
          obtain ⟨k, hk, ek⟩ := HA.out.at' (m + 1) hx2
          have ho := HA.out.ord m j k hx2 hj hk ej ek
          obtain ⟨a5', c5', e5, hc⟩ := HV.out.get
          obtain ⟨g5, q5, d1⟩ := hc m hx1
          obtain ⟨g5', q5', d2⟩ := hc (m + 1) hx2
          obtain rfl : g5 = g5' := by rw [q5] at q5'; injection q5' with q; injection q
          obtain ⟨rfl, _⟩ : a5 = a5' ∧ True := by injection e5 with q1 q2 q3; exact ⟨q1, trivial⟩
          subst q5
          rw [ej] at d1
          rw [ek, ← hi] at d2
          obtain ⟨gb, ob, rfl, hgj⟩ := (HR.out.up hG.out.up).get (i := j) hj
          obtain ⟨gb', ob', q6, hgk⟩ := (HR.out.up hG.out.up).get (i := k) hk
          obtain ⟨rfl, rfl⟩ : gb = gb' ∧ ob = ob' := by injection q6 with q; injection q with q1 q2; exact ⟨q1, q2⟩
          have em : wrap64 ((i : Int) - 1) = (m : Int) := by rw [wrap64]; omega
          have ei := bwrap i (by omega)
          have ew1 : wrap64 (((j + 1 : Nat) : Int) - 1) = (j : Int) := by rw [wrap64]; omega
          have ew2 : wrap64 (((k + 1 : Nat) : Int) - 1) = (k : Int) := by rw [wrap64]; omega
          have m0 : (0 : Int) ≤ (m : Int) := by omega
          have m1 : (m : Int) < (l.length : Int) := by omega
          have j0 : (0 : Int) ≤ (j : Int) := by omega
          have j1 : (j : Int) < (l.length : Int) := by omega
          have k0 : (0 : Int) ≤ (k : Int) := by omega
          have k1 : (k : Int) < (l.length : Int) := by omega
          obtain ⟨x, hx⟩ : ∃ x, x = l[j] := ⟨_, rfl⟩
          obtain ⟨y, hy⟩ : ∃ y, y = l[k] := ⟨_, rfl⟩
          rw [← hx] at hgj ho
          rw [← hy] at hgk ho
          obtain ⟨jj, hjj⟩ : ∃ jj, jj = j + 1 := ⟨_, rfl⟩
          obtain ⟨kk, hkk⟩ : ∃ kk, kk = k + 1 := ⟨_, rfl⟩
          rw [← hjj] at d1 ew1
          rw [← hkk] at d2 ew2
          have em' : IntKind.i64.wrap ((i : Int) - 1) = (m : Int) := by rw [IntKind.wrap_i64]; omega
          have ei' : IntKind.i64.wrap (i : Int) = (i : Int) := by rw [IntKind.wrap_i64]; omega
          have emm : IntKind.i64.wrap (m : Int) = (m : Int) := by rw [IntKind.wrap_i64]; omega
          have ew1' : IntKind.i64.wrap ((jj : Int) - 1) = (j : Int) := by rw [IntKind.wrap_i64]; omega
          have ew2' : IntKind.i64.wrap ((kk : Int) - 1) = (k : Int) := by rw [IntKind.wrap_i64]; omega
          have ejj : IntKind.i64.wrap (j : Int) = (j : Int) := by rw [IntKind.wrap_i64]; omega
          have ekk : IntKind.i64.wrap (k : Int) = (k : Int) := by rw [IntKind.wrap_i64]; omega
          have HI := hide hi
          have HJJ := hide hjj
          have HKK := hide hkk
          have HO := hide ho
          have HDN : Hid (∀ w', Up wr w' → Hid (GB w w' T l.length l) ∧ Hid (NumsAt w' (.slice (some ⟨g5, 0, none⟩) l.length c5) ids)) := hide (fun w' hu => ⟨hide (hG.out.upw hu), hide (HV.out.up hu)⟩)
          clear hi hjj hkk ho hx hy ej ek e5 hc HV hG q6
          --P2
          rcases HO.out with hxy | ⟨hxy, hjk⟩
          · have s1 : Op.bytesLess x.toList y.toList = true := by rw [bytes_lt, Lib.toList_data, Lib.toList_data]; exact decide_eq_true hxy
            have s3 : ¬ x = y := fun e => by rw [e] at hxy; exact ltS_irrefl _ hxy
            have s2 : (x.toList == y.toList) = false := by
              rw [Lib.toList_data, Lib.toList_data, beq_eq_false_iff_ne]
              exact fun e => s3 (ByteArray.ext (Array.toList_inj.1 e))
            clear hxy
            go_upto_region 19 with fail
            go_region
            go_upto_region 20 with fail
            go_region
            go_wp2
            go_roundw
            case rel => exact ⟨i, by omega, rfl, HDN.out _ (by first | exact (Up.refl _).drew.drew | exact ((Up.refl _).drew.drewN _) | exact ((Up.refl _).drewN _))⟩
            case measure => exact bmeas (l.length + 1) i (by omega)
          · subst hxy
            have s1 : Op.bytesLess x.toList x.toList = false := by rw [bytes_lt]; exact decide_eq_false (ltS_irrefl _)
            have s2 : (x.toList == x.toList) = true := by simp
            have s3 : ¬ (jj : Int) ≥ (kk : Int) := by have := HJJ.out; have := HKK.out; omega
            go_upto_region 19 with fail
            go_region
            go_upto_region 20 with fail
            go_region
            go_wp2
            go_roundw
            case rel => exact ⟨i, by omega, rfl, HDN.out _ (by first | exact (Up.refl _).drew.drew | exact ((Up.refl _).drew.drewN _) | exact ((Up.refl _).drewN _))⟩
            case measure => exact bmeas (l.length + 1) i (by omega)
        · have t1 : ¬ (i : Int) < (l.length : Int) := by omega
          clear hi z0 hm
          go_wp2_with fail
          go_loopw [9, 10, 11, 12] (fun v9 v10 v11 v12 wr => ∃ i : Nat, i ≤ l.length ∧ v9 = .int .i64 i ∧ Hid (GB w wr T l.length l)) (fun v9 _ _ _ _ => l.length + 1 - (intOf v9).toNat)
          case atStart => exact ⟨0, Nat.zero_le _, rfl, hG⟩
          case round =>
            clear hG HV
            obtain ⟨q, hq, rfl, hG⟩ := hrel
            have z0 : (0 : Int) ≤ (q : Int) := by omega
            by_cases hql : q < l.length
            · have t2 : (q : Int) < (l.length : Int) := by omega
              obtain ⟨x, hx⟩ : ∃ x, x = l[q] := ⟨_, rfl⟩
              obtain ⟨W, hW⟩ : ∃ W, W = wr := ⟨_, rfl⟩
              rw [← hW] at hG ⊢
              clear hW
              go_wp2_with fail
              go_loopw [10, 11] (fun v10 v11 wk => ∃ k : Nat, k ≤ l.length ∧ v11 = .int .i64 k ∧ Hid (Up W wk) ∧ Hid (OwnR 2 (Value.int .i64) wk W.heap.size v10 (gE (zB l k) x.data.toList))) (fun _ v11 _ => l.length + 1 - (intOf v11).toNat)
              case atStart => exact ⟨0, Nat.zero_le _, rfl, hide (Up.refl _), hide (by rw [zB_0, gE_nil]; exact OwnR.nil _ _ _ _)⟩
              case round =>
                obtain ⟨k, hk, rfl, hU, hO⟩ := hrel
                have y0 : (0 : Int) ≤ (k : Int) := by omega
                by_cases hkl : k < l.length
                · have t3 : (k : Int) < (l.length : Int) := by omega
                  obtain ⟨gb, ob, rfl, hgk⟩ := (HR.out.up (hG.out.up.trans hU.out)).get (i := k) hkl
                  obtain ⟨gb', ob', q6, hgq⟩ := (HR.out.up (hG.out.up.trans hU.out)).get (i := q) hql
                  obtain ⟨rfl, rfl⟩ : gb = gb' ∧ ob = ob' := by injection q6 with q7; injection q7 with q1 q2; exact ⟨q1, q2⟩
                  have hT := gE_take l hkl x.data.toList
                  have hsh := gE_short l k x.data.toList
                  obtain ⟨y, hy⟩ : ∃ y, y = l[k] := ⟨_, rfl⟩
                  rw [← hy] at hgk hT
                  rw [← hx] at hgq
                  have eq' : IntKind.i64.wrap (q : Int) = (q : Int) := by rw [IntKind.wrap_i64]; omega
                  have ek' : IntKind.i64.wrap (k : Int) = (k : Int) := by rw [IntKind.wrap_i64]; omega
                  have ek1 := bwrap k (by omega)
                  have ek2 : IntKind.i64.wrap ((k : Int) + 1) = (k : Int) + 1 := by rw [IntKind.wrap_i64]; omega
                  have HSH := hide hsh
                  have HX := hide hx
                  clear hsh hy q6 hx
                  by_cases hxy : y = x
                  · subst hxy
                    have s2 : (y.toList == y.toList) = true := by simp
                    rw [if_pos rfl] at hT
                    have HT := hide hT
                    clear hT
                    have HU := hide (hU.out)
                    have HO := hide (hO.out)
                    clear hU hO
                    go_upto_region 29 with fail
                    go_region
                    have hu2 : Up wr (wr.drew.alloc (.cells #[.int .i64 ((k : Int) + 1)] 2)) := (Up.refl _).drew.alloc _
                    have HO2 := hide (HO.out.up hu2)
                    have HR2 : Hid (Rd (Value.int .i64) (fun _ => False) (wr.drew.alloc (.cells #[.int .i64 ((k : Int) + 1)] 2)) (.slice (some ⟨wr.drew.heap.size, 0, none⟩) 1 1) [((k + 1 : Nat) : Int)]) := hide ((OwnR.new1 (e := 2) wr.drew ((k + 1 : Nat) : Int)).rd (fun _ _ h => h))
                    have HU2 := hide (HU.out.trans hu2)
                    clear hu2
                    go_wp2_with (at_builtin; refine append_rd elemL rfl _ _ rfl W.heap.size _ _ (gE (zB l k) y.data.toList) [((k + 1 : Nat) : Int)] rfl rfl HO2.out HR2.out (by have := HSH.out; simp only [List.length_cons, List.length_nil]; omega) HU2.out.size ?_)
                    intro v' w' ho' hg' _
                    have hu3 := own_below HU2.out HO2.out hg'
                    go_wp2
                    go_roundw
                    case rel => exact ⟨k + 1, hkl, rfl, hide hu3, hide (by rw [HT.out]; exact ho')⟩
                    case measure => exact bmeas l.length k hkl
                  · have s2 : (y.toList == x.toList) = false := by
                      rw [Lib.toList_data, Lib.toList_data, beq_eq_false_iff_ne]
                      exact fun e => hxy (ByteArray.ext (Array.toList_inj.1 e))
                    rw [if_neg (fun e => hxy (ByteArray.ext (Array.toList_inj.1 e)))] at hT
                    have HT := hide hT
                    clear hT
                    go_upto_region 29 with fail
                    go_region
                    go_wp2
                    go_roundw
                    case rel => exact ⟨k + 1, hkl, rfl, hide (hU.out.trans (by first | exact (Up.refl _).drew | exact (Up.refl _).drewN _ | exact Up.refl _)), hide (by rw [HT.out]; exact hO.out.up (by first | exact (Up.refl _).drew | exact (Up.refl _).drewN _ | exact Up.refl _))⟩
                    case measure => exact bmeas l.length k hkl
                · obtain rfl : l.length = k := by omega
                  have t3 : ¬ ((l.length : Int) < (l.length : Int)) := by omega
                  obtain ⟨gb, ob, rfl, hgq⟩ := (HR.out.up (hG.out.up.trans hU.out)).get (i := q) hql
                  rw [← hx] at hgq
                  have eq' : IntKind.i64.wrap (q : Int) = (q : Int) := by rw [IntKind.wrap_i64]; omega
                  have HPR := hide (gb_prefix (hG.out.upw hU.out) hn x (by have := HS.out q hql; rw [hx]; omega))
                  have HX := hide hx
                  clear hx
                  go_wp2_with fail
                  refine HPR.out.mono ?_
                  intro e w5 hpo
                  rw [HX.out] at hpo
                  obtain ⟨v, ids5, rfl, hv, hM, hu⟩ := pre_nums hql hpo
                  rw [← HX.out] at hM
                  have HV5 := hide hv
                  have HM := hide hM
                  have HU5 := hide (hU.out.trans hu)
                  have HO5 := hide (hO.out.up hu)
                  have hgq5 := hu.cell hgq
                  clear hpo hv hM hu HPR hO hgq
                  dsimp only
                  have hne := gE_self l hql
                  rw [← HX.out] at hne
                  have HG5 := hide (hG.out.upw HU5.out)
                  obtain ⟨E, hE⟩ : ∃ E, E = gE (zB l l.length) x.data.toList := ⟨_, rfl⟩
                  have HF : Hid (∀ w', Up w5 w' → Calls Try.prog 13 #[.pointer (some ⟨T, 0, none⟩), .string x] w' fun e w2 => ∃ v, e = .returned v ∧ RdJ w2 v E ∧ Up w' w2) := hide (fun w' hu => by rw [hE]; exact gb_find (HG5.out.upw hu) hn x)
                  have hsh : E.length ≤ l.length := by rw [hE]; exact gE_short _ _ _
                  rw [← hE] at hne HM HO5
                  clear hE
                  obtain ⟨h, t, rfl⟩ := List.exists_cons_of_ne_nil (List.ne_nil_of_mem hne)
                  obtain ⟨M, rfl⟩ := HM.out
                  obtain ⟨a9, c9, rfl, hc⟩ := HV5.out.get
                  obtain ⟨g9, rfl, d1⟩ := hc 0 (by simp)
                  obtain ⟨a7, c7, rfl, _⟩ := HO5.out.slice
                  obtain ⟨g7, rfl, d2, _⟩ := HO5.out.at (i := 0) (by simp)
                  obtain ⟨n9, hn9⟩ : ∃ n9, n9 = (h :: t ++ M).length := ⟨_, rfl⟩
                  obtain ⟨n7, hn7⟩ : ∃ n7, n7 = (h :: t).length := ⟨_, rfl⟩
                  have hn97 : n7 ≤ n9 := by rw [hn9, hn7]; simp
                  have h7p : 0 < n7 := by rw [hn7]; simp
                  have HJ : Hid (∀ w', Up w5 w' → RdJ w' (.slice (some ⟨g7, 0, none⟩) n7 c7) (h :: t)) := hide (fun w' hu => by rw [hn7]; exact (ownR_J (HO5.out.up hu)).rd)
                  have HSH : Hid ((h :: t).length ≤ 1000000) := hide (by omega)
                  rw [← hn9, ← hn7]
                  have d1' : w5.cell? ⟨g9, 1, none⟩ = some (.int .i64 h) := by simpa using d1
                  have d2' : w5.cell? ⟨g7, 0, none⟩ = some (.int .i64 h) := by simpa using d2
                  have HD : Hid (∀ w', Up w5 w' → w'.cell? ⟨g9, 1, none⟩ = some (.int .i64 h) ∧ w'.cell? ⟨g7, 0, none⟩ = some (.int .i64 h) ∧ w'.cell? ⟨gb, ob + q, none⟩ = some (.string x)) := hide (fun w' hu => ⟨hu.cell d1', hu.cell d2', hu.cell hgq5⟩)
                  have u1 : ¬ (n9 : Int) < (n7 : Int) := by omega
                  have u1d : decide ((n9 : Int) < (n7 : Int)) = false := decide_eq_false u1
                  have u2' : (0 : Int) < (n9 : Int) := by omega
                  have u1e : decide (n9 < n7) = false := decide_eq_false (by omega)
                  have u3 : (0 : Int) < (n7 : Int) := by omega
                  have u2n : 0 < n9 := by omega
                  have u3n : 0 < n7 := h7p
                  have u2c : decide (0 < n9) = true := decide_eq_true u2n
                  have u3c : decide (0 < n7) = true := decide_eq_true u3n
                  clear d1 d2 hc hn9 hn7 hne hsh hn97 h7p HV5 HM HO5 u2c u3c
                  have eq1 := bwrap q (by omega)
                  have eq2 : IntKind.i64.wrap ((q : Int) + 1) = (q : Int) + 1 := by rw [IntKind.wrap_i64]; omega
                  --P5
                  go_upto_region 32 with fail
                  refine wp_region_noPanic ?_
                  go_region_held3 (fun w' => w'.cell? ⟨g9, 1, none⟩ = some (.int .i64 h) ∧ w'.cell? ⟨g7, 0, none⟩ = some (.int .i64 h) ∧ w'.cell? ⟨gb, ob + q, none⟩ = some (.string x))
                    (first | exact HD.out _ ((huf.out.trans hui.out).trans (by repeat' (with_reducible first | assumption | exact Up.refl _ | apply Up.alloc | apply Up.drew))) | exact HD.out _ (huf.out.trans (by repeat' (with_reducible first | assumption | exact Up.refl _ | apply Up.alloc | apply Up.drew))) | exact HD.out _ (by repeat' (with_reducible first | assumption | exact Up.refl _ | apply Up.alloc | apply Up.drew)))
                    (first
                      | (go_at_call 13; refine (HF.out _ (by repeat' (with_reducible first | assumption | exact Up.refl _ | apply Up.alloc | apply Up.drew))).mono ?_; rintro _ wf ⟨vf, rfl, hvf, huf'⟩; have huf := hide (Up.trans (a := w5) (by repeat' (with_reducible first | assumption | exact Up.refl _ | apply Up.alloc | apply Up.drew)) huf'); replace hvf := hide hvf; clear huf')
                      | (go_at_call 12; refine (ids_calls vf _ _ _ _ (hvf.out.up (by repeat' (with_reducible first | assumption | exact Up.refl _ | apply Up.alloc | apply Up.drew))) (HJ.out _ (huf.out.trans (by repeat' (with_reducible first | assumption | exact Up.refl _ | apply Up.alloc | apply Up.drew)))) HSH.out).mono ?_; rintro e2 wi ⟨he2, hui'⟩; rw [decide_eq_true rfl] at he2; subst he2; have hui := hide (Up.trans (a := wf) (by repeat' (with_reducible first | assumption | exact Up.refl _ | apply Up.alloc | apply Up.drew)) hui'); clear hui'))
                  all_goals (
                    refine NoPanic.normal ?_
                    go_wp2
                    go_roundw
                    case rel => exact ⟨q + 1, hql, rfl, hide (HG5.out.upw ((huf.out.trans hui.out).trans (by first | exact Up.refl _ | exact (Up.refl _).drew | exact (Up.refl _).drewN _)))⟩
                    case measure => exact bmeas l.length q hql)
            · have t2 : ¬ (q : Int) < (l.length : Int) := by omega
              go_wp2
              go_ret
              exact ⟨rfl, hG.out.up⟩
end Go.Proofs.Ytmbniakobhaomaa
