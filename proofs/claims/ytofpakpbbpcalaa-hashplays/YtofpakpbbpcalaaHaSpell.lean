/-
  What hashidx.spelled and hashidx.bytesOf answer of every key of few values, as their text runs.
-/
import Derived.Test.YtofpakpbbpcalaaHaKey
import Derived.Lib.MinMax
import Derived.Maps.AppendAt
namespace Go.Proofs.Ytofpakpbbpcalaa
open Go.ChangeShapes Go.WideShapes Go.ChangeAt Go.RowKit
set_option linter.unusedVariables false
attribute [local go_sem ↓] Go.wp_at_zero Go.wp_at_succ
attribute [local go_sem] run_store_float

theorem value_new2 {w : World} {t : TypeId} (v u : VT) : ∀ j x, (flat [v, u])[j]? = some x → (w.alloc (.cells #[.int .i64 v.1, .int .i64 v.2.1, .string v.2.2.1, .float .f64 v.2.2.2, .int .i64 u.1, .int .i64 u.2.1, .string u.2.2.1, .float .f64 u.2.2.2] t)).cell? ((⟨w.heap.size, 0, none⟩ : Addr).add j) = some x := by
  intro j x hj
  match j with
  | 0 => simp [flat, cellsT] at hj; subst hj; simp [Addr.add]
  | 1 => simp [flat, cellsT] at hj; subst hj; simp [Addr.add]
  | 2 => simp [flat, cellsT] at hj; subst hj; simp [Addr.add]
  | 3 => simp [flat, cellsT] at hj; subst hj; simp [Addr.add]
  | 4 => simp [flat, cellsT] at hj; subst hj; simp [Addr.add]
  | 5 => simp [flat, cellsT] at hj; subst hj; simp [Addr.add]
  | 6 => simp [flat, cellsT] at hj; subst hj; simp [Addr.add]
  | 7 => simp [flat, cellsT] at hj; subst hj; simp [Addr.add]
  | j + 8 => simp [flat, cellsT] at hj

theorem append_valueA {w : World} {ops : Array Oper} {rest : List Oper} {o : Oper} {a : Act} {Q : Exit → Act → World → Prop} (hgd : o.guard = none) (s x : Operand)
    (ho : o.op = .call { callee := .builtin .append, args := #[s, x], argTypes := #[27, 27] }) (base : Nat) (v : Value) (l : List VT) (hs : a.eval s = v) (hown : OwnV w base v l)
    (ad : Addr) (m c : Nat) (new : List VT) (hx : a.eval x = .slice (some ad) m c) (hm : new.length = m) (hnews : ∀ j u, (flat new)[j]? = some u → w.cell? (ad.add j) = some u)
    (hlen : l.length + m ≤ 1000000000) (hbase : base ≤ w.heap.size)
    (h : ∀ v' w', OwnV w' base v' (l ++ new) → w.grownBy w' v.ownBlock → (v'.ownBlock = v.ownBlock ∨ v'.ownBlock = some w.heap.size) → wpList Try.prog ops Q rest (a.put o.dst v') w') : wpList Try.prog ops Q (o :: rest) a w := by
  obtain ⟨i0, hi, hz0, hz1, hz2⟩ := info_parts info_value
  refine wpList_append_own_at w hgd s x 27 ho base 52 i0 (.agg #[.int .i64 0, .int .i64 0, .string ⟨#[]⟩, .float .f64 0]) 4 40 Try.underlying27 hi hz0 hz1 hz2 rfl (by decide) v l.length (flat l) hs hown ad m c (flat new) hx
    (by rw [flat_length, hm]) hnews (flat_one new) (by unfold maxLen; omega) (by omega) hbase fun v' w' h1 h2 _ h4 => h v' w' ?_ h2 h4
  unfold OwnV
  rw [List.length_append, flat_append, hm]
  exact h1
theorem grown_cell {w w' : World} {v : Value} (hg : w.grownBy w' v.ownBlock) {p : Addr} {x : Value} (hc : w.cell? p = some x) (hn : ¬ v.ownBlock = some p.block) : w'.cell? p = some x :=
  (World.cell?_of_block (w := w) (hg.block p.block (World.block_lt_of_cell? w p hc) (fun e => hn e.symm))).trans hc

set_option maxRecDepth 20000 in
set_option maxHeartbeats 4000000 in
theorem spelled_some (b off n c : Nat) (m : List VT) (w : World) (hm : GoodK m) (hn : m.length = n) (hx : ∀ i, i < n → At w b (off + i * 4) (m.getD i zeroT)) :
    Calls Try.prog 36 #[.slice (some ⟨b, off, none⟩) n c] w fun e w' => ∃ v, e = .returned v ∧ OwnV w' w.heap.size v (spellL m) ∧ Up w w' := by
  have hl : n ≤ 12 := by rw [← hn]; exact hm.1
  have H := hide hx
  have HN := hide hn
  have HM := hide hm
  clear hx hn hm
  go_enter Try.func36, Try.ntmps36
  go_wp2_with fail
  go_loopw [3, 10] (fun u i wr => ∃ k : Nat, k ≤ n ∧ i = .int .i64 k ∧ OwnV wr w.heap.size u (spellL (m.take k)) ∧ Up w wr) (fun _ i _ => n - (intOf i).toNat)
  case atStart => exact ⟨0, Nat.zero_le _, rfl, OwnV.nil _ _, Up.refl _⟩
  case round =>
    obtain ⟨k, hk, rfl, ho, hu⟩ := hrel
    by_cases hlt : k < n
    · obtain ⟨l0, l1, l2, l3⟩ := (H.out k hlt).up hu
      have hst := hide (spellL_take m k (by rw [HN.out]; exact hlt))
      have hlen := spellL_length (m.take k) (fun i => by
        by_cases h : i < k
        · have := HM.out.2.1 i
          rwa [List.getD_eq_getElem?_getD, List.getElem?_take, if_pos h, ← List.getD_eq_getElem?_getD]
        · rw [List.getD_eq_getElem?_getD, List.getElem?_take, if_neg h]; simp [zeroT])
      rw [List.length_take] at hlen
      have hsz := HM.out.2.1 k
      obtain ⟨⟨q, z, s, f⟩, hx⟩ : ∃ x, x = m.getD k zeroT := ⟨_, rfl⟩
      rw [← hx] at l0 l1 l2 l3 hst hsz
      simp only at l0 l1 l2 l3 hsz
      obtain ⟨A, hA⟩ : ∃ A, A = spellL (m.take k) := ⟨_, rfl⟩
      rw [← hA] at ho hst hlen
      have hlA : A.length ≤ 1000 := by omega
      clear hlen hA hx
      have i0 : (0 : Int) ≤ (k : Int) := by omega
      have i1 : (k : Int) < (n : Int) := by omega
      obtain ⟨W, hW⟩ : ∃ W, wr.alloc (.cells #[.int .i64 q, .int .i64 z, .string s, .float .f64 f] 52) = W := ⟨_, rfl⟩
      have hWs : wr.heap.size < W.heap.size := by subst hW; simp
      have c0 : W.cell? ⟨wr.heap.size, 0, none⟩ = some (.int .i64 q) := by subst hW; simp
      have c1 : W.cell? ⟨wr.heap.size, 1, none⟩ = some (.int .i64 z) := by subst hW; simp
      have c2 : W.cell? ⟨wr.heap.size, 2, none⟩ = some (.string s) := by subst hW; simp
      have c3 : W.cell? ⟨wr.heap.size, 3, none⟩ = some (.float .f64 f) := by subst hW; simp
      have hu2 : Hid (Up w W) := by subst hW; exact hu.alloc _
      have hob : Hid (∀ g, u3.ownBlock = some g → g < wr.heap.size) := fun g e => (ho.lt g e).2
      replace ho : OwnV W w.heap.size u3 A := by subst hW; exact ho.alloc _
      replace hu := hide hu
      have hbs := hu2.out.size
      go_wp2_with (at_builtin; refine append_valueA rfl (.tmp 14) (.tmp 21) rfl w.heap.size _ _ rfl (ho.alloc _) _ 2 2 [intT q, intT z] rfl rfl (value_new2 (intT q) (intT z)) (by omega) (Nat.le_trans hbs (by simp)) ?_)
      intro v2 w2 ho2 hg2 hat2
      have hu3 : Hid (Up w w2) := hide (below_appendV hu2.out hbs ho hg2)
      have n1 : ¬ u3.ownBlock = some wr.heap.size := fun e => by have := hob.out _ e; omega
      have n2 : Hid (¬ v2.ownBlock = some wr.heap.size) := fun e => by
        rcases hat2 with h | h
        · rw [h] at e; exact n1 e
        · rw [h] at e
          have := Option.some.inj e
          first | (simp at this; omega) | omega
      have d2 := grown_cell hg2 (p := ⟨wr.heap.size, 2, none⟩) (((Up.refl _).alloc _).cell c2) n1
      have d3 := grown_cell hg2 (p := ⟨wr.heap.size, 3, none⟩) (((Up.refl _).alloc _).cell c3) n1
      replace ho2 := hide ho2
      clear hg2 hat2 n1 c0 c1 c2 c3 ho hu2 hW hbs l0 l1 l2 l3
      obtain ⟨wr0, rfl⟩ : ∃ wr0, wr0 = wr := ⟨_, rfl⟩
      go_wp2_with fail
      go_loopw [3, 6] (fun u sv x => ∃ (j : Nat) (S : ByteArray) (rest : List UInt8) (acc : List VT), sv = .string S ∧ Hid (S.data.toList = rest) ∧ rest.length ≤ j ∧ rest.length ≤ 200 ∧ acc.length ≤ 1100 ∧ acc.length * 60 + rest.length ≤ (A.length + 6) * 60 ∧ OwnV x w.heap.size u acc ∧ Hid (Up w x) ∧ x.cell? ⟨wr0.heap.size, 3, none⟩ = some (.float .f64 f) ∧ Hid (¬ u.ownBlock = some wr0.heap.size) ∧ Hid (acc ++ (pcs j rest).map pieceT = A ++ [intT q, intT z] ++ (pcs s.size s.data.toList).map pieceT)) (fun _ sv _ => match sv with | .string b => b.size | _ => 0)
      case atStart => exact ⟨s.size, s, s.data.toList, _, rfl, rfl, by simp, by simpa using hsz, by simp; omega, by simp; omega, ho2.out, hu3, d3, n2, rfl⟩
      case round =>
        obtain ⟨j, S, rest, acc, rfl, hS, hj, hr, ha, hsum, ho3, hu4, d3', n3, he⟩ := hrel
        have hbs := hu4.out.size
        have hsS : S.size = rest.length := by rw [← hS.out]; simp
        by_cases h0 : rest = []
        · have hne : S.toList.isEmpty = true := by rw [Go.Lib.toList_data, hS.out, h0]; rfl
          have hfin : Hid (acc ++ [fltT f] = spellL (m.take (k + 1))) := by
            show acc ++ [fltT f] = _
            have := he.out
            rw [h0, pcs_nil, List.map_nil, List.append_nil] at this
            rw [hst.out, this]
            simp [spellV]
          have hla : acc.length ≤ 1100 := ha
          clear he hsum hr hj h0 ha hsS
          go_wp2_with (at_builtin; refine append_valueA rfl (.tmp 40) (.tmp 44) rfl w.heap.size _ _ rfl (ho3.alloc _) _ 1 1 [fltT f] rfl rfl (value_new (fltT f)) (by omega) (Nat.le_trans hbs (by simp)) ?_)
          intro v5 w5 ho5 hg5 _
          have hu5 : Hid (Up w w5) := hide (below_appendV hu4.out hbs ho3 hg5)
          replace ho5 : Hid (OwnV w5 w.heap.size v5 (spellL (m.take (k + 1)))) := by rw [← hfin.out]; exact ho5
          clear hg5 ho3 hu4 d3' n3 hS
          go_wp2
          go_roundw
          case rel => exact ⟨k + 1, by omega, by go_num, ho5.out, hu5.out⟩
          case measure => simp [intOf]; omega
        · have hne : S.toList.isEmpty = false := by
            rw [Go.Lib.toList_data, hS.out]
            cases rest with
            | nil => exact absurd rfl h0
            | cons c l => rfl
          have hpos : 0 < rest.length := List.length_pos_iff.2 h0
          obtain ⟨j', rfl, hp, hj'⟩ := pcs_step h0 hj
          obtain ⟨T, hT⟩ : ∃ T : Nat, T = min S.size 60 := ⟨_, rfl⟩
          have hmn : min (S.size : Int) 60 = (T : Int) := by rw [hT]; omega
          have hT1 : T ≤ S.size := by omega
          have hT2 : (T : Int) ≤ (S.size : Int) := by omega
          have hT0 : (0 : Int) ≤ (T : Int) := by omega
          have hP : S.extract 0 T = ⟨(rest.take 60).toArray⟩ := by
            apply ByteArray.ext
            apply Array.toList_inj.1
            rw [ByteArray.data_extract, Array.toList_extract, hS.out]
            simp only [List.extract_eq_take_drop, List.drop_zero, Nat.sub_zero]
            by_cases h : rest.length ≤ 60
            · rw [List.take_of_length_le (by omega), List.take_of_length_le (by omega)]
            · rw [show T = 60 by omega]
          have hD : (S.extract T S.size).data.toList = rest.drop 60 := by
            rw [ByteArray.data_extract, Array.toList_extract, hS.out]
            simp only [List.extract_eq_take_drop]
            by_cases h : rest.length ≤ 60
            · rw [show T = rest.length by omega, List.drop_eq_nil_of_le (Nat.le_refl _), List.drop_eq_nil_of_le h]; simp
            · rw [show T = 60 by omega, List.take_of_length_le (by rw [List.length_drop]; omega)]
          have HP := hide hP
          have HD := hide hD
          have he2 : Hid ((acc ++ [((4, 0, S.extract 0 T, 0) : VT)]) ++ (pcs j' (rest.drop 60)).map pieceT = A ++ [intT q, intT z] ++ (pcs s.size s.data.toList).map pieceT) := by
            show (acc ++ [((4, 0, S.extract 0 T, 0) : VT)]) ++ (pcs j' (rest.drop 60)).map pieceT = _
            rw [← he.out, hp, hP]
            simp [pieceT]
          have hdl : (rest.drop 60).length = rest.length - 60 := List.length_drop
          have hT60 : T ≤ 60 := by omega
          have hT3 := hide hT
          have HsS := hide hsS
          have hdl2 := hide hdl
          have hp60 : 0 < T := by omega
          clear hp hP hD he hT hsS hdl
          go_wp2_with (at_builtin; refine append_valueA rfl (.tmp 30) (.tmp 35) rfl w.heap.size _ _ rfl (ho3.alloc _) _ 1 1 [((4, 0, S.extract 0 T, 0) : VT)] rfl rfl (value_new ((4, 0, S.extract 0 T, 0) : VT)) (by omega) (Nat.le_trans hbs (by simp)) ?_)
          intro v5 w5 ho5 hg5 hat5
          have hu5 : Hid (Up w w5) := hide (below_appendV hu4.out hbs ho3 hg5)
          have n5 : Hid (¬ v5.ownBlock = some wr0.heap.size) := fun e => by
            rcases hat5 with h | h
            · rw [h] at e; exact n3.out e
            · rw [h] at e
              have := Option.some.inj e
              have := World.block_lt_of_cell? wr _ d3'
              simp at *
              omega
          have d5 := grown_cell hg5 (p := ⟨wr0.heap.size, 3, none⟩) (((Up.refl _).alloc _).cell d3') n3.out
          replace ho5 := hide ho5
          clear hg5 hat5 n3 d3' ho3 hu4
          go_wp2
          --S1
          go_roundw
          case rel => exact ⟨j', _, rest.drop 60, _, rfl, HD.out, hj', by rw [hdl2.out]; omega, by simp; omega, by rw [hdl2.out]; simp; omega, ho5.out, hu5, d5, n5, he2.out⟩
          case measure => simp; omega
    · obtain rfl : k = n := by omega
      have ht : m.take k = m := List.take_of_length_le (by rw [HN.out]; exact Nat.le_refl _)
      rw [ht] at ho
      replace ho := hide ho
      replace hu := hide hu
      clear ht
      go_wp2
      go_ret
      exact ⟨_, rfl, ho.out, hu.out⟩

theorem spelled_none (a : Option Addr) (c : Nat) (w : World) : Calls Try.prog 36 #[.slice a 0 c] w fun e w' => ∃ v, e = .returned v ∧ OwnV w' w.heap.size v (spellL []) ∧ Up w w' := by
  go_enter Try.func36, Try.ntmps36
  go_wp2_with fail
  refine wp_loop_rounds 1 ?_
  rw [rounds_succ]
  go_wp2
  go_ret
  exact ⟨_, rfl, OwnV.nil _ _, Up.refl _⟩

theorem spelled_calls (a : Option Addr) (n c : Nat) (m : List VT) (w : World) (hm : GoodK m) (hv : Vals w a n m) :
    Calls Try.prog 36 #[.slice a n c] w fun e w' => ∃ v, e = .returned v ∧ OwnV w' w.heap.size v (spellL m) ∧ Up w w' := by
  obtain ⟨hl, _, h⟩ := hv
  rcases h with rfl | ⟨b, off, rfl, hx⟩
  · obtain rfl : m = [] := List.length_eq_zero_iff.1 hl
    exact spelled_none _ _ _
  · exact spelled_some _ _ _ _ m w hm hl hx
theorem OwnV.vals {w : World} {base : Nat} {v : Value} {l : List VT} (h : OwnV w base v l) (hf : ∀ i, Fits (l.getD i zeroT)) : ∃ a cap, v = .slice a l.length cap ∧ l.length ≤ cap ∧ cap ≤ maxLen ∧ Vals w a l.length l := by
  have h0 := h
  rcases h.2 with ⟨rfl, hn⟩ | ⟨g, cap, cur, rfl, hb, hg, hc, hm, hs, ht⟩
  · have : l = [] := List.length_eq_zero_iff.1 (by simpa using hn)
    subst this
    exact ⟨none, 0, rfl, Nat.le_refl _, Nat.zero_le _, rfl, hf, .inl rfl⟩
  · refine ⟨some ⟨g, 0, none⟩, cap, rfl, hc, hm, rfl, hf, .inr ⟨g, 0, rfl, fun i hi => ?_⟩⟩
    have key : ∀ j, j < 4 → w.cell? ⟨g, 0 + i * 4 + j, none⟩ = (flat l)[i * 4 + j]? := fun j hj => by
      rw [show 0 + i * 4 + j = i * 4 + j by omega]
      exact World.ownsRow.cellAt h0 (i * 4 + j) (by omega)
    refine ⟨?_, ?_, ?_, ?_⟩
    · have := key 0 (by omega); rw [Nat.add_zero] at this; rw [this, flat_get l i 0 hi (by omega)]; rfl
    · rw [key 1 (by omega), flat_get l i 1 hi (by omega)]; rfl
    · rw [key 2 (by omega), flat_get l i 2 hi (by omega)]; rfl
    · rw [key 3 (by omega), flat_get l i 3 hi (by omega)]; rfl

set_option maxHeartbeats 4000000 in
theorem bytesOf_calls (a : Option Addr) (n c : Nat) (m : List VT) (w : World) (hm : GoodK m) (hv : Vals w a n m) :
    Calls Try.prog 24 #[.slice a n c] w fun e w' => e = .returned (.string (keyB m)) ∧ Up w w' := by
  have HV := hide hv
  have HM := hide hm
  clear hv hm
  go_enter Try.func24, Try.ntmps24
  go_wp2_with fail
  go_at_call 36
  refine (spelled_calls a n c m _ HM.out HV.out).mono ?_
  rintro _ w1 ⟨v1, rfl, ho1, hu1⟩
  obtain ⟨a1, c1, rfl, _, _, hv1⟩ := ho1.vals (fun i => getD_all (ok := Fits) (fun x hx => (spellL_good HM.out.2.2 x hx).2) fits_zero i)
  have hl1 : (spellL m).length ≤ 1000 := by
    have := spellL_length m HM.out.2.1
    have := HM.out.1
    omega
  have hall : (spellL m).all isB = true := by
    rw [List.all_eq_true]
    exact fun x hx => (spellL_good HM.out.2.2 x hx).1
  have HV1 := hide hv1
  have HU1 := hide hu1
  clear ho1 hv1 hu1
  generalize (spellL m).length = n1 at *
  go_wp2_with fail
  go_at_call 35
  refine (put_calls a1 n1 c1 (spellL m) _ hl1 HV1.out).mono ?_
  rintro _ w2 ⟨hu2, ⟨_, v2, rfl, ho2⟩ | ⟨hb, _⟩⟩
  · have hcv := ho2.conv
    have HU2 := hide (HU1.out.trans hu2)
    clear ho2 hu2
    go_wp2
    go_ret
    exact ⟨rfl, HU2.out⟩
  · rw [hall] at hb; cases hb

end Go.Proofs.Ytofpakpbbpcalaa
