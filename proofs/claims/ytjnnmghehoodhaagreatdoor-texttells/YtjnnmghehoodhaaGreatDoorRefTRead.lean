/-
  What the document's own Read (package rialtoref4) answers of every text that isn't too long, as its text runs.
-/
import Derived.Test.YtjnnmghehoodhaaGreatDoorRefAll
import Derived.Test.YtjnnmghehoodhaaGreatDoorTextStep
import Derived.Test.YtjnnmghehoodhaaGreatDoorOwnVals
namespace Go.Proofs.YtjnnmghehoodhaaGreatDoor
open Go.ChangeShapes Go.WideShapes Go.ChangeAt Go.RowKit
attribute [local go_sem ↓] Go.wp_at_zero Go.wp_at_succ
set_option maxRecDepth 100000
attribute [local go_sem] run_store_float
set_option linter.unusedVariables false

/-- What Read leaves: the row in new memory, or an error. -/
def ReadsPost (w : World) (s : List UInt8) (e : Ending) (w' : World) : Prop :=
  Up w w' ∧ ((∃ m v, redT s = some m ∧ m.length ≤ s.length ∧ e = .returned (.tuple #[v, .int .i64 0]) ∧ OwnV w' w.heap.size v m) ∨ (redT s = none ∧ e = .returned (.tuple #[.slice none 0 0, .int .i64 30])))

theorem ex_list (s : ByteArray) (i j : Nat) : (s.extract i j).data.toList = (s.data.toList.drop i).take (j - i) := by
  rw [ByteArray.data_extract, Array.toList_extract, List.extract_eq_take_drop]

theorem value_new2 {w : World} {t : TypeId} {o : Obj} (v : VT) : ∀ j u, (flat [v])[j]? = some u → ((w.alloc o).alloc (.cells #[.int .i64 v.1, .int .i64 v.2.1, .string v.2.2.1, .float .f64 v.2.2.2] t)).cell? ((⟨w.heap.size + 1, 0, none⟩ : Addr).add j) = some u := by
  have h := value_new (w := w.alloc o) (t := t) v
  simpa using h
theorem up_grownV {w W W' w' : World} {v : Value} {l : List VT} (hu : Up w W) (hg : W.grownBy w' v.ownBlock) (hown : OwnV W' w.heap.size v l) : Up w w' :=
  Below.grown hu hg hu.size fun k hk => (hown.lt k hk).1
theorem last_byte (s : ByteArray) (h : 0 < s.size) : s.data.toList.getLast? = some s[s.size - 1] := by
  have hl : s.data.toList.length = s.size := by simp
  rw [List.getLast?_eq_getElem?, hl, Array.getElem?_toList, Array.getElem?_eq_getElem (by show s.size - 1 < s.size; omega)]
  rfl
set_option maxHeartbeats 4000000 in
theorem rread_short (s : ByteArray) (h2 : s.size < 2) (w : World) : Calls Tryz.prog 13 #[.string s] w fun e w' => ReadsPost w s.data.toList e w' := by
  have hl : s.data.toList.length = s.size := by simp
  have hno := hide (redT_no s.data.toList (fun h => by omega))
  have i2 : (s.size : Int) < 2 := by omega
  clear hl
  go_enter Tryz.func13, Tryz.ntmps13
  go_wp2
  go_ret2
  exact ⟨Up.refl _, .inr ⟨hno.out, rfl⟩⟩

set_option maxHeartbeats 4000000 in
theorem rread_ends (s : ByteArray) (h2 : ¬ s.size < 2) (hs : s.size ≤ 1000000) (w : World) (h40 : s[0] = 40) (h41 : s[s.size - 1] = 41) : Calls Tryz.prog 13 #[.string s] w fun e w' => ReadsPost w s.data.toList e w' := by
  have i2 : ¬ (s.size : Int) < 2 := by omega
  have n1 : ((s[0].toNat : Int) == 40) = true := byte_yes (d := 40) h40
  have n2 : ((s[s.size - 1].toNat : Int) == 41) = true := byte_yes (d := 41) h41
  have i3 : IntKind.i64.wrap ((s.size : Int) - 1) = (s.size : Int) - 1 := wrap_small (by omega) (by omega)
  have i4 : (0 : Int) ≤ (s.size : Int) - 1 := by omega
  have i5 : ((s.size : Int) - 1).toNat = s.size - 1 := by omega
  obtain ⟨t, ht⟩ : ∃ t, t = s.extract 1 (s.size - 1) := ⟨_, rfl⟩
  have hsl : ∀ W : World, (Instr.slice 9 (.string s) (some (.int .i64 1)) (some (.int .i64 ((s.size : Int) - 1))) none).run Tryz.prog W = .ok (.string t) W := by
    intro W
    rw [ht, run_slice_string W 9 s .i64 .i64 1 ((s.size : Int) - 1) Tryz.underlying9 (by omega) (by omega) (by omega), i5]
    rfl
  have hall : Hid (redT s.data.toList = allT t.data.toList) := by
    show redT s.data.toList = allT t.data.toList
    have hl : s.data.toList.length = s.size := by simp
    have hne : s.data.toList ≠ [] := fun e => by rw [e] at hl; simp at hl; omega
    rw [redT_all _ (by omega) (by rw [head_minus s (by omega), h40]) (by rw [last_byte s (by omega), h41]), ht, ex_list, List.drop_one, List.dropLast_eq_take, List.length_tail, hl]
  have htz : t.size + 2 = s.size := by rw [ht, ByteArray.size_extract]; omega
  clear ht
  go_enter Tryz.func13, Tryz.ntmps13
  go_wp2_with fail
  go_loopw [0, 5] (fun x y wr => ∃ (T : ByteArray) (g : List VT), x = .string T ∧ OwnV wr w.heap.size y g ∧ T.size + g.length ≤ s.size ∧ Up w wr ∧ Hid (redT s.data.toList = (allT T.data.toList).map fun q => g ++ q)) (fun x _ _ => match x with | .string T => T.size | _ => 0)
  case atStart => exact ⟨t, [], rfl, OwnV.nil _ _, by simp; omega, Up.refl _, by rw [hall.out]; simp [Hid]⟩
  case round =>
    obtain ⟨T, g, rfl, ho, hT, hu, he⟩ := hrel
    have HU := hide hu
    have HO := hide ho
    clear hu ho hsl hall n1 n2 h40 h41 i3 i4 i5
    have hTl : T.data.toList.length = T.size := by simp
    by_cases h0 : T.size = 0
    · have hyes : Hid (redT s.data.toList = some g) := by
        show redT s.data.toList = some g
        rw [he.out, List.length_eq_zero_iff.1 (hTl.trans h0), allT_nil]; simp
      have e0 : T.toList.isEmpty = true := by rw [Go.Lib.toList_data, List.length_eq_zero_iff.1 (hTl.trans h0)]; rfl
      clear he hTl
      go_wp2
      go_ret2
      exact ⟨HU.out, .inl ⟨g, _, hyes.out, by simp; omega, rfl, HO.out⟩⟩
    · have hne : T.data.toList ≠ [] := fun e => by rw [e] at hTl; simp at hTl; omega
      have e0 : T.toList.isEmpty = false := by rw [Go.Lib.toList_data]; simpa using hne
      replace hTl := hide hTl
      have HNE := hide hne
      clear hne
      go_wp2_with fail
      go_loop [6, 7] (fun x y => ∃ (j : Nat) (b : Bool), x = .int .i64 (j : Int) ∧ y = .bool b ∧ j ≤ T.size + 1 ∧ Hid ((j ≤ T.size ∧ endT false T.data.toList = j + endT b (T.data.toList.drop j)) ∨ (j = T.size + 1 ∧ endT false T.data.toList = T.size))) (fun x _ => T.size + 1 - (intOf x).toNat)
      case atStart => exact ⟨0, false, rfl, rfl, Nat.zero_le _, .inl ⟨Nat.zero_le _, by simp⟩⟩
      case round =>
        obtain ⟨j, b, rfl, rfl, hj, hE⟩ := hrel
        by_cases hlt : j < T.size
        · have hd := drop_at T j hlt
          have t1 : (j : Int) < (T.size : Int) := by omega
          have hEd : endT false T.data.toList = j + endT b (T[j] :: T.data.toList.drop (j + 1)) := by
            rcases hE.out with ⟨_, h⟩ | ⟨h, _⟩
            · rw [h, hd]
            · omega
          replace hd := hide hd
          clear hE
          by_cases hx : b = false ∧ T[j] = 44
          · obtain ⟨rfl, hx⟩ := hx
            have t2 : ((T[j].toNat : Int) == 44) = true := byte_yes (d := 44) hx
            rw [hx, endT_comma, Nat.add_zero] at hEd
            replace hEd := hide hEd
            have HX := hide hx
            clear hx
            have hxl : (T.extract 0 j).data.toList = T.data.toList.take j := by
              rw [ex_list, List.drop_zero, Nat.sub_zero]
            have hq := rparse_calls (T.extract 0 j) (by rw [ByteArray.size_extract]; omega)
            rw [hxl] at hq
            clear hxl
            have hbl : Hid ((T.extract j T.size).data.toList = T.data.toList.drop j) := by
              show (T.extract j T.size).data.toList = _
              rw [ex_list]
              exact List.take_of_length_le (by rw [List.length_drop, hTl.out]; exact Nat.le_refl _)
            have hbz : (T.extract j T.size).size = T.size - j := by rw [ByteArray.size_extract]; omega
            have q0 : (T.extract j T.size).toList.isEmpty = false := by
              rw [Go.Lib.toList_data, hbl.out, hd.out]; rfl
            unfold ParsePost at hq
            go_wp2_with fail
            go_at_call 11
            refine (hq _).mono ?_
            clear hq
            rintro _ w1 ⟨hu1, ⟨⟨k0, n0, s0, f0⟩, hp, rfl⟩ | ⟨hp, rfl⟩⟩
            · have HU1 := hide (HU.out.trans hu1)
              have ho1 := HO.out.up hu1
              have hbs := HU1.out.size
              have HP := hide hp
              clear hp hu1 HU HO
              go_wp2_with (at_builtin; refine append_value rfl _ _ rfl w.heap.size _ g rfl ((ho1.alloc _).alloc _) _ 1 1 [(k0, n0, s0, f0)] rfl rfl (value_new2 (k0, n0, s0, f0)) (by omega) (Nat.le_trans hbs (by simp; omega)) ?_)
              intro v2 w2 ho2 hg2
              have HU2 := hide (up_grownV ((HU1.out.alloc _).alloc _) hg2 ho1)
              replace ho2 := hide ho2
              clear hg2 ho1 HU1
              by_cases h3 : T.size - j < 3
              · have q1 : (((T.extract j T.size).size : Int)) < 3 := by omega
                have hno : Hid (redT s.data.toList = none) := by
                  show redT s.data.toList = none
                  rw [he.out, allT_bad HNE.out (by rw [hEd.out]; exact HP.out) (by rw [hEd.out]) (by rw [hd.out]; simp) (.inl (by rw [List.length_drop, hTl.out]; exact h3))]; rfl
                clear he
                go_wp2
                go_ret2
                exact ⟨HU2.out, .inr ⟨hno.out, rfl⟩⟩
              · have q1 : ¬ (((T.extract j T.size).size : Int)) < 3 := by omega
                have q2 : (2 : Int) ≤ ((T.extract j T.size).size : Int) := by omega
                by_cases hb : (T.data.toList.drop j).take 2 = [44, 32]
                · obtain ⟨C, hC⟩ : ∃ C, C = (T.extract j T.size).extract 2 (T.size - j) := ⟨_, rfl⟩
                  have hcl : C.data.toList = (T.data.toList.drop j).drop 2 := by
                    rw [hC, ex_list, hbl.out]
                    exact List.take_of_length_le (by rw [List.length_drop, List.length_drop, hTl.out]; exact Nat.le_refl _)
                  have hcz : C.size = T.size - j - 2 := by
                    rw [hC, ByteArray.size_extract, hbz]; omega
                  have hnext : Hid (redT s.data.toList = (allT C.data.toList).map fun q => (g ++ [(k0, n0, s0, f0)]) ++ q) := by
                    show redT s.data.toList = _
                    rw [he.out, allT_next HNE.out (by rw [hEd.out]; exact HP.out) (by rw [hEd.out]) (by rw [List.length_drop, hTl.out]; omega) hb, hcl]
                    cases allT ((T.data.toList.drop j).drop 2) <;> simp
                  have q3 : (((T.extract j T.size).extract 0 2).toList == [44, 32]) = true := by
                    rw [Go.Lib.toList_data, ex_list, hbl.out, List.drop_zero, hb]; rfl
                  have HCC := hide hC
                  clear he hb hcl hC
                  go_wp2
                  go_roundw
                  case rel =>
                    refine ⟨C, _, ?_, ho2.out, ?_, HU2.out, hnext.out⟩
                    · rw [HCC.out]
                    · rw [List.length_append]; simp only [List.length_singleton]; omega
                  case measure =>
                    show ((T.extract j T.size).extract 2 (T.size - j)).size < T.size
                    rw [← HCC.out]
                    omega
                · have hno : Hid (redT s.data.toList = none) := by
                    show redT s.data.toList = none
                    rw [he.out, allT_bad HNE.out (by rw [hEd.out]; exact HP.out) (by rw [hEd.out]) (by rw [hd.out]; simp) (.inr hb)]; rfl
                  have q3 : (((T.extract j T.size).extract 0 2).toList == [44, 32]) = false := by
                    rw [Go.Lib.toList_data, ex_list, hbl.out, List.drop_zero]
                    exact beq_eq_false_iff_ne.2 hb
                  clear he hb
                  go_wp2
                  go_ret2
                  exact ⟨HU2.out, .inr ⟨hno.out, rfl⟩⟩
            · have hno : Hid (redT s.data.toList = none) := by
                show redT s.data.toList = none
                rw [he.out, allT_none HNE.out (by rw [hEd.out]; exact hp)]; rfl
              have HU1 := hide (HU.out.trans hu1)
              clear hp hu1 HU he HO
              go_wp2
              go_ret2
              exact ⟨HU1.out.alloc _, .inr ⟨hno.out, rfl⟩⟩
          · by_cases h92 : T[j] = 92
            · have t2 : ((T[j].toNat : Int) == 92) = true := byte_yes (d := 92) h92
              have t3 : ((T[j].toNat : Int) == 44) = false := byte_no (d := 44) (by rw [h92]; decide)
              have hnext : Hid ((j + 2 ≤ T.size ∧ endT false T.data.toList = (j + 2) + endT b (T.data.toList.drop (j + 2))) ∨ (j + 2 = T.size + 1 ∧ endT false T.data.toList = T.size)) := by
                rw [h92] at hEd
                by_cases hl2 : j + 1 < T.size
                · refine .inl ⟨by omega, ?_⟩
                  rw [hEd, drop_at T (j + 1) hl2, endT_back, show j + 2 = j + 1 + 1 from rfl]; omega
                · refine .inr ⟨by omega, ?_⟩
                  have : T.data.toList.drop (j + 1) = [] := List.drop_eq_nil_of_le (by rw [hTl.out]; omega)
                  rw [hEd, this]
                  cases b <;> simp [endT] <;> omega
              clear hEd hx h92
              cases b with
              | true =>
                go_wp2
                go_round
                case rel => exact ⟨j + 2, true, by go_num, rfl, by omega, hnext.out⟩
                case measure => simp [intOf]; omega
              | false =>
                go_wp2
                go_round
                case rel => exact ⟨j + 2, false, by go_num, rfl, by omega, hnext.out⟩
                case measure => simp [intOf]; omega
            · have t2 : ((T[j].toNat : Int) == 92) = false := byte_no (d := 92) h92
              by_cases h34 : T[j] = 34
              · have t3 : ((T[j].toNat : Int) == 34) = true := byte_yes (d := 34) h34
                have t4 : ((T[j].toNat : Int) == 44) = false := byte_no (d := 44) (by rw [h34]; decide)
                have hnext : Hid ((j + 1 ≤ T.size ∧ endT false T.data.toList = (j + 1) + endT (!b) (T.data.toList.drop (j + 1))) ∨ (j + 1 = T.size + 1 ∧ endT false T.data.toList = T.size)) := by
                  refine .inl ⟨by omega, ?_⟩
                  rw [hEd, h34, endT_quote]; omega
                clear hEd hx h92 h34
                cases b with
                | true =>
                  go_wp2
                  go_round
                  case rel => exact ⟨j + 1, false, by go_num, rfl, by omega, hnext.out⟩
                  case measure => simp [intOf]; omega
                | false =>
                  go_wp2
                  go_round
                  case rel => exact ⟨j + 1, true, by go_num, rfl, by omega, hnext.out⟩
                  case measure => simp [intOf]; omega
              · have t3 : ((T[j].toNat : Int) == 34) = false := byte_no (d := 34) h34
                have hnext : Hid ((j + 1 ≤ T.size ∧ endT false T.data.toList = (j + 1) + endT b (T.data.toList.drop (j + 1))) ∨ (j + 1 = T.size + 1 ∧ endT false T.data.toList = T.size)) := by
                  refine .inl ⟨by omega, ?_⟩
                  rw [hEd, endT_plain h34 h92 (by cases b with
                    | true => exact .inl rfl
                    | false => exact .inr fun e => hx ⟨rfl, e⟩)]
                  omega
                cases b with
                | true =>
                  clear hEd hx h92 h34
                  go_wp2
                  go_round
                  case rel => exact ⟨j + 1, true, by go_num, rfl, by omega, hnext.out⟩
                  case measure => simp [intOf]; omega
                | false =>
                  have t4 : ((T[j].toNat : Int) == 44) = false := byte_no (d := 44) (fun e => hx ⟨rfl, e⟩)
                  clear hEd hx h92 h34
                  go_wp2
                  go_round
                  case rel => exact ⟨j + 1, false, by go_num, rfl, by omega, hnext.out⟩
                  case measure => simp [intOf]; omega
        · have t1 : ¬ (j : Int) < (T.size : Int) := by omega
          have hEd : endT false T.data.toList = T.size := by
            rcases hE.out with ⟨hle, h⟩ | ⟨_, h⟩
            · rw [h, endT_end j (by rw [hTl.out]; omega)]; omega
            · exact h
          clear hE
          replace hEd := hide hEd
          have hjs : j = T.size ∨ j = T.size + 1 := by omega
          rcases hjs with rfl | rfl
          · have hq := rparse_calls T (by omega)
            have htk : T.data.toList.take T.size = T.data.toList := take_whole T
            unfold ParsePost at hq
            go_wp2_with fail
            go_at_call 11
            refine (hq _).mono ?_
            clear hq
            rintro _ w1 ⟨hu1, ⟨⟨k0, n0, s0, f0⟩, hp, rfl⟩ | ⟨hp, rfl⟩⟩
            · have HU1 := hide (HU.out.trans hu1)
              have ho1 := HO.out.up hu1
              have hbs := HU1.out.size
              have HP := hide hp
              clear hp hu1 HU HO
              go_wp2_with (at_builtin; refine append_value rfl _ _ rfl w.heap.size _ g rfl ((ho1.alloc _).alloc _) _ 1 1 [(k0, n0, s0, f0)] rfl rfl (value_new2 (k0, n0, s0, f0)) (by omega) (Nat.le_trans hbs (by simp; omega)) ?_)
              intro v2 w2 ho2 hg2
              have HU2 := hide (up_grownV ((HU1.out.alloc _).alloc _) hg2 ho1)
              replace ho2 := hide ho2
              clear hg2 ho1 HU1
              have hyes : Hid (redT s.data.toList = some (g ++ [(k0, n0, s0, f0)])) := by
                show redT s.data.toList = some (g ++ [(k0, n0, s0, f0)])
                have hdr : T.data.toList.drop T.size = [] := List.drop_eq_nil_of_le (by rw [hTl.out]; exact Nat.le_refl _)
                rw [he.out, allT_last HNE.out (by rw [hEd.out, htk]; exact HP.out) (by rw [hEd.out]; exact hdr)]; rfl
              clear he htk
              go_wp2_with fail
              go_ret2
              exact ⟨HU2.out, .inl ⟨_, _, hyes.out, by rw [List.length_append]; simp; omega, rfl, ho2.out⟩⟩
            · have hno : Hid (redT s.data.toList = none) := by
                show redT s.data.toList = none
                rw [he.out, allT_none HNE.out (by rw [hEd.out, htk]; exact hp)]; rfl
              have HU1 := hide (HU.out.trans hu1)
              clear hp hu1 HU he HO
              go_wp2
              go_ret2
              exact ⟨HU1.out.alloc _, .inr ⟨hno.out, rfl⟩⟩
          · have hq := rparse_calls T (by omega)
            have htk : T.data.toList.take T.size = T.data.toList := take_whole T
            unfold ParsePost at hq
            go_wp2_with fail
            go_at_call 11
            refine (hq _).mono ?_
            clear hq
            rintro _ w1 ⟨hu1, ⟨⟨k0, n0, s0, f0⟩, hp, rfl⟩ | ⟨hp, rfl⟩⟩
            · have HU1 := hide (HU.out.trans hu1)
              have ho1 := HO.out.up hu1
              have hbs := HU1.out.size
              have HP := hide hp
              clear hp hu1 HU HO
              go_wp2_with (at_builtin; refine append_value rfl _ _ rfl w.heap.size _ g rfl ((ho1.alloc _).alloc _) _ 1 1 [(k0, n0, s0, f0)] rfl rfl (value_new2 (k0, n0, s0, f0)) (by omega) (Nat.le_trans hbs (by simp; omega)) ?_)
              intro v2 w2 ho2 hg2
              have HU2 := hide (up_grownV ((HU1.out.alloc _).alloc _) hg2 ho1)
              replace ho2 := hide ho2
              clear hg2 ho1 HU1
              have hyes : Hid (redT s.data.toList = some (g ++ [(k0, n0, s0, f0)])) := by
                show redT s.data.toList = some (g ++ [(k0, n0, s0, f0)])
                have hdr : T.data.toList.drop T.size = [] := List.drop_eq_nil_of_le (by rw [hTl.out]; exact Nat.le_refl _)
                rw [he.out, allT_last HNE.out (by rw [hEd.out, htk]; exact HP.out) (by rw [hEd.out]; exact hdr)]; rfl
              clear he htk
              go_wp2_with fail
              go_ret2
              exact ⟨HU2.out, .inl ⟨_, _, hyes.out, by rw [List.length_append]; simp; omega, rfl, ho2.out⟩⟩
            · have hno : Hid (redT s.data.toList = none) := by
                show redT s.data.toList = none
                rw [he.out, allT_none HNE.out (by rw [hEd.out, htk]; exact hp)]; rfl
              have HU1 := hide (HU.out.trans hu1)
              clear hp hu1 HU he HO
              go_wp2
              go_ret2
              exact ⟨HU1.out.alloc _, .inr ⟨hno.out, rfl⟩⟩

set_option maxHeartbeats 4000000 in
theorem rread_bad1 (s : ByteArray) (h2 : ¬ s.size < 2) (hs : s.size ≤ 1000000) (w : World) (h40 : ¬ s[0] = 40) : Calls Tryz.prog 13 #[.string s] w fun e w' => ReadsPost w s.data.toList e w' := by
  have i2 : ¬ (s.size : Int) < 2 := by omega
  have n1 : ((s[0].toNat : Int) == 40) = false := byte_no (d := 40) h40
  have hno := hide (redT_no s.data.toList (fun h => h40 (Option.some.inj ((head_minus s (by omega)).symm.trans h.2.1))))
  clear h40
  go_enter Tryz.func13, Tryz.ntmps13
  go_wp2
  go_ret2
  exact ⟨Up.refl _, .inr ⟨hno.out, rfl⟩⟩

set_option maxHeartbeats 4000000 in
theorem rread_bad2 (s : ByteArray) (h2 : ¬ s.size < 2) (hs : s.size ≤ 1000000) (w : World) (h40 : s[0] = 40) (h41 : ¬ s[s.size - 1] = 41) : Calls Tryz.prog 13 #[.string s] w fun e w' => ReadsPost w s.data.toList e w' := by
  have i2 : ¬ (s.size : Int) < 2 := by omega
  have n1 : ((s[0].toNat : Int) == 40) = true := byte_yes (d := 40) h40
  have n2 : ((s[s.size - 1].toNat : Int) == 41) = false := byte_no (d := 41) h41
  have i3 : IntKind.i64.wrap ((s.size : Int) - 1) = (s.size : Int) - 1 := wrap_small (by omega) (by omega)
  have i4 : (0 : Int) ≤ (s.size : Int) - 1 := by omega
  have i5 : ((s.size : Int) - 1).toNat = s.size - 1 := by omega
  have hno := hide (redT_no s.data.toList (fun h => h41 (Option.some.inj ((last_byte s (by omega)).symm.trans h.2.2))))
  clear h41
  go_enter Tryz.func13, Tryz.ntmps13
  go_wp2
  go_ret2
  exact ⟨Up.refl _, .inr ⟨hno.out, rfl⟩⟩

theorem rreads_calls (s : ByteArray) (hs : s.size ≤ 1000000) (w : World) : Calls Tryz.prog 13 #[.string s] w fun e w' => ReadsPost w s.data.toList e w' := by
  by_cases h2 : s.size < 2
  · exact rread_short s h2 w
  · by_cases h40 : s[0] = 40
    · by_cases h41 : s[s.size - 1] = 41
      · exact rread_ends s h2 hs w h40 h41
      · exact rread_bad2 s h2 hs w h40 h41
    · exact rread_bad1 s h2 hs w h40

end Go.Proofs.YtjnnmghehoodhaaGreatDoor
