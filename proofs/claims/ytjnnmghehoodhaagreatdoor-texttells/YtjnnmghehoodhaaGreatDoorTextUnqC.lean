/-
  What strconv.UnquoteChar answers behind a quote at every string that is not empty and does not open with a quote.
-/
import Derived.Test.YtjnnmghehoodhaaGreatDoorTextUnqX
import Derived.Test.YtjnnmghehoodhaaGreatDoorTextUnqO
namespace Go.Proofs.YtjnnmghehoodhaaGreatDoor
open Go.ChangeShapes Go.WideShapes Go.ChangeAt Go.RowKit
attribute [local go_sem ↓] Go.wp_at_zero Go.wp_at_succ
set_option linter.unusedVariables false
set_option maxRecDepth 100000

set_option maxHeartbeats 4000000 in
theorem uc_high (t : ByteArray) (h : 0 < t.size) (hm : t.size ≤ 1000000) (h1 : 128 ≤ t[0].toNat) (w : World) (hT : Tabs w) :
    Calls Tryz.prog 84 #[.string t, .int .u8 34] w fun e w' => UcPost t w e w' := by
  obtain ⟨c, hc⟩ : ∃ c, t[0] = c := ⟨_, rfl⟩
  rw [hc] at h1
  have p0 : ((t.size : Int) == 0) = false := by rw [beq_eq_false_iff_ne]; omega
  have p1 : ((c.toNat : Int) == 34) = false := by rw [beq_eq_false_iff_ne]; omega
  have p3 : (128 : Int) ≤ (c.toNat : Int) := by omega
  have hdec : Go.Lib.decodeGo t = Utf8.decode t 0 := if_neg (by omega)
  have d1 := Go.Lib.decode_width_pos t 0 h
  have d2 := Go.Lib.width_le t h
  have d3 := decode_le t 0
  have hD := Tryz.utf8_DecodeRuneInString t w hT.utf
  rw [hdec] at hD
  generalize (Utf8.decode t 0).1 = r at hD d3
  generalize (Utf8.decode t 0).2 = m at hD d1 d2
  have q1 : (0 : Int) ≤ (m : Int) := by omega
  have q2 : (m : Int) ≤ (t.size : Int) := by omega
  have HS : Hid ((t.extract m t.size).size < t.size) := by
    show (t.extract m t.size).size < t.size
    rw [ext_size]; omega
  clear h1 hdec hT
  go_enter Tryz.func84, Tryz.ntmps84
  go_wp2_with fail
  go_at_call 83
  refine hD.mono ?_
  rintro _ w1 ⟨rfl, hb1⟩
  have HU : Hid (Up w w1) := hb1
  clear hb1 hD
  go_wp2_with fail
  go_region_held3 (fun w' => Hid (Up w w')) (first | exact hide HU.out.drew | exact hide (Up.drew (Hid.out (by assumption))) | assumption) (fail)
  all_goals (replace HU := hide (show Hid (Up w _) by assumption).out)
  all_goals go_wp2
  all_goals refine bodyPost_ret (results_tmp4 Tryz.results84 _ _ _) rfl ⟨HU.out, _, _, _, _, rfl, fun _ => ⟨by omega, by omega⟩, .inl ⟨rfl, ?_⟩⟩
  all_goals exact HS.out

set_option maxHeartbeats 4000000 in
theorem uc_short (t : ByteArray) (h : t.size = 1) (h0 : 0 < t.size) (h1 : t[0] = 92) (w : World) (hT : Tabs w) :
    Calls Tryz.prog 84 #[.string t, .int .u8 34] w fun e w' => UcPost t w e w' := by
  obtain ⟨ea, eb, hs⟩ := hT.syn
  have p0 : ((t.size : Int) == 0) = false := by rw [beq_eq_false_iff_ne]; omega
  have q1 : (t.size : Int) ≤ 1 := by omega
  clear h hT
  go_enter Tryz.func84, Tryz.ntmps84
  go_wp2
  refine bodyPost_ret (results_tmp4 Tryz.results84 _ _ _) rfl ⟨Up.refl _, _, _, _, _, rfl, fun h => (by cases h), .inr ⟨_, _, rfl⟩⟩

set_option maxHeartbeats 8000000 in
theorem uc_other (t : ByteArray) (h : 1 < t.size) (hm : t.size ≤ 1000000) (h1 : t[0] = 92) (h2 : t[1] ≠ 120) (h3 : t[1] ≠ 117) (h4 : t[1] ≠ 85) (h5 : t[1].toNat < 48 ∨ 55 < t[1].toNat) (w : World) (hT : Tabs w) :
    Calls Tryz.prog 84 #[.string t, .int .u8 34] w fun e w' => UcPost t w e w' := by
  obtain ⟨ea, eb, hs⟩ := hT.syn
  obtain ⟨c, hc⟩ : ∃ c, t[1] = c := ⟨_, rfl⟩
  rw [hc] at h2 h3 h4 h5
  have p0 : ((t.size : Int) == 0) = false := by rw [beq_eq_false_iff_ne]; omega
  have q1 : (1 : Int) < (t.size : Int) := by omega
  have q2 : (2 : Int) ≤ (t.size : Int) := by omega
  have hTz : Hid ((t.extract 2 t.size).size < t.size) := by
    show (t.extract 2 t.size).size < t.size
    rw [ext_size]; omega
  have a1 : ((c.toNat : Int) == 120) = false := u_ne (n := 120) (by omega) h2
  have a2 : ((c.toNat : Int) == 117) = false := u_ne (n := 117) (by omega) h3
  have a3 : ((c.toNat : Int) == 85) = false := u_ne (n := 85) (by omega) h4
  have b0 : ((c.toNat : Int) == 48) = false := by rw [beq_eq_false_iff_ne]; omega
  have b1 : ((c.toNat : Int) == 49) = false := by rw [beq_eq_false_iff_ne]; omega
  have b2 : ((c.toNat : Int) == 50) = false := by rw [beq_eq_false_iff_ne]; omega
  have b3 : ((c.toNat : Int) == 51) = false := by rw [beq_eq_false_iff_ne]; omega
  have b4 : ((c.toNat : Int) == 52) = false := by rw [beq_eq_false_iff_ne]; omega
  have b5 : ((c.toNat : Int) == 53) = false := by rw [beq_eq_false_iff_ne]; omega
  have b6 : ((c.toNat : Int) == 54) = false := by rw [beq_eq_false_iff_ne]; omega
  have b7 : ((c.toNat : Int) == 55) = false := by rw [beq_eq_false_iff_ne]; omega
  clear h2 h3 h4 h5 hT
  go_enter Tryz.func84, Tryz.ntmps84
  go_wp2
  all_goals refine bodyPost_ret (results_tmp4 Tryz.results84 _ _ _) rfl ⟨Up.refl _, _, _, _, _, rfl, fun h => (by cases h), ?_⟩
  all_goals first | exact .inr ⟨_, _, rfl⟩ | exact .inl ⟨rfl, hTz.out⟩

theorem uc_oct (t : ByteArray) (h : 1 < t.size) (hm : t.size ≤ 1000000) (h1 : t[0] = 92) (h2 : 48 ≤ t[1].toNat) (h3 : t[1].toNat ≤ 55) (w : World) (hT : Tabs w) :
    Calls Tryz.prog 84 #[.string t, .int .u8 34] w fun e w' => UcPost t w e w' := by
  have k : ∀ n : Nat, n < 256 → t[1].toNat = n → t[1] = UInt8.ofNat n := fun n _ e => by rw [← e, UInt8.ofNat_toNat]
  rcases (show t[1].toNat = 48 ∨ t[1].toNat = 49 ∨ t[1].toNat = 50 ∨ t[1].toNat = 51 ∨ t[1].toNat = 52 ∨ t[1].toNat = 53 ∨ t[1].toNat = 54 ∨ t[1].toNat = 55 by omega) with e | e | e | e | e | e | e | e
  · exact uc_oct48 t h hm h1 (k 48 (by omega) e) w hT
  · exact uc_oct49 t h hm h1 (k 49 (by omega) e) w hT
  · exact uc_oct50 t h hm h1 (k 50 (by omega) e) w hT
  · exact uc_oct51 t h hm h1 (k 51 (by omega) e) w hT
  · exact uc_oct52 t h hm h1 (k 52 (by omega) e) w hT
  · exact uc_oct53 t h hm h1 (k 53 (by omega) e) w hT
  · exact uc_oct54 t h hm h1 (k 54 (by omega) e) w hT
  · exact uc_oct55 t h hm h1 (k 55 (by omega) e) w hT

theorem uc_weak (t : ByteArray) (h : 0 < t.size) (hm : t.size ≤ 1000000) (h1 : t[0] ≠ 34) (w : World) (hT : Tabs w) :
    Calls Tryz.prog 84 #[.string t, .int .u8 34] w fun e w' => UcPost t w e w' := by
  by_cases hh : 128 ≤ t[0].toNat
  · exact uc_high t h hm hh w hT
  by_cases hb : t[0] = 92
  · by_cases hs : t.size = 1
    · exact uc_short t hs h hb w hT
    have h2 : 1 < t.size := by omega
    by_cases hx : t[1] = 120
    · exact uc_x t h2 hm hb hx w hT
    by_cases hu : t[1] = 117
    · exact uc_u4 t h2 hm hb hu w hT
    by_cases hU : t[1] = 85
    · exact uc_u8 t h2 hm hb hU w hT
    by_cases ho : 48 ≤ t[1].toNat ∧ t[1].toNat ≤ 55
    · exact uc_oct t h2 hm hb ho.1 ho.2 w hT
    · exact uc_other t h2 hm hb hx hu hU (by omega) w hT
  · refine (uc_plain t h hm (by omega) h1 hb w).mono fun e w' ⟨he, hu⟩ => ⟨hu, _, _, _, _, he, fun h => (by cases h), .inl ⟨rfl, ?_⟩⟩
    rw [ext_size]; omega

/-- A string's signs and its list. -/
theorem at_list {t : ByteArray} {l r : List UInt8} {c : UInt8} (h : t.data.toList = l ++ c :: r) (hj : l.length < t.size) : t[l.length] = c := by
  show t.data[l.length] = c
  rw [← Array.getElem_toList]
  simp [h]
theorem drop_list (t : ByteArray) (j : Nat) : (t.extract j t.size).data.toList = t.data.toList.drop j := by
  rw [ByteArray.data_extract, Array.toList_extract]
  simp only [List.extract]
  exact List.take_of_length_le (by simp)
theorem size_list (t : ByteArray) : t.size = t.data.toList.length := by simp
theorem quoC_inj {c d : UInt8} {r s : List UInt8} (h : quoC c ++ r = quoC d ++ s) : c = d ∧ r = s := by
  have hx : ∀ {a b : UInt8}, hexHi a = hexHi b → hexLo a = hexLo b → a = b := fun {a b} h1 h2 => by
    have e1 := unhex_hi a
    have e2 := unhex_lo a
    rw [h1, unhex_hi] at e1
    rw [h2, unhex_lo] at e2
    have e1 := Option.some.inj e1
    have e2 := Option.some.inj e2
    rw [← hi_lo a, ← hi_lo b, e1, e2]
  unfold quoC at h
  split at h
  · next hc =>
    split at h
    · next hd =>
      simp only [List.cons_append, List.nil_append, List.cons.injEq, true_and] at h
      exact h
    · next hd =>
      split at h
      · simp only [List.cons_append, List.nil_append, List.cons.injEq] at h
        exact absurd (.inr h.1.symm) hd
      · simp only [List.cons_append, List.nil_append, List.cons.injEq, true_and] at h
        exfalso
        rcases hc with rfl | rfl
        · exact absurd h.1 (by decide)
        · exact absurd h.1 (by decide)
  · next hc =>
    split at h
    · next hp =>
      split at h
      · next hd =>
        simp only [List.cons_append, List.nil_append, List.cons.injEq] at h
        exact absurd (.inr h.1) hc
      · split at h
        · simp only [List.cons_append, List.nil_append, List.cons.injEq] at h
          exact h
        · simp only [List.cons_append, List.nil_append, List.cons.injEq] at h
          exact absurd (.inr h.1) hc
    · next hp =>
      split at h
      · next hd =>
        simp only [List.cons_append, List.nil_append, List.cons.injEq, true_and] at h
        exfalso
        rcases hd with rfl | rfl
        · exact absurd h.1 (by decide)
        · exact absurd h.1 (by decide)
      · next hd =>
        split at h
        · simp only [List.cons_append, List.nil_append, List.cons.injEq] at h
          exact absurd (.inr h.1.symm) hd
        · simp only [List.cons_append, List.nil_append, List.cons.injEq, true_and] at h
          exact ⟨hx h.1 h.2.1, h.2.2⟩

/-- What UnquoteChar answers. -/
def UcAll (t : ByteArray) (w : World) (e : Ending) (w' : World) : Prop :=
  (∃ c r tail, t.data.toList = quoC c ++ r ∧ ByteArray.data tail = r.toArray ∧ e = .returned (.tuple #[.int .i32 (c.toNat : Int), .bool false, .string tail, .nilIface]) ∧ Up w w') ∨ ((∀ c r, t.data.toList ≠ quoC c ++ r) ∧ UcPost t w e w')
theorem data_of {t : ByteArray} {l : List UInt8} (h : t.data.toList = l) : t.data = l.toArray := by rw [← h]
theorem uc_all (t : ByteArray) (h : 0 < t.size) (hm : t.size ≤ 1000000) (h1 : t[0] ≠ 34) (w : World) (hT : Tabs w) :
    Calls Tryz.prog 84 #[.string t, .int .u8 34] w fun e w' => UcAll t w e w' := by
  by_cases hx : ∃ c r, t.data.toList = quoC c ++ r
  · obtain ⟨c, r, hq⟩ := hx
    have hq0 := hq
    have hsz := size_list t
    unfold quoC at hq
    split at hq
    · next hc =>
      rw [hq] at hsz
      simp only [List.cons_append, List.nil_append, List.length_cons] at hsz
      have e0 : t[0] = 92 := at_list (l := []) (r := c :: r) hq h
      have e1 : t[1] = c := at_list (l := [92]) (r := r) hq (by simp; omega)
      refine (uc_sign t (by omega) hm e0 (by rw [e1]; exact hc) w).mono fun e w' ⟨he, hu⟩ => .inl ⟨c, r, t.extract 2 t.size, hq0, data_of ?_, by rw [he, e1], hu⟩
      rw [drop_list, hq]; rfl
    · next hc =>
      split at hq
      · next hp =>
        have e0 : t[0] = c := at_list (l := []) (r := r) hq h
        refine (uc_plain t h hm (by rw [e0]; omega) h1 (by rw [e0]; exact fun e => hc (.inr e)) w).mono fun e w' ⟨he, hu⟩ => .inl ⟨c, r, t.extract 1 t.size, hq0, data_of ?_, by rw [he, e0], hu⟩
        rw [drop_list, hq]; rfl
      · next hp =>
        rw [hq] at hsz
        simp only [List.cons_append, List.nil_append, List.length_cons] at hsz
        have e0 : t[0] = 92 := at_list (l := []) hq h
        have e1 : t[1] = 120 := at_list (l := [92]) hq (by simp; omega)
        have e2 : t[2] = hexD (c.toNat / 16) := at_list (l := [92, 120]) hq (by simp; omega)
        have e3 : t[3] = hexD (c.toNat % 16) := at_list (l := [92, 120, hexHi c]) hq (by simp; omega)
        refine (uc_hex t (c.toNat / 16) (c.toNat % 16) (hi_lt c) (lo_lt c) (by omega) hm e0 e1 e2 e3 w).mono fun e w' ⟨he, hu⟩ => .inl ⟨c, r, t.extract 4 t.size, hq0, data_of ?_, ?_, hu⟩
        · rw [drop_list, hq]; rfl
        · rw [he, show 16 * (c.toNat / 16) + c.toNat % 16 = c.toNat by omega]
  · refine (uc_weak t h hm h1 w hT).mono fun e w' hp => .inr ⟨fun c r e => hx ⟨c, r, e⟩, hp⟩

end Go.Proofs.YtjnnmghehoodhaaGreatDoor
