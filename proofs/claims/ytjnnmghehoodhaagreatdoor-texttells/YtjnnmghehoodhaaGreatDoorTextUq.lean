/-
  What strconv.Unquote and text.guessString answer at a string that opens with a quote.
-/
import Derived.Test.YtjnnmghehoodhaaGreatDoorTextUqA
import Derived.Test.YtjnnmghehoodhaaGreatDoorTextUqB
import Derived.Test.YtjnnmghehoodhaaGreatDoorTextUqC
import Derived.Test.YtjnnmghehoodhaaGreatDoorTextUqF
namespace Go.Proofs.YtjnnmghehoodhaaGreatDoor
open Go.ChangeShapes Go.WideShapes Go.ChangeAt Go.RowKit
attribute [local go_sem ↓] Go.wp_at_zero Go.wp_at_succ
set_option linter.unusedVariables false
set_option maxRecDepth 100000

theorem uq_calls (s : ByteArray) (h : 0 < s.size) (hm : s.size ≤ 1000000) (h0 : s[0] = 34) (w : World) (hT : Tabs w) :
    Calls Tryz.prog 64 #[.string s, .bool true] w fun e w' => UqPost s w e w' := by
  by_cases h1 : s.size = 1
  · exact uq_short s h1 w hT
  have h2 : 1 < s.size := by omega
  rcases idx_cases (s.extract 1 s.size).data.toList 34 with hk | ⟨k, hk, hlt⟩
  · exact uq_noend s h2 hm h0 hk w hT
  have hkn : k + 2 ≤ s.size := by
    rw [← size_list, ext_size] at hlt; omega
  by_cases hb : Go.Lib.indexByte (s.extract 0 (k + 2)).data.toList 92 = -1
  · by_cases hn : Go.Lib.indexByte (s.extract 0 (k + 2)).data.toList 10 = -1
    · cases hv : Go.Lib.validD (s.extract 1 (k + 1)).data.toList with
      | true => exact uq_fast s k h2 hm h0 hk hkn hb hn hv w hT
      | false => exact uq_slowC s k h2 hm h0 hk hkn hb hn hv w hT
    · exact uq_slowB s k h2 hm h0 hk hkn hb hn w hT
  · exact uq_slowA s k h2 hm h0 hk hkn hb w hT

def UnPost (s : ByteArray) (w : World) (e : Ending) (w' : World) : Prop :=
  Up w w' ∧ ∃ (out : ByteArray) (err : Value), e = .returned (.tuple #[.string out, err]) ∧ ErrV err ∧ out.size ≤ 4000000 ∧ (∀ l, s.data.toList = quoS l → out.data.toList = l ∧ err = .nilIface)

set_option maxHeartbeats 4000000 in
theorem unquote_calls (s : ByteArray) (h : 0 < s.size) (hm : s.size ≤ 1000000) (h0 : s[0] = 34) (w : World) (hT : Tabs w) :
    Calls Tryz.prog 53 #[.string s] w fun e w' => UnPost s w e w' := by
  have hq := uq_calls s h hm h0 w hT
  have HT := hide hT
  clear hT h h0 hm
  go_enter Tryz.func53, Tryz.ntmps53
  go_wp2_with fail
  go_at_call 64
  refine hq.mono ?_
  rintro _ w1 ⟨hu1, out, rem, err, rfl, herr, hos, hex⟩
  obtain ⟨ea, eb, hsy⟩ := (HT.out.up hu1).syn
  have HU := hide hu1
  have HX := hide hex
  have HE := hide herr
  clear hq hu1 hex herr HT
  by_cases hz : rem.size = 0
  · obtain rfl : rem = ⟨#[]⟩ := ByteArray.ext (Array.eq_empty_of_size_eq_zero hz)
    clear hz hsy
    go_wp2
    go_ret2
    exact ⟨HU.out, _, _, rfl, HE.out, hos, fun l hl => ⟨(HX.out l hl).1, (HX.out l hl).2.2⟩⟩
  · have HN : Hid (∀ l, s.data.toList ≠ quoS l) := fun l hl => hz (HX.out l hl).2.1
    have z1 : (0 : Int) < (rem.size : Int) := by omega
    clear HX hz
    go_wp2_with fail
    go_quiet (fail)
    have HU' := hide (HU.out.drewN nq)
    go_wp2
    go_ret2
    exact ⟨HU'.out, _, _, rfl, .inr ⟨_, _, rfl⟩, by decide, fun l hl => absurd hl (HN.out l)⟩

theorem sclone_calls (s : ByteArray) (hs : s.size ≤ 4000000) (w : World) : Calls Tryz.prog 54 #[.string s] w fun e w' => e = .returned (.string s) ∧ Up w w' := by
  have hC := fun W => Tryz.stringslite_Clone s W (by omega)
  go_enter Tryz.func54, Tryz.ntmps54
  go_wp2_with fail
  go_at_call 65
  refine (hC _).mono ?_
  rintro _ w1 ⟨rfl, hb⟩
  have HU : Hid (Up w w1) := hb
  clear hb hC
  go_wp2
  go_ret
  exact ⟨rfl, HU.out⟩

def GsPost (s : ByteArray) (w : World) (e : Ending) (w' : World) : Prop :=
  Up w w' ∧ ∃ (out : ByteArray) (b : Bool), e = .returned (.tuple #[.string out, .bool b]) ∧ out.size ≤ 4000000 ∧ (∀ l, s.data.toList = quoS l → out.data.toList = l ∧ b = true)

set_option maxHeartbeats 4000000 in
theorem guessString_calls (s : ByteArray) (h : 0 < s.size) (hm : s.size ≤ 1000000) (h0 : s[0] = 34) (w : World) (hT : Tabs w) :
    Calls Tryz.prog 36 #[.string s] w fun e w' => GsPost s w e w' := by
  have hq := unquote_calls s h hm h0 w hT
  clear hT h h0 hm
  go_enter Tryz.func36, Tryz.ntmps36
  go_wp2_with fail
  go_at_call 53
  refine hq.mono ?_
  rintro _ w1 ⟨hu1, out, err, rfl, rfl | ⟨te, pe, rfl⟩, hos, hex⟩
  · have HU := hide hu1
    have HX := hide hex
    clear hq hu1 hex
    go_wp2_with fail
    go_region_held3 (fun w' => Hid (Up w w')) (first | exact hide HU.out.drew | exact hide (Up.drew (Hid.out (by assumption))) | exact hide (Up.trans (Hid.out (by assumption)) hu2) | assumption)
      (first | (go_at_call 54; refine (sclone_calls _ hos _).mono ?_; rintro _ w2 ⟨rfl, hu2⟩))
    all_goals (have HV := hide (show Hid (Up w _) by assumption).out)
    all_goals go_wp2
    all_goals go_ret2
    all_goals exact ⟨HV.out, _, _, rfl, hos, fun l hl => ⟨(HX.out l hl).1, rfl⟩⟩
  · have HU := hide hu1
    have HN : Hid (∀ l, s.data.toList ≠ quoS l) := fun l hl => by cases (hex l hl).2
    clear hq hu1 hex
    go_wp2_with fail
    go_region_held3 (fun w' => Hid (Up w w')) (first | exact hide HU.out.drew | exact hide (Up.drew (Hid.out (by assumption))) | exact hide (Up.trans (Hid.out (by assumption)) hu2) | assumption)
      (first | (go_at_call 54; refine (sclone_calls _ hos _).mono ?_; rintro _ w2 ⟨rfl, hu2⟩))
    all_goals (have HV := hide (show Hid (Up w _) by assumption).out)
    all_goals go_wp2
    all_goals go_ret2
    all_goals exact ⟨HV.out, _, _, rfl, hos, fun l hl => absurd hl (HN.out l)⟩

end Go.Proofs.YtjnnmghehoodhaaGreatDoor
