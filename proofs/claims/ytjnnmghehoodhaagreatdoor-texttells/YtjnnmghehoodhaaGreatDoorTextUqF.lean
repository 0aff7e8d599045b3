/-
  What strconv.unquote answers where nothing is escaped, and where there is no end.
-/
import Derived.Test.YtjnnmghehoodhaaGreatDoorTextUqA
namespace Go.Proofs.YtjnnmghehoodhaaGreatDoor
open Go.ChangeShapes Go.WideShapes Go.ChangeAt Go.RowKit
attribute [local go_sem ↓] Go.wp_at_zero Go.wp_at_succ
set_option linter.unusedVariables false
set_option maxRecDepth 100000

theorem ext_list (t : ByteArray) (a b : Nat) : (t.extract a b).data.toList = (t.data.toList.take b).drop a := by
  rw [ByteArray.data_extract, Array.toList_extract]
  simp only [List.extract]
  rw [List.drop_take]
theorem fast_exact {s : ByteArray} {k : Nat} (hk : Go.Lib.indexByte (s.extract 1 s.size).data.toList 34 = (k : Int)) (hb : Go.Lib.indexByte (s.extract 0 (k + 2)).data.toList 92 = -1) (l : List UInt8) (hl : s.data.toList = quoS l) :
    ((s.extract 0 (k + 2)).extract 1 (k + 1)).data.toList = l ∧ (s.extract (k + 2) s.size).size = 0 := by
  have h1 := Go.Lib.indexByte_some hk
  have h2 := Go.Lib.indexByte_none hb
  rw [drop_list, hl] at h1
  rw [ext_list, hl, List.drop_zero] at h2
  obtain ⟨p1, p2⟩ := quo_plain l k (by simpa [quoS] using h1.1) (fun j hj => by simpa [quoS] using h1.2 j hj) (fun j hj => by
    have := h2 (j + 1)
    rw [List.getElem?_take_of_lt (by omega)] at this
    simpa [quoS] using this)
  subst p2
  constructor
  · rw [ext_list, ext_list, hl]
    unfold quoS
    rw [p1]
    simp [List.take_take]
  · rw [ext_size, size_list, hl]
    unfold quoS
    rw [p1]; simp

set_option maxHeartbeats 16000000 in
theorem uq_fast (s : ByteArray) (k : Nat) (h2 : 1 < s.size) (hm : s.size ≤ 1000000) (h0 : s[0] = 34) (hk : Go.Lib.indexByte (s.extract 1 s.size).data.toList 34 = (k : Int)) (hkn : k + 2 ≤ s.size) (hb : Go.Lib.indexByte (s.extract 0 (k + 2)).data.toList 92 = -1) (hn : Go.Lib.indexByte (s.extract 0 (k + 2)).data.toList 10 = -1) (hv : Go.Lib.validD (s.extract 1 (k + 1)).data.toList = true) (w : World) (hT : Tabs w) :
    Calls Tryz.prog 64 #[.string s, .bool true] w fun e w' => UqPost s w e w' := by
  have q1 : (1 : Int) < (s.size : Int) := by omega
  have q2 : (1 : Int) ≤ (s.size : Int) := by omega
  have q3 : (k : Int) + 2 ≤ (s.size : Int) := by omega
  have HX := hide (fast_exact hk hb)
  have hI := fun W => sindex_calls (s.extract 1 s.size) 34 W
  rw [hk] at hI
  have HT := hide hT
  clear hT hk
  go_enter Tryz.func64, Tryz.ntmps64
  go_wp2_with fail
  go_at_call 80
  refine (hI _).mono ?_
  rintro _ w0 ⟨rfl, hw0⟩
  obtain rfl : w = w0 := hw0.symm
  clear hI
  have hcB := fun W => scontains_calls (s.extract 0 (k + 2)) 92 92 rfl W
  rw [show (Go.Lib.indexByte (s.extract 0 (k + 2)).data.toList 92 != -1) = false from by rw [hb]; rfl] at hcB
  go_wp2_with fail
  go_at_call 81
  refine (hcB _).mono ?_
  rintro _ w0 ⟨rfl, hw0⟩
  obtain rfl : w = w0 := hw0.symm
  clear hcB
  have hcN := fun W => scontains_calls (s.extract 0 (k + 2)) 10 10 rfl W
  rw [show (Go.Lib.indexByte (s.extract 0 (k + 2)).data.toList 10 != -1) = false from by rw [hn]; rfl] at hcN
  go_wp2_with fail
  go_at_call 81
  refine (hcN _).mono ?_
  rintro _ w0 ⟨rfl, hw0⟩
  obtain rfl : w = w0 := hw0.symm
  clear hcN
  have e21 : (k : Int) + 2 - 1 = (k : Int) + 1 := by omega
  have q7 : (1 : Int) ≤ (k : Int) + 1 := by omega
  have q8 : (k : Int) + 1 ≤ (s.size : Int) := by omega
  have hV := fun W (h : Tabs W) => Tryz.utf8_ValidString (s.extract 1 (k + 1)) W (by simp [ByteArray.size_extract]; omega) h.utf
  rw [hv] at hV
  go_wp2_with fail
  go_at_call 82
  refine (hV _ HT.out).mono ?_
  rintro _ w1 ⟨rfl, hb1⟩
  have HU1 : Hid (Up w w1) := hb1
  clear hb1 hV hv
  have hz1 : (s.extract 0 (k + 2)).size = k + 2 := by rw [ByteArray.size_extract]; omega
  have q5 : (k : Int) + 1 ≤ ((s.extract 0 (k + 2)).size : Int) := by rw [hz1]; omega
  have hos : ((s.extract 0 (k + 2)).extract 1 (k + 1)).size ≤ 4000000 := by rw [ByteArray.size_extract, hz1]; omega
  obtain ⟨S1, hS1⟩ : ∃ S1, s.extract 0 (k + 2) = S1 := ⟨_, rfl⟩
  rw [hS1] at q5 hos
  have HX' : Hid (∀ l, s.data.toList = quoS l → (S1.extract 1 (k + 1)).data.toList = l ∧ (s.extract (k + 2) s.size).size = 0) := by rw [← hS1]; exact HX.out
  have q6 : (1 : Int) ≤ (k : Int) + 1 := by omega
  clear hz1 HX hb hn
  go_wp2_with fail
  go_quiet (fail)
  have HU' := hide (HU1.out.drewN nq)
  go_wp2
  go_ret3
  exact ⟨HU'.out, _, _, _, rfl, .inl rfl, hos, fun l hl => ⟨(HX'.out l hl).1, (HX'.out l hl).2, rfl⟩⟩

set_option maxHeartbeats 16000000 in
theorem uq_noend (s : ByteArray) (h2 : 1 < s.size) (hm : s.size ≤ 1000000) (h0 : s[0] = 34) (hk : Go.Lib.indexByte (s.extract 1 s.size).data.toList 34 = -1) (w : World) (hT : Tabs w) :
    Calls Tryz.prog 64 #[.string s, .bool true] w fun e w' => UqPost s w e w' := by
  have q1 : (1 : Int) < (s.size : Int) := by omega
  have q2 : (1 : Int) ≤ (s.size : Int) := by omega
  have HE : Hid (∀ l, s.data.toList ≠ quoS l) := fun l hl => by
    refine idx_in (l := (s.extract 1 s.size).data.toList) (c := 34) ?_ hk
    rw [drop_list, hl]; simp [quoS]
  have hI := fun W => sindex_calls (s.extract 1 s.size) 34 W
  rw [hk] at hI
  obtain ⟨ea, eb, hsy⟩ := hT.syn
  clear hT hk
  go_enter Tryz.func64, Tryz.ntmps64
  go_wp2_with fail
  go_at_call 80
  refine (hI _).mono ?_
  rintro _ w0 ⟨rfl, hw0⟩
  obtain rfl : w = w0 := hw0.symm
  clear hI
  go_wp2_with fail
  go_quiet (fail)
  have HU' := hide ((Up.refl w).drewN nq)
  go_wp2
  go_ret3
  exact ⟨HU'.out, _, _, _, rfl, .inr ⟨_, _, rfl⟩, by decide, fun l hl => absurd hl (HE.out l)⟩

set_option maxHeartbeats 16000000 in
theorem uq_short (s : ByteArray) (h2 : s.size = 1) (w : World) (hT : Tabs w) :
    Calls Tryz.prog 64 #[.string s, .bool true] w fun e w' => UqPost s w e w' := by
  have q1 : (s.size : Int) < 2 := by omega
  have HE : Hid (∀ l, s.data.toList ≠ quoS l) := fun l hl => by
    have := size_list s
    rw [hl, quoS] at this
    simp at this
    omega
  obtain ⟨ea, eb, hsy⟩ := hT.syn
  clear hT h2
  go_enter Tryz.func64, Tryz.ntmps64
  go_wp2_with fail
  go_quiet (fail)
  have HU' := hide ((Up.refl w).drewN nq)
  go_wp2
  go_ret3
  exact ⟨HU'.out, _, _, _, rfl, .inr ⟨_, _, rfl⟩, by decide, fun l hl => absurd hl (HE.out l)⟩

end Go.Proofs.YtjnnmghehoodhaaGreatDoor
