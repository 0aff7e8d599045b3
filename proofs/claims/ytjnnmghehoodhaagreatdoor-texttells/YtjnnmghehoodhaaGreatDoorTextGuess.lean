/-
  What text.guess answers, as its text runs: the only value that could have the text, if there is any.
  What text.guess answers, as its text runs: the only value that could have the text, if there is any.
  What text.guess answers, as its text runs: the only value that could have the text, if there is any.
  What text.guess and text.Parse answer, as their text runs.
-/
import Derived.Test.YtjnnmghehoodhaaGreatDoorTextGuessB
import Derived.Test.YtjnnmghehoodhaaGreatDoorRefAll
import Derived.Test.YtjnnmghehoodhaaGreatDoorTextPrints
namespace Go.Proofs.YtjnnmghehoodhaaGreatDoor
open Go.ChangeShapes Go.WideShapes Go.ChangeAt Go.RowKit
attribute [local go_sem ↓] Go.wp_at_zero Go.wp_at_succ
attribute [local go_sem] run_store_float
set_option linter.unusedVariables false
set_option maxRecDepth 100000

def GPost (s : ByteArray) (w : World) (e : Ending) (w' : World) : Prop :=
  Up w w' ∧ ∃ (v : VT) (ok : Bool), e = .returned (.tuple #[.agg #[.int .i64 v.1, .int .i64 v.2.1, .string v.2.2.1, .float .f64 v.2.2.2], .bool ok]) ∧ Fits v ∧ (ok = true → prnV v = s.data.toList → isB v = true)
    ∧ (∀ u, isB u = true → Fits u → prnV u = s.data.toList → v = u ∧ ok = true)

theorem fits_small {k n : Int} {s : ByteArray} {f : Nat} (hk : 0 ≤ k ∧ k ≤ 5) (hn : IntKind.i64.min ≤ n ∧ n ≤ IntKind.i64.max) (hs : s.size ≤ 4000000) (hf : f < whole) : Fits (k, n, s, f) := by
  have m0 : IntKind.i64.min = -9223372036854775808 := by decide
  have m1 : IntKind.i64.max = 9223372036854775807 := by decide
  exact ⟨by rw [m0]; show _ ≤ k; omega, by rw [m1]; show k ≤ _; omega, hn.1, hn.2, by show s.size ≤ maxLen; unfold maxLen; omega, hf⟩
theorem zero_i64 : IntKind.i64.min ≤ 0 ∧ (0 : Int) ≤ IntKind.i64.max := by decide
/-- The first sign of a text. -/
theorem first_list {s : ByteArray} (h : 0 < s.size) {c : UInt8} (h0 : s[0] = c) : ∃ r, s.data.toList = c :: r := by
  cases hl : s.data.toList with
  | nil => have := size_list s; rw [hl] at this; simp only [List.length_nil] at this; omega
  | cons d r =>
    have : s[0] = d := at_list (l := []) (r := r) hl h
    exact ⟨r, by rw [← h0, this]⟩
theorem ba_of {s t : ByteArray} (h : s.data.toList = t.data.toList) : s = t := ByteArray.ext (Array.toList_inj.1 h)
theorem ne_text {s : ByteArray} {l : List UInt8} (h : s.data.toList ≠ l) : (s.toList == l) = false := by
  rw [Go.Lib.toList_data]
  exact beq_eq_false_iff_ne.2 h
theorem ne_empty {s : ByteArray} (h : 0 < s.size) : s.toList.isEmpty = false := by
  rw [Go.Lib.toList_data]
  cases hl : s.data.toList with
  | nil => have := size_list s; rw [hl] at this; simp only [List.length_nil] at this; omega
  | cons d r => rfl

/-- Values by their sorts. -/
theorem Up.set {a w : World} (h : Up a w) (i : Nat) (v : Value) : Up a (w.setCell ⟨a.heap.size, i, none⟩ v) := h.setCell (p := ⟨a.heap.size, i, none⟩) (Nat.le_refl _) v
theorem prn_class {v : VT} (h : isB v = true) : (∃ n, v = (1, n, ⟨#[]⟩, 0)) ∨ v = (2, 0, ⟨#[]⟩, 0) ∨ v = (2, 1, ⟨#[]⟩, 0) ∨ (∃ s : ByteArray, v = (3, 0, s, 0) ∧ s.size ≤ 60) ∨ (∃ s : ByteArray, v = (4, 0, s, 0) ∧ s.size ≤ 60) ∨ ∃ f, v = (5, 0, ⟨#[]⟩, f) := by
  obtain ⟨k, n, s, f⟩ := v
  rcases t_cases h with ⟨rfl, rfl, rfl⟩ | ⟨rfl, rfl | rfl, rfl, rfl⟩ | ⟨rfl | rfl, rfl, hs, rfl⟩ | ⟨rfl, rfl, rfl⟩
  · exact .inl ⟨_, rfl⟩
  · exact .inr (.inl rfl)
  · exact .inr (.inr (.inl rfl))
  · exact .inr (.inr (.inr (.inl ⟨_, rfl, hs⟩)))
  · exact .inr (.inr (.inr (.inr (.inl ⟨_, rfl, hs⟩))))
  · exact .inr (.inr (.inr (.inr (.inr ⟨_, rfl⟩))))
theorem is_of_first {v : VT} {c : UInt8} {r : List UInt8} (hc : c ≠ 63) (h : prnV v = c :: r) : isB v = true := by
  cases hb : isB v with
  | true => rfl
  | false =>
    rw [prnV, if_neg (by rw [hb]; simp)] at h
    exact absurd (List.cons.inj h).1.symm hc
theorem dec_first {n : Int} {c : UInt8} {r : List UInt8} (h : decI n = c :: r) : c = 45 ∨ (48 ≤ c.toNat ∧ c.toNat ≤ 57) := by
  obtain ⟨d, q, he, hd⟩ := decI_head n
  rw [he] at h
  obtain ⟨rfl, -⟩ := List.cons.inj h
  exact hd
theorem class_str {v : VT} (hb : isB v = true) {r : List UInt8} (h : prnV v = 34 :: r) : ∃ s : ByteArray, v = (3, 0, s, 0) ∧ quoS s.data.toList = 34 :: r := by
  rcases prn_class hb with ⟨n, rfl⟩ | rfl | rfl | ⟨s, rfl, hs⟩ | ⟨s, rfl, hs⟩ | ⟨f, rfl⟩
  · rw [prn_int] at h; exact absurd (dec_first h) (by decide)
  · rw [prn_false] at h; exact absurd (List.cons.inj h).1 (by decide)
  · rw [prn_true] at h; exact absurd (List.cons.inj h).1 (by decide)
  · exact ⟨s, rfl, by rw [prn_str hs] at h; exact h⟩
  · rw [prn_bytes hs] at h; exact absurd (List.cons.inj h).1 (by decide)
  · rw [prn_float] at h; exact absurd (List.cons.inj h).1 (by decide)
theorem class_bytes {v : VT} (hb : isB v = true) {r : List UInt8} (h : prnV v = 120 :: r) : ∃ s : ByteArray, v = (4, 0, s, 0) ∧ hexL s.data.toList = r := by
  rcases prn_class hb with ⟨n, rfl⟩ | rfl | rfl | ⟨s, rfl, hs⟩ | ⟨s, rfl, hs⟩ | ⟨f, rfl⟩
  · rw [prn_int] at h; exact absurd (dec_first h) (by decide)
  · rw [prn_false] at h; exact absurd (List.cons.inj h).1 (by decide)
  · rw [prn_true] at h; exact absurd (List.cons.inj h).1 (by decide)
  · rw [prn_str hs] at h; exact absurd (List.cons.inj h).1 (by decide)
  · exact ⟨s, rfl, by rw [prn_bytes hs] at h; exact (List.cons.inj h).2⟩
  · rw [prn_float] at h; exact absurd (List.cons.inj h).1 (by decide)
theorem class_float {v : VT} (hb : isB v = true) {r : List UInt8} (h : prnV v = 102 :: r) (hn : 102 :: r ≠ falseL) : ∃ f, v = (5, 0, ⟨#[]⟩, f) ∧ hexL (wordL f) = r := by
  rcases prn_class hb with ⟨n, rfl⟩ | rfl | rfl | ⟨s, rfl, hs⟩ | ⟨s, rfl, hs⟩ | ⟨f, rfl⟩
  · rw [prn_int] at h; exact absurd (dec_first h) (by decide)
  · rw [prn_false] at h; exact absurd h.symm hn
  · rw [prn_true] at h; exact absurd (List.cons.inj h).1 (by decide)
  · rw [prn_str hs] at h; exact absurd (List.cons.inj h).1 (by decide)
  · rw [prn_bytes hs] at h; exact absurd (List.cons.inj h).1 (by decide)
  · exact ⟨f, rfl, by rw [prn_float] at h; exact (List.cons.inj h).2⟩
theorem class_int {v : VT} (hb : isB v = true) {c : UInt8} {r : List UInt8} (h : prnV v = c :: r) (h1 : c ≠ 34) (h2 : c ≠ 120) (h3 : c ≠ 102) (hn : c :: r ≠ trueL) : ∃ n, v = (1, n, ⟨#[]⟩, 0) ∧ decI n = c :: r := by
  rcases prn_class hb with ⟨n, rfl⟩ | rfl | rfl | ⟨s, rfl, hs⟩ | ⟨s, rfl, hs⟩ | ⟨f, rfl⟩
  · exact ⟨n, rfl, by rw [prn_int] at h; exact h⟩
  · rw [prn_false] at h; exact absurd (List.cons.inj h).1.symm h3
  · rw [prn_true] at h; exact absurd h.symm hn
  · rw [prn_str hs] at h; exact absurd (List.cons.inj h).1.symm h1
  · rw [prn_bytes hs] at h; exact absurd (List.cons.inj h).1.symm h2
  · rw [prn_float] at h; exact absurd (List.cons.inj h).1.symm h3

end Go.Proofs.YtjnnmghehoodhaaGreatDoor

namespace Go.Proofs.YtjnnmghehoodhaaGreatDoor
open Go.ChangeShapes Go.WideShapes Go.ChangeAt Go.RowKit
attribute [local go_sem ↓] Go.wp_at_zero Go.wp_at_succ
attribute [local go_sem] run_store_float
set_option linter.unusedVariables false
set_option maxRecDepth 100000

set_option maxHeartbeats 8000000 in
theorem g_str (s : ByteArray) (h : 0 < s.size) (hm : s.size ≤ 1000000) (h0 : s[0] = 34) (w : World) (hT : Tabs w) :
    Calls Tryz.prog 21 #[.string s] w fun e w' => GPost s w e w' := by
  obtain ⟨r, hr⟩ := first_list h h0
  have hemp := ne_empty h
  have hf : (s.toList == [102, 97, 108, 115, 101]) = false := ne_text (by rw [hr]; simp)
  have ht : (s.toList == [116, 114, 117, 101]) = false := ne_text (by rw [hr]; simp)
  have hG := fun W => guessString_calls s h hm h0 W
  have HR := hide hr
  obtain ⟨W, hW⟩ : ∃ W, (w.alloc (.cells #[.int .i64 0, .int .i64 0, .string ⟨#[]⟩, .float .f64 0] 24)).setCell ⟨w.heap.size, 0, none⟩ (.int .i64 3) = W := ⟨_, rfl⟩
  have hu : Up w W := by subst hW; exact ((Up.refl w).alloc _).setCell (p := ⟨w.heap.size, 0, none⟩) (Nat.le_refl _) _
  have c0 : W.cell? ⟨w.heap.size, 0, none⟩ = some (.int .i64 3) := by subst hW; go_simp
  have c1 : W.cell? ⟨w.heap.size, 1, none⟩ = some (.int .i64 0) := by subst hW; go_simp
  have c2 : W.cell? ⟨w.heap.size, 2, none⟩ = some (.string ⟨#[]⟩) := by subst hW; go_simp
  have c3 : W.cell? ⟨w.heap.size, 3, none⟩ = some (.float .f64 0) := by subst hW; go_simp
  have f0 : W.frozen? ⟨w.heap.size, 0, none⟩ = false := by subst hW; go_simp
  have f1 : W.frozen? ⟨w.heap.size, 1, none⟩ = false := by subst hW; go_simp
  have f2 : W.frozen? ⟨w.heap.size, 2, none⟩ = false := by subst hW; go_simp
  have f3 : W.frozen? ⟨w.heap.size, 3, none⟩ = false := by subst hW; go_simp
  have HT := hide (hT.up hu)
  have HU := hide hu
  clear hT hu hr
  go_enter Tryz.func21, Tryz.ntmps21
  go_wp2_with fail
  go_at_call 36
  refine (hG _ HT.out).mono ?_
  rintro _ w1 ⟨hu1, out, b, rfl, hos, hex⟩
  have hlt0 := World.block_lt_of_cell? W ⟨w.heap.size, 0, none⟩ c0
  replace c0 := hu1.cell c0
  replace c1 := hu1.cell c1
  replace c2 := hu1.cell c2
  replace c3 := hu1.cell c3
  replace f0 := (hu1.frozen hlt0).trans f0
  replace f1 := (hu1.frozen (p := ⟨w.heap.size, 1, none⟩) hlt0).trans f1
  replace f2 := (hu1.frozen (p := ⟨w.heap.size, 2, none⟩) hlt0).trans f2
  replace f3 := (hu1.frozen (p := ⟨w.heap.size, 3, none⟩) hlt0).trans f3
  have hlt : w.heap.size < w1.heap.size := World.block_lt_of_cell? w1 ⟨w.heap.size, 0, none⟩ c0
  replace HU := hide (HU.out.trans hu1)
  have HX := hide hex
  clear hu1 hex hG HT hlt0 hW
  go_wp2
  refine bodyPost_ret (v := .tuple #[.agg #[.int .i64 3, .int .i64 0, .string out, .float .f64 0], .bool b]) (by simp (maxDischargeDepth := 6) [results, Tryz.results21, go_sem, c0, c1, c2, c3]) rfl ⟨(((((HU.out.set 2 _).set 0 _).set 1 _).set 2 _).set 3 _), (3, 0, out, 0), b, rfl, fits_small (by decide) zero_i64 hos (by decide), fun _ hp => is_of_first (c := 34) (by decide) (hp.trans HR.out), fun u hu hfu hp => ?_⟩
  obtain ⟨S, rfl, hq⟩ := class_str hu (hp.trans HR.out)
  obtain ⟨e1, e2⟩ := HX.out S.data.toList (HR.out.trans hq.symm)
  exact ⟨by rw [ba_of e1], e2⟩

set_option maxHeartbeats 8000000 in
theorem g_bytes (s : ByteArray) (h : 0 < s.size) (hm : s.size ≤ 1000000) (h0 : s[0] = 120) (w : World) (hT : Tabs w) :
    Calls Tryz.prog 21 #[.string s] w fun e w' => GPost s w e w' := by
  obtain ⟨r, hr⟩ := first_list h h0
  have hemp := ne_empty h
  have hf : (s.toList == [102, 97, 108, 115, 101]) = false := ne_text (by rw [hr]; simp)
  have ht : (s.toList == [116, 114, 117, 101]) = false := ne_text (by rw [hr]; simp)
  have q1 : (1 : Int) ≤ (s.size : Int) := by omega
  have hG := fun W => guessBytes_calls (s.extract 1 s.size) (by rw [ext_size]; omega) W
  have HR := hide hr
  obtain ⟨W, hW⟩ : ∃ W, (w.alloc (.cells #[.int .i64 0, .int .i64 0, .string ⟨#[]⟩, .float .f64 0] 24)).setCell ⟨w.heap.size, 0, none⟩ (.int .i64 4) = W := ⟨_, rfl⟩
  have hu : Up w W := by subst hW; exact ((Up.refl w).alloc _).setCell (p := ⟨w.heap.size, 0, none⟩) (Nat.le_refl _) _
  have c0 : W.cell? ⟨w.heap.size, 0, none⟩ = some (.int .i64 4) := by subst hW; go_simp
  have c1 : W.cell? ⟨w.heap.size, 1, none⟩ = some (.int .i64 0) := by subst hW; go_simp
  have c2 : W.cell? ⟨w.heap.size, 2, none⟩ = some (.string ⟨#[]⟩) := by subst hW; go_simp
  have c3 : W.cell? ⟨w.heap.size, 3, none⟩ = some (.float .f64 0) := by subst hW; go_simp
  have f0 : W.frozen? ⟨w.heap.size, 0, none⟩ = false := by subst hW; go_simp
  have f1 : W.frozen? ⟨w.heap.size, 1, none⟩ = false := by subst hW; go_simp
  have f2 : W.frozen? ⟨w.heap.size, 2, none⟩ = false := by subst hW; go_simp
  have f3 : W.frozen? ⟨w.heap.size, 3, none⟩ = false := by subst hW; go_simp
  have HT := hide (hT.up hu)
  have HU := hide hu
  clear hT hu hr
  go_enter Tryz.func21, Tryz.ntmps21
  go_wp2_with fail
  go_at_call 37
  refine (hG _ HT.out).mono ?_
  rintro _ w1 ⟨hu1, out, b, rfl, hos, hex⟩
  have hlt0 := World.block_lt_of_cell? W ⟨w.heap.size, 0, none⟩ c0
  replace c0 := hu1.cell c0
  replace c1 := hu1.cell c1
  replace c2 := hu1.cell c2
  replace c3 := hu1.cell c3
  replace f0 := (hu1.frozen hlt0).trans f0
  replace f1 := (hu1.frozen (p := ⟨w.heap.size, 1, none⟩) hlt0).trans f1
  replace f2 := (hu1.frozen (p := ⟨w.heap.size, 2, none⟩) hlt0).trans f2
  replace f3 := (hu1.frozen (p := ⟨w.heap.size, 3, none⟩) hlt0).trans f3
  have hlt : w.heap.size < w1.heap.size := World.block_lt_of_cell? w1 ⟨w.heap.size, 0, none⟩ c0
  replace HU := hide (HU.out.trans hu1)
  have HX := hide hex
  clear hu1 hex hG HT hlt0 hW
  go_wp2
  refine bodyPost_ret (v := .tuple #[.agg #[.int .i64 4, .int .i64 0, .string out, .float .f64 0], .bool b]) (by simp (maxDischargeDepth := 6) [results, Tryz.results21, go_sem, c0, c1, c2, c3]) rfl ⟨(((((HU.out.set 2 _).set 0 _).set 1 _).set 2 _).set 3 _), (4, 0, out, 0), b, rfl, fits_small (by decide) zero_i64 hos (by decide), fun _ hp => is_of_first (c := 120) (by decide) (hp.trans HR.out), fun u hu hfu hp => ?_⟩
  obtain ⟨S, rfl, hq⟩ := class_bytes hu (hp.trans HR.out)
  obtain ⟨e1, e2⟩ := HX.out S.data.toList (by rw [drop_list, HR.out, hq]; rfl)
  exact ⟨by rw [ba_of e1], e2⟩

end Go.Proofs.YtjnnmghehoodhaaGreatDoor

namespace Go.Proofs.YtjnnmghehoodhaaGreatDoor
open Go.ChangeShapes Go.WideShapes Go.ChangeAt Go.RowKit
attribute [local go_sem ↓] Go.wp_at_zero Go.wp_at_succ
attribute [local go_sem] run_store_float
set_option linter.unusedVariables false
set_option maxRecDepth 100000

def PiPost (s : ByteArray) (w : World) (e : Ending) (w' : World) : Prop :=
  Up w w' ∧ ((∃ v : Int, Go.Lib.parseIntB 64 s.data.toList = .ok v ∧ e = .returned (.tuple #[.int .i64 v, .nilIface])) ∨ ((∀ v, Go.Lib.parseIntB 64 s.data.toList ≠ .ok v) ∧ ∃ (m : Int) (te : TypeId) (pe : Value), (IntKind.i64.min ≤ m ∧ m ≤ IntKind.i64.max) ∧ e = .returned (.tuple #[.int .i64 m, .iface te pe])))
theorem tpi_calls (s : ByteArray) (hm : s.size ≤ 1000000) (w : World) (hT : Tabs w) : Calls Tryz.prog 40 #[.string s, .int .i64 10, .int .i64 64] w fun e w' => PiPost s w e w' := by
  obtain ⟨a, b, hs⟩ := hT.syn
  obtain ⟨a', b', hr⟩ := hT.ran
  cases he : Go.Lib.parseIntB 64 s.data.toList with
  | ok v =>
    refine (Tryz.strconv_ParseInt_10_at64_ok s (by omega) v he w).mono fun e w' ⟨h1, h2⟩ => ⟨?_, .inl ⟨v, he, h1⟩⟩
    rcases h2 with rfl | ⟨t, rfl⟩
    · exact Up.refl _
    · exact up_bytes w t
  | «syntax» =>
    refine (Tryz.strconv_ParseInt_10_at64_syntax s (by omega) he _ w hs (.inr ⟨_, _, rfl⟩)).mono fun e w' ⟨N, h1, _, _, h2⟩ => ⟨h2, .inr ⟨fun v hv => (by rw [he] at hv; cases hv), 0, _, _, zero_i64, h1⟩⟩
  | range =>
    refine (Tryz.strconv_ParseInt_10_at64_range s (by omega) he _ w hr (.inr ⟨_, _, rfl⟩)).mono fun e w' ⟨N, h1, _, _, h2⟩ => ⟨h2, .inr ⟨fun v hv => (by rw [he] at hv; cases hv), _, _, _, sat_range _, h1⟩⟩

set_option maxHeartbeats 8000000 in
theorem g_float (s : ByteArray) (h : 0 < s.size) (hm : s.size ≤ 1000000) (h0 : s[0] = 102) (hnf : s.data.toList ≠ falseL) (w : World) (hT : Tabs w) :
    Calls Tryz.prog 21 #[.string s] w fun e w' => GPost s w e w' := by
  obtain ⟨r, hr⟩ := first_list h h0
  have hemp := ne_empty h
  have hf : (s.toList == [102, 97, 108, 115, 101]) = false := ne_text hnf
  have ht : (s.toList == [116, 114, 117, 101]) = false := ne_text (by rw [hr]; simp)
  have q1 : (1 : Int) ≤ (s.size : Int) := by omega
  have hG := fun W => tpu64_calls (s.extract 1 s.size) (by rw [ext_size]; omega) W
  have hrf := run_from
  have HR := hide hr
  have HNF := hide hnf
  clear hr hnf
  obtain ⟨W, hW⟩ : ∃ W, (w.alloc (.cells #[.int .i64 0, .int .i64 0, .string ⟨#[]⟩, .float .f64 0] 24)) = W := ⟨_, rfl⟩
  have hu : Up w W := by subst hW; exact (Up.refl w).alloc _
  have c0 : W.cell? ⟨w.heap.size, 0, none⟩ = some (.int .i64 0) := by subst hW; go_simp
  have c1 : W.cell? ⟨w.heap.size, 1, none⟩ = some (.int .i64 0) := by subst hW; go_simp
  have c2 : W.cell? ⟨w.heap.size, 2, none⟩ = some (.string ⟨#[]⟩) := by subst hW; go_simp
  have c3 : W.cell? ⟨w.heap.size, 3, none⟩ = some (.float .f64 0) := by subst hW; go_simp
  have f0 : W.frozen? ⟨w.heap.size, 0, none⟩ = false := by subst hW; go_simp
  have f1 : W.frozen? ⟨w.heap.size, 1, none⟩ = false := by subst hW; go_simp
  have f2 : W.frozen? ⟨w.heap.size, 2, none⟩ = false := by subst hW; go_simp
  have f3 : W.frozen? ⟨w.heap.size, 3, none⟩ = false := by subst hW; go_simp
  have HT := hide (hT.up hu)
  have HU := hide hu
  clear hT hu
  go_enter Tryz.func21, Tryz.ntmps21
  go_wp2_with fail
  go_at_call 38
  refine (hG _ HT.out).mono ?_
  rintro _ w1 ⟨hu1, ⟨n, hn, rfl⟩ | ⟨hn, m, te, pe, hmM, rfl⟩⟩
  · have hlt0 := World.block_lt_of_cell? W ⟨w.heap.size, 0, none⟩ c0
    replace c0 := hu1.cell c0
    replace c1 := hu1.cell c1
    replace c2 := hu1.cell c2
    replace c3 := hu1.cell c3
    replace f0 := (hu1.frozen hlt0).trans f0
    replace f1 := (hu1.frozen (p := ⟨w.heap.size, 1, none⟩) hlt0).trans f1
    replace f2 := (hu1.frozen (p := ⟨w.heap.size, 2, none⟩) hlt0).trans f2
    replace f3 := (hu1.frozen (p := ⟨w.heap.size, 3, none⟩) hlt0).trans f3
    have hlt : w.heap.size < w1.heap.size := World.block_lt_of_cell? w1 ⟨w.heap.size, 0, none⟩ c0
    replace HU := hide (HU.out.trans hu1)
    have HN := hide hn
    clear hu1 hG HT hlt0 hW hn
    go_wp2_with fail
    go_region
    go_wp2
    refine bodyPost_ret (v := .tuple #[.agg #[.int .i64 5, .int .i64 0, .string ⟨#[]⟩, .float .f64 n], .bool true]) (by simp (maxDischargeDepth := 6) [results, Tryz.results21, go_sem, c0, c1, c2, c3]) rfl ⟨((((((HU.out.set 0 _).set 3 _).set 0 _).set 1 _).set 2 _).set 3 _).drew, (5, 0, ⟨#[]⟩, n), true, rfl, fits_small (by decide) zero_i64 (by decide) (by have := puR_le HN.out; simp only [whole]; omega), fun _ _ => t_float n, fun u hu hfu hp => ?_⟩
    obtain ⟨f, rfl, hq⟩ := class_float hu (hp.trans HR.out) (by rw [← HR.out]; exact HNF.out)
    have e := HN.out
    rw [drop_list, HR.out, List.drop_one, List.tail_cons, ← hq, puR_word hfu.2.2.2.2.2] at e
    exact ⟨congrArg (fun x => ((5 : Int), (0 : Int), (⟨#[]⟩ : ByteArray), x)) (Option.some.inj e).symm, rfl⟩
  · have hlt0 := World.block_lt_of_cell? W ⟨w.heap.size, 0, none⟩ c0
    replace c0 := hu1.cell c0
    replace c1 := hu1.cell c1
    replace c2 := hu1.cell c2
    replace c3 := hu1.cell c3
    replace f0 := (hu1.frozen hlt0).trans f0
    replace f1 := (hu1.frozen (p := ⟨w.heap.size, 1, none⟩) hlt0).trans f1
    replace f2 := (hu1.frozen (p := ⟨w.heap.size, 2, none⟩) hlt0).trans f2
    replace f3 := (hu1.frozen (p := ⟨w.heap.size, 3, none⟩) hlt0).trans f3
    have hlt : w.heap.size < w1.heap.size := World.block_lt_of_cell? w1 ⟨w.heap.size, 0, none⟩ c0
    replace HU := hide (HU.out.trans hu1)
    have HN := hide hn
    clear hu1 hG HT hlt0 hW hn
    go_wp2_with fail
    go_region
    go_wp2
    refine bodyPost_ret (v := .tuple #[.agg #[.int .i64 5, .int .i64 0, .string ⟨#[]⟩, .float .f64 m], .bool false]) (by simp (maxDischargeDepth := 6) [results, Tryz.results21, go_sem, c0, c1, c2, c3]) rfl ⟨((((((HU.out.set 0 _).set 3 _).set 0 _).set 1 _).set 2 _).set 3 _).drew, (5, 0, ⟨#[]⟩, m), false, rfl, fits_small (by decide) zero_i64 (by decide) (by simp only [whole]; omega), fun h => (by cases h), fun u hu hfu hp => ?_⟩
    obtain ⟨f, rfl, hq⟩ := class_float hu (hp.trans HR.out) (by rw [← HR.out]; exact HNF.out)
    have e := HN.out
    rw [drop_list, HR.out, List.drop_one, List.tail_cons, ← hq, puR_word hfu.2.2.2.2.2] at e
    cases e
set_option maxHeartbeats 8000000 in
theorem g_int (s : ByteArray) (h : 0 < s.size) (hm : s.size ≤ 1000000) (h1 : s[0] ≠ 34) (h2 : s[0] ≠ 120) (h3 : s[0] ≠ 102) (hnt : s.data.toList ≠ trueL) (w : World) (hT : Tabs w) :
    Calls Tryz.prog 21 #[.string s] w fun e w' => GPost s w e w' := by
  obtain ⟨c, hc⟩ : ∃ c, s[0] = c := ⟨_, rfl⟩
  rw [hc] at h1 h2 h3
  obtain ⟨r, hr⟩ := first_list h hc
  have hemp := ne_empty h
  have hf : (s.toList == [102, 97, 108, 115, 101]) = false := ne_text (by rw [hr]; intro e; exact h3 (List.cons.inj e).1)
  have ht : (s.toList == [116, 114, 117, 101]) = false := ne_text hnt
  have a1 : ((c.toNat : Int) == 34) = false := u_ne (n := 34) (by omega) h1
  have a2 : ((c.toNat : Int) == 120) = false := u_ne (n := 120) (by omega) h2
  have a3 : ((c.toNat : Int) == 102) = false := u_ne (n := 102) (by omega) h3
  have HK : Hid (∀ u, isB u = true → prnV u = s.data.toList → ∃ n, u = (1, n, ⟨#[]⟩, 0) ∧ decI n = s.data.toList) := fun u hu hp => by
    rw [hr] at hp ⊢
    exact class_int hu hp h1 h2 h3 (by rw [← hr]; exact hnt)
  clear hr hnt h1 h2 h3
  have hG := fun W => tpi_calls s hm W
  obtain ⟨W, hW⟩ : ∃ W, (w.alloc (.cells #[.int .i64 0, .int .i64 0, .string ⟨#[]⟩, .float .f64 0] 24)) = W := ⟨_, rfl⟩
  have hu : Up w W := by subst hW; exact (Up.refl w).alloc _
  have c0 : W.cell? ⟨w.heap.size, 0, none⟩ = some (.int .i64 0) := by subst hW; go_simp
  have c1 : W.cell? ⟨w.heap.size, 1, none⟩ = some (.int .i64 0) := by subst hW; go_simp
  have c2 : W.cell? ⟨w.heap.size, 2, none⟩ = some (.string ⟨#[]⟩) := by subst hW; go_simp
  have c3 : W.cell? ⟨w.heap.size, 3, none⟩ = some (.float .f64 0) := by subst hW; go_simp
  have f0 : W.frozen? ⟨w.heap.size, 0, none⟩ = false := by subst hW; go_simp
  have f1 : W.frozen? ⟨w.heap.size, 1, none⟩ = false := by subst hW; go_simp
  have f2 : W.frozen? ⟨w.heap.size, 2, none⟩ = false := by subst hW; go_simp
  have f3 : W.frozen? ⟨w.heap.size, 3, none⟩ = false := by subst hW; go_simp
  have HT := hide (hT.up hu)
  have HU := hide hu
  clear hT hu
  go_enter Tryz.func21, Tryz.ntmps21
  go_wp2_with fail
  go_at_call 40
  refine (hG _ HT.out).mono ?_
  rintro _ w1 ⟨hu1, ⟨n, hn, rfl⟩ | ⟨hn, m, te, pe, hmr, rfl⟩⟩
  · have hlt0 := World.block_lt_of_cell? W ⟨w.heap.size, 0, none⟩ c0
    replace c0 := hu1.cell c0
    replace c1 := hu1.cell c1
    replace c2 := hu1.cell c2
    replace c3 := hu1.cell c3
    replace f0 := (hu1.frozen hlt0).trans f0
    replace f1 := (hu1.frozen (p := ⟨w.heap.size, 1, none⟩) hlt0).trans f1
    replace f2 := (hu1.frozen (p := ⟨w.heap.size, 2, none⟩) hlt0).trans f2
    replace f3 := (hu1.frozen (p := ⟨w.heap.size, 3, none⟩) hlt0).trans f3
    have hlt : w.heap.size < w1.heap.size := World.block_lt_of_cell? w1 ⟨w.heap.size, 0, none⟩ c0
    replace HU := hide (HU.out.trans hu1)
    have HN := hide hn
    clear hu1 hG HT hlt0 hW hn
    go_wp2_with fail
    go_region
    go_wp2
    refine bodyPost_ret (v := .tuple #[.agg #[.int .i64 1, .int .i64 n, .string ⟨#[]⟩, .float .f64 0], .bool true]) (by simp (maxDischargeDepth := 6) [results, Tryz.results21, go_sem, c0, c1, c2, c3]) rfl ⟨((((((HU.out.set 0 _).set 1 _).set 0 _).set 1 _).set 2 _).set 3 _).drew, (1, n, ⟨#[]⟩, 0), true, rfl, fits_small (by decide) (pib_range HN.out) (by decide) (by decide), fun _ _ => t_int n, fun u hu hfu hp => ?_⟩
    obtain ⟨n', rfl, hq⟩ := HK.out u hu hp
    have e := HN.out
    rw [← hq, pib_dec n' ⟨hfu.2.2.1, hfu.2.2.2.1⟩] at e
    injection e with e
    exact ⟨congrArg (fun x => ((1 : Int), x, (⟨#[]⟩ : ByteArray), (0 : Nat))) e.symm, rfl⟩
  · have hlt0 := World.block_lt_of_cell? W ⟨w.heap.size, 0, none⟩ c0
    replace c0 := hu1.cell c0
    replace c1 := hu1.cell c1
    replace c2 := hu1.cell c2
    replace c3 := hu1.cell c3
    replace f0 := (hu1.frozen hlt0).trans f0
    replace f1 := (hu1.frozen (p := ⟨w.heap.size, 1, none⟩) hlt0).trans f1
    replace f2 := (hu1.frozen (p := ⟨w.heap.size, 2, none⟩) hlt0).trans f2
    replace f3 := (hu1.frozen (p := ⟨w.heap.size, 3, none⟩) hlt0).trans f3
    have hlt : w.heap.size < w1.heap.size := World.block_lt_of_cell? w1 ⟨w.heap.size, 0, none⟩ c0
    replace HU := hide (HU.out.trans hu1)
    have HN := hide hn
    clear hu1 hG HT hlt0 hW hn
    go_wp2_with fail
    go_region
    go_wp2
    refine bodyPost_ret (v := .tuple #[.agg #[.int .i64 1, .int .i64 m, .string ⟨#[]⟩, .float .f64 0], .bool false]) (by simp (maxDischargeDepth := 6) [results, Tryz.results21, go_sem, c0, c1, c2, c3]) rfl ⟨((((((HU.out.set 0 _).set 1 _).set 0 _).set 1 _).set 2 _).set 3 _).drew, (1, m, ⟨#[]⟩, 0), false, rfl, fits_small (by decide) hmr (by decide) (by decide), fun h => (by cases h), fun u hu hfu hp => ?_⟩
    obtain ⟨n', rfl, hq⟩ := HK.out u hu hp
    exact absurd (by rw [← hq]; exact pib_dec n' ⟨hfu.2.2.1, hfu.2.2.2.1⟩) (HN.out n')

end Go.Proofs.YtjnnmghehoodhaaGreatDoor

namespace Go.Proofs.YtjnnmghehoodhaaGreatDoor
open Go.ChangeShapes Go.WideShapes Go.ChangeAt Go.RowKit
attribute [local go_sem ↓] Go.wp_at_zero Go.wp_at_succ
attribute [local go_sem] run_store_float
set_option linter.unusedVariables false
set_option maxRecDepth 100000

set_option maxHeartbeats 4000000 in
theorem g_empty (w : World) : Calls Tryz.prog 21 #[.string ⟨#[]⟩] w fun e w' => GPost ⟨#[]⟩ w e w' := by
  go_enter Tryz.func21, Tryz.ntmps21
  go_wp2
  refine bodyPost_ret (v := .tuple #[.agg #[.int .i64 0, .int .i64 0, .string ⟨#[]⟩, .float .f64 0], .bool false]) (by simp (maxDischargeDepth := 6) [results, Tryz.results21, go_sem]) rfl ⟨?_, (0, 0, ⟨#[]⟩, 0), false, rfl, fits_small (by decide) zero_i64 (by decide) (by decide), fun h => (by cases h), fun u hu hfu hp => absurd hp (prn_ne u)⟩
  exact (Up.refl w).alloc _

set_option maxHeartbeats 4000000 in
theorem g_false (w : World) : Calls Tryz.prog 21 #[.string ⟨#[102, 97, 108, 115, 101]⟩] w fun e w' => GPost ⟨#[102, 97, 108, 115, 101]⟩ w e w' := by
  go_enter Tryz.func21, Tryz.ntmps21
  go_wp2
  refine bodyPost_ret (v := .tuple #[.agg #[.int .i64 2, .int .i64 0, .string ⟨#[]⟩, .float .f64 0], .bool true]) (by simp (maxDischargeDepth := 6) [results, Tryz.results21, go_sem]) rfl ⟨?_, (2, 0, ⟨#[]⟩, 0), true, rfl, fits_small (by decide) zero_i64 (by decide) (by decide), fun _ _ => t_bool (.inl rfl), fun u hu hfu hp => ⟨?_, rfl⟩⟩
  · exact (Up.refl w).alloc _
  · exact prn_inj (t_bool (.inl rfl)) hu (fits_small (by decide) zero_i64 (by decide) (by decide)) hfu (prn_false.trans hp.symm)

set_option maxHeartbeats 4000000 in
theorem g_true (w : World) : Calls Tryz.prog 21 #[.string ⟨#[116, 114, 117, 101]⟩] w fun e w' => GPost ⟨#[116, 114, 117, 101]⟩ w e w' := by
  go_enter Tryz.func21, Tryz.ntmps21
  go_wp2
  refine bodyPost_ret (v := .tuple #[.agg #[.int .i64 2, .int .i64 1, .string ⟨#[]⟩, .float .f64 0], .bool true]) (by simp (maxDischargeDepth := 6) [results, Tryz.results21, go_sem]) rfl ⟨?_, (2, 1, ⟨#[]⟩, 0), true, rfl, fits_small (by decide) (by decide) (by decide) (by decide), fun _ _ => t_bool (.inr rfl), fun u hu hfu hp => ⟨?_, rfl⟩⟩
  · exact (Up.refl w).alloc _
  · exact prn_inj (t_bool (.inr rfl)) hu (fits_small (by decide) (by decide) (by decide) (by decide)) hfu (prn_true.trans hp.symm)

theorem guess_calls (s : ByteArray) (hm : s.size ≤ 1000000) (w : World) (hT : Tabs w) : Calls Tryz.prog 21 #[.string s] w fun e w' => GPost s w e w' := by
  by_cases h0 : s.size = 0
  · obtain rfl := nil_of_size h0
    exact g_empty w
  have h : 0 < s.size := by omega
  by_cases hf : s.data.toList = falseL
  · obtain rfl : s = ⟨#[102, 97, 108, 115, 101]⟩ := ba_of hf
    exact g_false w
  by_cases ht : s.data.toList = trueL
  · obtain rfl : s = ⟨#[116, 114, 117, 101]⟩ := ba_of ht
    exact g_true w
  by_cases h1 : s[0] = 34
  · exact g_str s h hm h1 w hT
  by_cases h2 : s[0] = 120
  · exact g_bytes s h hm h2 w hT
  by_cases h3 : s[0] = 102
  · exact g_float s h hm h3 hf w hT
  · exact g_int s h hm h1 h2 h3 ht w hT

theorem par_of {s : ByteArray} {v : VT} (hF : Fits v) (hi : prnV v = s.data.toList → isB v = true) (hp : prnV v = s.data.toList) : parT s.data.toList = some v := (parT_iff _ _).2 ⟨hi hp, hF, hp⟩

set_option maxHeartbeats 4000000 in
theorem tparse_calls (s : ByteArray) (hs : s.size ≤ 1000000) (w : World) (hT : Tabs w) : Calls Tryz.prog 10 #[.string s] w fun e w' => ParsePost w s.data.toList e w' := by
  have hg := fun W => guess_calls s hs W
  obtain ⟨W, hW⟩ : ∃ W, w.alloc (.cells #[.int .i64 0, .int .i64 0, .string ⟨#[]⟩, .float .f64 0] 24) = W := ⟨_, rfl⟩
  have hres : Hid (Res w W) := by subst hW; exact Res.new w
  have hu : Hid (Up w W) := by subst hW; exact (Up.refl _).alloc _
  have HT := hide (hT.up hu.out)
  clear hT
  go_enter Tryz.func10, Tryz.ntmps10
  go_wp2_with fail
  go_at_call 21
  refine (hg W HT.out).mono ?_
  rintro _ w1 ⟨hu1, ⟨k, n, S, f⟩, ok, rfl, hF, hi, hc⟩
  simp only
  obtain ⟨W1, hW1⟩ : ∃ W1, w1.alloc (.cells #[.int .i64 k, .int .i64 n, .string S, .float .f64 f] 24) = W1 := ⟨_, rfl⟩
  have huW : Up w1 W1 := by subst hW1; exact (Up.refl w1).alloc _
  have e0 : W1.cell? ⟨w1.heap.size, 0, none⟩ = some (.int .i64 k) := by subst hW1; go_simp
  have e1 : W1.cell? ⟨w1.heap.size, 1, none⟩ = some (.int .i64 n) := by subst hW1; go_simp
  have e2 : W1.cell? ⟨w1.heap.size, 2, none⟩ = some (.string S) := by subst hW1; go_simp
  have e3 : W1.cell? ⟨w1.heap.size, 3, none⟩ = some (.float .f64 f) := by subst hW1; go_simp
  have hr1 := (hres.out.up hu1).up huW
  have HU := hide ((hu.out.trans hu1).trans huW)
  have hpr := fun W' => tprint_calls k n S f W' hF
  have HT1 := hide ((HT.out.up hu1).up huW)
  obtain ⟨P, hP⟩ : ∃ P : ByteArray, P = ⟨(prnV (k, n, S, f)).toArray⟩ := ⟨_, rfl⟩
  have hPl : P.data.toList = prnV (k, n, S, f) := by rw [hP]
  rw [← hP] at hpr
  clear hP hg hu hu1 hres HT hW huW
  cases ok with
  | false =>
    have HN : Hid (parT s.data.toList = none) := parT_none fun u hu hfu hp => by cases (hc u hu hfu hp).2
    have d0 : W1.cell? ⟨w.heap.size, 0, none⟩ = some (.int .i64 0) := t_cell hr1 rfl
    have d1 : W1.cell? ⟨w.heap.size, 1, none⟩ = some (.int .i64 0) := t_cell hr1 rfl
    have d2 : W1.cell? ⟨w.heap.size, 2, none⟩ = some (.string ⟨#[]⟩) := t_cell hr1 rfl
    have d3 : W1.cell? ⟨w.heap.size, 3, none⟩ = some (.float .f64 0) := t_cell hr1 rfl
    have f0' : W1.frozen? ⟨w.heap.size, 0, none⟩ = false := t_frozen hr1
    have f1' : W1.frozen? ⟨w.heap.size, 1, none⟩ = false := t_frozen hr1
    have f2' : W1.frozen? ⟨w.heap.size, 2, none⟩ = false := t_frozen hr1
    have f3' : W1.frozen? ⟨w.heap.size, 3, none⟩ = false := t_frozen hr1
    clear hr1 hpr hPl hc hi hF
    go_wp2
    refine bodyPost_ret (v := .tuple #[.agg #[.int .i64 0, .int .i64 0, .string ⟨#[]⟩, .float .f64 0], .int .i64 30]) (by simp (maxDischargeDepth := 6) [results, Tryz.results10, go_sem, d0, d1, d2, d3]) rfl ⟨?_, .inr ⟨HN.out, rfl⟩⟩
    exact (((HU.out.set 0 _).set 1 _).set 2 _).set 3 _
  | true =>
    go_wp2_with fail
    go_at_call 6
    refine (hpr _ HT1.out).mono ?_
    rintro _ w2 ⟨rfl, hu2⟩
    replace hr1 := hr1.up hu2
    replace e0 := hu2.cell e0
    replace e1 := hu2.cell e1
    replace e2 := hu2.cell e2
    replace e3 := hu2.cell e3
    replace HU := hide (HU.out.trans hu2)
    clear hW1
    have d0 : w2.cell? ⟨w.heap.size, 0, none⟩ = some (.int .i64 0) := t_cell hr1 rfl
    have d1 : w2.cell? ⟨w.heap.size, 1, none⟩ = some (.int .i64 0) := t_cell hr1 rfl
    have d2 : w2.cell? ⟨w.heap.size, 2, none⟩ = some (.string ⟨#[]⟩) := t_cell hr1 rfl
    have d3 : w2.cell? ⟨w.heap.size, 3, none⟩ = some (.float .f64 0) := t_cell hr1 rfl
    have f0' : w2.frozen? ⟨w.heap.size, 0, none⟩ = false := t_frozen hr1
    have f1' : w2.frozen? ⟨w.heap.size, 1, none⟩ = false := t_frozen hr1
    have f2' : w2.frozen? ⟨w.heap.size, 2, none⟩ = false := t_frozen hr1
    have f3' : w2.frozen? ⟨w.heap.size, 3, none⟩ = false := t_frozen hr1
    by_cases hps : prnV (k, n, S, f) = s.data.toList
    · have HN := hide (par_of hF (hi trivial) hps)
      obtain rfl : P = s := ba_of (hPl.trans hps)
      clear hr1 hpr hPl hc hi hF hps HT1 hu2
      go_wp2
      refine bodyPost_ret (v := .tuple #[.agg #[.int .i64 k, .int .i64 n, .string S, .float .f64 f], .int .i64 0]) (by simp (maxDischargeDepth := 6) [results, Tryz.results10, go_sem, d0, d1, d2, d3]) rfl ⟨?_, .inl ⟨_, HN.out, rfl⟩⟩
      exact (((HU.out.set 0 _).set 1 _).set 2 _).set 3 _
    · have HN : Hid (parT s.data.toList = none) := parT_none fun u hu hfu hp => by
        obtain ⟨rfl, _⟩ := hc u hu hfu hp
        exact hps hp
      have hne : (P.toList == s.toList) = false := by
        rw [Go.Lib.toList_data, Go.Lib.toList_data, hPl]
        exact beq_eq_false_iff_ne.2 hps
      clear hr1 hpr hPl hc hi hF hps HT1 hu2
      go_wp2
      refine bodyPost_ret (v := .tuple #[.agg #[.int .i64 0, .int .i64 0, .string ⟨#[]⟩, .float .f64 0], .int .i64 30]) (by simp (maxDischargeDepth := 6) [results, Tryz.results10, go_sem, d0, d1, d2, d3]) rfl ⟨?_, .inr ⟨HN.out, rfl⟩⟩
      exact (((HU.out.set 0 _).set 1 _).set 2 _).set 3 _

end Go.Proofs.YtjnnmghehoodhaaGreatDoor
