/-
  HookCalls, walked.
-/
import Derived.Test.YtmlfkjmondkfnaaDoorHookCal
import Derived.Test.YtmlfkjmondkfnaaDoorHookHksAll
import Derived.Test.YtmlfkjmondkfnaaDoorHookObAll
namespace Go.Proofs.YtmlfkjmondkfnaaDoor
open Go.ChangeShapes Go.WideShapes Go.ChangeAt Go.RowKit
set_option linter.unusedVariables false
attribute [local go_sem ↓] Go.wp_at_zero Go.wp_at_succ
attribute [local go_sem] run_store_float

theorem and_3 (a : Int) : bits .and .i64 a 3 = 0 ∨ bits .and .i64 a 3 = 1 ∨ bits .and .i64 a 3 = 2 ∨ bits .and .i64 a 3 = 3 := by
  have h : (BitVec.ofInt 64 a &&& BitVec.ofInt 64 3).toNat < 4 := by
    rw [BitVec.toNat_and]
    have h7 : (BitVec.ofInt 64 3).toNat = 3 := by decide
    rw [h7]
    exact Nat.lt_of_le_of_lt Nat.and_le_right (by decide)
  have e : bits .and .i64 a 3 = ((BitVec.ofInt 64 a &&& BitVec.ofInt 64 3).toNat : Int) := by
    show IntKind.i64.wrap ((BitVec.ofInt 64 a &&& BitVec.ofInt 64 3).toNat : Int) = _
    generalize (BitVec.ofInt 64 a &&& BitVec.ofInt 64 3).toNat = k at h
    have := IntKind.wrap_i64 (k : Int)
    rw [this]
    omega
  rw [e]
  generalize (BitVec.ofInt 64 a &&& BitVec.ofInt 64 3).toNat = k at h
  omega
theorem Slc.chg {α : Type} {C : Nat → Prop} {k : Nat} {cs : α → List Value} {z : α} {ok : α → Prop} {w w' : World} {a : Option Addr} {n : Nat} {l : List α} (h : Slc k cs z ok w a n l) (hc : Chg C w w') (hn : ∀ b, RowB a b → ¬ C b) : Slc k cs z ok w' a n l := by
  refine ⟨h.1, h.2.1, ?_⟩
  rcases h.2.2 with h0 | ⟨b, off, rfl, hx⟩
  · exact .inl h0
  · exact .inr ⟨b, off, rfl, fun i hi j v hv => hc.cell (hx i hi j v hv) (hn b ⟨off, rfl⟩)⟩

/-- What stays as it was through all of HookCalls. -/
structure HFix (w0 : World) (mb hb : Nat) (a0 a1 wa ea ca : Option Addr) (l0 l1 : List VT) : Prop where
  mbig : w0.heap.size ≤ mb
  hbox : ¬ hb = mb
  r0 : ∀ b, l0.length ≠ 0 → RowB a0 b → ¬ b = mb
  r1 : ∀ b, l1.length ≠ 0 → RowB a1 b → ¬ b = mb
  rw : ∀ b, RowB wa b → ¬ b = mb
  re : ∀ b, RowB ea b → ¬ b = mb
  rc : ∀ b, RowB ca b → ¬ b = mb
structure HFr (w0 : World) (mb hb : Nat) (a0 a1 wa ea ca : Option Addr) (ec cc : Nat) (l0 l1 : List VT) (el cl : List Value) (w : World) : Prop where
  v0 : Vals w a0 l0.length l0
  v1 : Vals w a1 l1.length l1
  was : Vals w wa l0.length l0
  hx : w.cell? ⟨hb, 0, none⟩ = some (.slice ea 5 ec)
  hc : w.cell? ⟨hb, 1, none⟩ = some (.slice ca 3 cc)
  fe : FnsH w ea 5 el
  fc : FnsH w ca 3 cl
  xe : AllX 69 w mb (mb + 1) el
  xc : AllX 71 w mb (mb + 1) cl
  tab : TabE w
  up : Up w0 w
theorem HFr.chg {w0 w w' : World} {mb hb : Nat} {a0 a1 wa ea ca : Option Addr} {ec cc : Nat} {l0 l1 : List VT} {el cl : List Value} (f : HFix w0 mb hb a0 a1 wa ea ca l0 l1) (h : HFr w0 mb hb a0 a1 wa ea ca ec cc l0 l1 el cl w) (hT : TabE w0) (hc : Chg (fun g => g = mb) w w') : HFr w0 mb hb a0 a1 wa ea ca ec cc l0 l1 el cl w' where
  v0 := h.v0.chgN hc (fun b _ hn hr => f.r0 b hn hr)
  v1 := h.v1.chgN hc (fun b _ hn hr => f.r1 b hn hr)
  was := h.was.chg hc (fun b hr => f.rw b hr)
  hx := hc.cell h.hx f.hbox
  hc := hc.cell h.hc f.hbox
  fe := h.fe.chg hc (fun b hr => f.re b hr)
  fc := h.fc.chg hc (fun b hr => f.rc b hr)
  xe := h.xe.keep (fun b u hb _ hu => hc.cell hu (by show ¬ b = mb; omega))
  xc := h.xc.keep (fun b u hb _ hu => hc.cell hu (by show ¬ b = mb; omega))
  tab := hc.cell h.tab (by have := hT.lt; have := f.mbig; show ¬ 0 = mb; omega)
  up := Below.trans h.up.below (Chg.below (B := w0.heap.size) hc (fun x hx e => by have := f.mbig; omega) h.up.size)
theorem HFr.ups {w0 w w' : World} {mb hb : Nat} {a0 a1 wa ea ca : Option Addr} {ec cc : Nat} {l0 l1 : List VT} {el cl : List Value} (f : HFix w0 mb hb a0 a1 wa ea ca l0 l1) (h : HFr w0 mb hb a0 a1 wa ea ca ec cc l0 l1 el cl w) (hT : TabE w0) (hu : Up w w') : HFr w0 mb hb a0 a1 wa ea ca ec cc l0 l1 el cl w' := h.chg f hT (Chg.of_up hu)

/-- Where HookCalls stands behind its own call of an extractor. -/
structure DP (mb : Nat) (w1 : World) (vb : Nat) (u : VT) (X : World) (v : Nat) : Prop where
  chg : Chg (fun g => g = mb) w1 X
  met : Met X mb 1 0 (bits .and .i64 0 1023) 0
  box : Box X v u
theorem DP.ofSet {mb vb v : Nat} {w1 y2 : World} {u0 : VT} (k z : Int) (t : ByteArray) (f : Nat) (hc : Chg (fun g => g = mb) w1 y2) (hm : Met y2 mb 1 0 (bits .and .i64 0 1023) 0) (hb : Box y2 v u0) (hv : w1.heap.size ≤ v) (hmb : mb < w1.heap.size) :
    DP mb w1 vb (k, z, t, f) ((((y2.setCell ⟨v, 0, none⟩ (.int .i64 k)).setCell ⟨v, 1, none⟩ (.int .i64 z)).setCell ⟨v, 2, none⟩ (.string t)).setCell ⟨v, 3, none⟩ (.float .f64 f)) v := by
  have h4 := chg_set4 y2 v (.int .i64 k) (.int .i64 z) (.string t) (.float .f64 f)
  exact ⟨hc.trans h4 (fun g hg e => by omega), hm.chg h4 (by omega), hb.set k z t f⟩
theorem DP.ofNew {mb vb : Nat} {w1 y2 : World} (u : VT) (tt : TypeId) (hc : Chg (fun g => g = mb) w1 y2) (hm : Met y2 mb 1 0 (bits .and .i64 0 1023) 0) (hv : w1.heap.size ≤ y2.heap.size) (hmb : mb < w1.heap.size) :
    DP mb w1 vb u (y2.alloc (.cells #[.int .i64 u.1, .int .i64 u.2.1, .string u.2.2.1, .float .f64 u.2.2.2] tt)) y2.heap.size :=
  ⟨hc.alloc _, hm.up ((Up.refl _).alloc _), Box.new y2 u tt⟩
theorem by_tail {A : Nat → Option Addr → Nat → Act} {P : World → Nat → Prop} {R : Act → World → Prop} {G : Prop} (main : Hid (∀ X v a c, P X v → R (A v a c) X) → G) (tail : ∀ X v a c, P X v → R (A v a c) X) : G := main tail
theorem Lent.low {B B' : Nat} {w : World} {a : Option Addr} {n : Nat} {m : List VT} (h : Lent B w a n m) (hB : B' ≤ B) : Lent B' w a n m := ⟨h.1, fun b hb => ⟨Nat.le_trans hB (h.2.1 b hb).1, (h.2.1 b hb).2⟩, h.2.2⟩
theorem fits_seven : Fits (1, 7, ⟨#[]⟩, 0) := by
  refine ⟨by decide, by decide, by decide, by decide, ?_, by decide⟩
  unfold maxLen
  show (0 : Nat) ≤ _
  omega
theorem ToldOk.met {w : World} {mb : Nat} {s : ByteArray} {ev : Value} (h : ToldOk w mb s ev) : ∃ c a h s', Met w mb c a h s' := by
  rcases h with ⟨_, c, a, h, h2⟩ | ⟨b, s', c, a, h, _, h2, _⟩ | ⟨b, k, h, _, h2, _⟩
  · exact ⟨c, a, h, 0, h2⟩
  · exact ⟨c, a, h, 0, h2⟩
  · exact ⟨1, 1, h, 1, h2⟩
theorem copyL_calls (a : Option Addr) (n c : Nat) (l : List VT) (w : World) (hn : n ≤ 1000) (hv : Vals w a n l) :
    Calls Tryd.prog 18 #[.slice a n c] w fun e w' => ∃ ca cc, e = .returned (.slice ca n cc) ∧ Lent w.heap.size w' ca n l ∧ Up w w' := by
  refine (copy_calls a n c l w hn hv hv.none0).mono ?_
  rintro _ w' ⟨v, rfl, ho, hu⟩
  have hlt := ho.lt
  by_cases h0 : n = 0
  · obtain ⟨ca, cc, rfl, _, _, _, h1, _⟩ := owns_vals ho hv.2.1
    exact ⟨ca, cc, rfl, ⟨h1, fun g hg => by obtain ⟨o, rfl⟩ := hg; exact hlt g rfl, .inl h0⟩, hu⟩
  · obtain ⟨g, cap, rfl, h2, h3, _, h4⟩ := owns_free ho h0
    obtain ⟨ca, cc, he, _, _, _, h1, _⟩ := owns_vals ho hv.2.1
    cases he
    exact ⟨_, cap, rfl, ⟨h1, fun b hb => by obtain ⟨o, ho'⟩ := hb; cases ho'; exact ⟨h2, h3⟩, .inr ⟨g, rfl, h3, h4⟩⟩, hu⟩

theorem setter_calls (mb : Nat) (q k z : Int) (t : ByteArray) (f : Nat) (w : World) : Calls Tryd.prog 26 #[.int .i64 q, .agg #[.int .i64 k, .int .i64 z, .string t, .float .f64 f], .pointer (some ⟨mb, 0, none⟩)] w fun e w' => ∃ mx qx vx, e = .returned (.func (.func 59) #[] #[.pointer (some ⟨mx, 0, none⟩), .pointer (some ⟨qx, 0, none⟩), .pointer (some ⟨vx, 0, none⟩)]) ∧ w'.cell? ⟨mx, 0, none⟩ = some (.pointer (some ⟨mb, 0, none⟩)) ∧ w'.cell? ⟨qx, 0, none⟩ = some (.int .i64 q) ∧ At w' vx 0 (k, z, t, f) ∧ w.heap.size ≤ qx ∧ w.heap.size ≤ vx ∧ Up w w' := by
  have hmf : ∀ (fn : Fn) (first cap : Array Value) (w : World), (Instr.makeFunc fn first cap).run Tryd.prog w = .ok (.func fn first cap) w := fun _ _ _ _ => rfl
  go_enter Tryd.func26, Tryd.ntmps26
  go_wp2
  go_ret
  exact ⟨w.heap.size + 1 + 1, w.heap.size, w.heap.size + 1, rfl, by go_simp, by go_simp, ⟨by go_simp, by go_simp, by go_simp, by go_simp⟩, Nat.le_refl _, by omega, (((Up.refl _).alloc _).alloc _).alloc _⟩

theorem met_ints {w w' : World} {t : TypeId} (hu : Up (w.alloc (.cells #[.int .i64 0, .int .i64 0, .int .i64 0, .int .i64 0] t)) w') {o : Nat} {v : Value} (h : w'.cell? ⟨w.heap.size, o, none⟩ = some v) : ∃ z, v = .int .i64 z := by
  have hb : w'.heap[w.heap.size]? = (w.alloc (.cells #[.int .i64 0, .int .i64 0, .int .i64 0, .int .i64 0] t)).heap[w.heap.size]? := hu.below.block _ (by simp)
  have h2 : (w.alloc (.cells #[.int .i64 0, .int .i64 0, .int .i64 0, .int .i64 0] t)).cell? ⟨w.heap.size, o, none⟩ = some v := (World.cell?_of_block (w := w') (a := ⟨w.heap.size, o, none⟩) hb.symm).trans h
  match o with
  | 0 => simp at h2; exact ⟨0, h2.symm⟩
  | 1 => simp at h2; exact ⟨0, h2.symm⟩
  | 2 => simp at h2; exact ⟨0, h2.symm⟩
  | 3 => simp at h2; exact ⟨0, h2.symm⟩
  | o + 4 => simp at h2
theorem fns_off {F : FuncId} {w : World} {a : Option Addr} {n mb B : Nat} {l : List Value} (hf : FnsH w a n l) (hn : 0 < n) (hx : AllX F w mb B l) (hi : ∀ o v, w.cell? ⟨mb, o, none⟩ = some v → ∃ z, v = .int .i64 z) (b : Nat) (hb : RowB a b) : ¬ b = mb := by
  intro e
  subst e
  obtain ⟨o, rfl⟩ := hb
  obtain ⟨b', off, he, hc⟩ := Slc.fnH hf (i := 0) hn
  cases he
  obtain ⟨mx, nx, hv, _⟩ := hx 0 (by rw [hf.1]; exact hn)
  rw [hv] at hc
  obtain ⟨z, hz⟩ := hi _ _ hc
  cases hz

set_option maxRecDepth 20000 in
set_option maxHeartbeats 64000000 in
theorem hookCalls_all (a0 : Int) (a1 : Option Addr) (len1 cap1 : Nat) (l1 : List VT) (a2 : Option Addr) (len2 cap2 : Nat) (l2 : List VT) (a3 a4 : Int) (w : World) (w1 : len1 ≤ maxLen ∧ len1 ≤ cap1 ∧ cap1 ≤ maxLen ∧ Vals w a1 len1 l1) (w2 : len2 ≤ maxLen ∧ len2 ≤ cap2 ∧ cap2 ≤ maxLen ∧ Vals w a2 len2 l2) (hT : TabE w) :
    Calls Tryd.prog 4 #[.int .i64 a0, .slice a1 len1 cap1, .slice a2 len2 cap2, .int .i64 a3, .int .i64 a4] w fun e w' => e = .returned (.bool true) ∧ Up w w' := by
  obtain rfl : l1.length = len1 := w1.2.2.2.1
  obtain rfl : l2.length = len2 := w2.2.2.2.1
  have HT := hide hT
  have HV1 := hide w1.2.2.2
  have HV2 := hide w2.2.2.2
  have hm1 : l1.length ≤ maxLen := w1.1
  have hm2 : l2.length ≤ maxLen := w2.1
  clear hT w1 w2
  go_enter Tryd.func4, Tryd.ntmps4
  go_wp2_with fail
  go_at_call 8
  refine (known_calls w HT.out).mono ?_
  rintro _ w1 ⟨rfl, hu1⟩
  have U0 := hide hu1
  clear hu1
  go_wp2_with fail
  go_at_call 16
  refine (few_calls a1 l1.length cap1 l1 10 w1 hm1 (HV1.out.up U0.out)).mono ?_
  rintro _ w2 ⟨rfl, rfl⟩
  obtain ⟨q, hq0⟩ : ∃ q, fewB l1 10 = q := ⟨_, rfl⟩
  rw [hq0]
  cases q with
  | false =>
    go_wp2
    go_ret
    exact ⟨rfl, U0.out⟩
  | true =>
  go_wp2_with fail
  go_at_call 16
  refine (few_calls a2 l2.length cap2 l2 10 w2 hm2 (HV2.out.up U0.out)).mono ?_
  rintro _ w3 ⟨rfl, rfl⟩
  obtain ⟨q, hq1⟩ : ∃ q, fewB l2 10 = q := ⟨_, rfl⟩
  rw [hq1]
  cases q with
  | false =>
    go_wp2
    go_ret
    exact ⟨rfl, U0.out⟩
  | true =>
  obtain ⟨hs0, hn0⟩ := few_parts hq0
  obtain ⟨hs1, hn1⟩ := few_parts hq1
  replace hs0 := hide hs0
  replace hs1 := hide hs1
  have hn0' : l1.length ≤ 10 := by omega
  have hn1' : l2.length ≤ 10 := by omega
  clear hq0 hq1 hn0 hn1 hm1 hm2
  go_wp2_with fail
  obtain ⟨W4, hW4⟩ : ∃ W4, W4 = w3.alloc (.cells #[.int .i64 0, .int .i64 0, .int .i64 0, .int .i64 0] 48) := ⟨_, rfl⟩
  have u34 : Hid (Up w3 W4) := by rw [hW4]; exact (Up.refl _).alloc _
  have MM : Hid (Met W4 w3.heap.size 0 0 0 0) := by rw [hW4]; exact ⟨⟨by go_simp, by go_simp, by go_simp, by go_simp⟩, fun i => by go_simp⟩
  have hints : Hid (∀ w', Up W4 w' → ∀ o v, w'.cell? ⟨w3.heap.size, o, none⟩ = some v → ∃ z, v = .int .i64 z) := by rw [hW4]; exact fun w' hu o v h => met_ints hu h
  have hW4s : W4.heap.size = w3.heap.size + 1 := by rw [hW4]; simp
  rw [← hW4]
  clear hW4
  obtain ⟨mb, hmb⟩ : ∃ mb, mb = w3.heap.size := ⟨_, rfl⟩
  have hmbw : w.heap.size ≤ mb := by rw [hmb]; exact U0.out.size
  rw [← hmb] at MM hints hW4s ⊢
  go_at_call 17
  refine (phooksM_calls mb W4).mono ?_
  rintro _ w5 ⟨ea, ec, el, ca, cc, cl, rfl, hfe, hfc, hxe, hxc, hu5⟩
  rw [hW4s] at hxe hxc
  have hre := fns_off hfe (by decide) hxe (hints.out w5 hu5)
  have hrc := fns_off hfc (by decide) hxc (hints.out w5 hu5)
  have HRE := hide hre
  have HRC := hide hrc
  have HFE := hide hfe
  have HFC := hide hfc
  have HXE := hide hxe
  have HXC := hide hxc
  have U5 : Hid (Up w w5) := (U0.out.trans u34.out).trans hu5
  replace MM := hide (MM.out.up hu5)
  have hsz5 : mb < w5.heap.size := by have := hu5.size; omega
  clear hre hrc hfe hfc hxe hxc hu5 hints U0 u34 hmb
  go_wp2_with fail
  go_at_call 18
  refine (copyS_calls a1 l1.length cap1 l1 _ (by omega) (HV1.out.up (U5.out.alloc _))).mono ?_
  rintro _ w6 ⟨wa, wc, rfl, hvw, hgw, hu6⟩
  have u56 : Up w5 w6 := ((Up.refl _).alloc _).trans hu6
  have hhx : w6.cell? ⟨w5.heap.size, 0, none⟩ = some (.slice ea 5 ec) := hu6.cell (by go_simp)
  have hhc : w6.cell? ⟨w5.heap.size, 1, none⟩ = some (.slice ca 3 cc) := hu6.cell (by go_simp)
  have FX : Hid (HFix w mb w5.heap.size a1 a2 wa ea ca l1 l2) := by
    refine ⟨hmbw, by omega, ?_, ?_, fun b hb => by have := (hgw b hb).1; simp at this; omega, HRE.out, HRC.out⟩
    · intro b hn hr e
      rcases HV1.out.2.2 with h | ⟨b', o', h1, h2⟩
      · exact hn h
      · obtain ⟨o, ho⟩ := hr
        rw [h1] at ho
        cases ho
        have := World.block_lt_of_cell? w _ (h2 0 (by omega)).1
        simp at this
        omega
    · intro b hn hr e
      rcases HV2.out.2.2 with h | ⟨b', o', h1, h2⟩
      · exact hn h
      · obtain ⟨o, ho⟩ := hr
        rw [h1] at ho
        cases ho
        have := World.block_lt_of_cell? w _ (h2 0 (by omega)).1
        simp at this
        omega
  have FR : Hid (HFr w mb w5.heap.size a1 a2 wa ea ca ec cc l1 l2 el cl w6) := ⟨HV1.out.up (U5.out.trans u56), HV2.out.up (U5.out.trans u56), hvw, hhx, hhc, HFE.out.up u56, HFC.out.up u56, HXE.out.keep (fun b u _ _ h => u56.cell h), HXC.out.keep (fun b u _ _ h => u56.cell h), HT.out.up (U5.out.trans u56), U5.out.trans u56⟩
  replace MM := hide (MM.out.up u56)
  obtain ⟨hb, hhb⟩ : ∃ hb, hb = w5.heap.size := ⟨_, rfl⟩
  rw [← hhb] at FX FR ⊢
  have hTm : 0 < mb := Nat.lt_of_lt_of_le HT.out.lt hmbw
  clear hhx hhc hvw hgw hu6 u56 HRE HRC HFE HFC HXE HXC U5 hhb
  obtain ⟨at1, hat⟩ : ∃ at1, at1 = bits .and .i64 a3 1 := ⟨_, rfl⟩
  have hat01 : Hid (at1 = 0 ∨ at1 = 1) := by rw [hat]; exact and_1 a3
  obtain ⟨k, hk⟩ : ∃ k, k = bits .and .i64 a0 3 := ⟨_, rfl⟩
  have hk03 : Hid (k = 0 ∨ k = 1 ∨ k = 2 ∨ k = 3) := by rw [hk]; exact and_3 a0
  have hat' := hat.symm
  have hk' := hk.symm
  clear hat hk
  obtain ⟨kn, hkn4, hkn⟩ : ∃ kn : Nat, kn < 4 ∧ k = (kn : Int) := by
    rcases hk03.out with h | h | h | h
    · exact ⟨0, by decide, h⟩
    · exact ⟨1, by decide, h⟩
    · exact ⟨2, by decide, h⟩
    · exact ⟨3, by decide, h⟩
  subst hkn
  go_wp2_with fail
  go_at_call 19
  refine (mset_calls mb 0 0 0 0 at1 a4 w6 hat01.out MM.out).mono ?_
  rintro _ w7 ⟨rfl, hm7, hc7⟩
  replace FR := hide (FR.out.chg FX.out HT.out hc7)
  replace MM := hide hm7
  obtain ⟨hw, hhw⟩ : ∃ hw, hw = bits .and .i64 a4 1023 := ⟨_, rfl⟩
  rw [← hhw] at MM
  clear hm7 hc7 hhw
  have hkn5 : (kn : Int) < 5 := by omega
  have hh0 := FR.out.hx
  obtain ⟨be, oe, hea, hce⟩ := Slc.fnH FR.out.fe (i := kn) (by omega)
  obtain ⟨mx, nx, hev, hmx, hnx, hb1, hb2⟩ := FR.out.xe kn (by rw [FR.out.fe.1]; omega)
  rw [hev] at hce
  subst hea
  have hq03 : (kn : Int) = 0 ∨ (kn : Int) = 1 ∨ (kn : Int) = 2 ∨ (kn : Int) = 3 := by omega
  have HMX := hide hmx
  have HNX := hide hnx
  have hnxm : ¬ nx = mb := by omega
  have hmxm : ¬ mx = mb := by omega
  have HQ03 := hide hq03
  clear hq03 hmx hnx hk03
  go_wp2_with fail
  go_at_call 20
  refine (cal_ext mb mx nx kn at1 hw a1 l1.length cap1 l1 w7 FR.out.tab hTm HQ03.out hat01.out (by omega) FR.out.v0 hs0.out MM.out HMX.out HNX.out hnxm).mono ?_
  rintro _ w8 ⟨xk, xz, xt, xf, ev, rfl, hc8, ht8, hE⟩
  replace FR := hide (FR.out.chg FX.out HT.out hc8)
  replace HMX := hide (hc8.cell HMX.out hmxm)
  replace HNX := hide (hc8.cell HNX.out hnxm)
  have hce8 := hc8.cell hce (by have := FX.out.re be ⟨oe, rfl⟩; exact this)
  have TO := hide ht8
  have hxm : mb < w8.heap.size := by
    obtain ⟨c, a, h, s', hm⟩ := ht8.met
    exact World.block_lt_of_cell? w8 ⟨mb, 0, none⟩ hm.1.1
  clear hc8 ht8 hce hh0 MM
  go_wp2_with fail
  go_at_call 21
  have uB := (Up.refl w8).alloc (.cells #[.int .i64 xk, .int .i64 xz, .string xt, .float .f64 xf] 58)
  refine (same_calls' a1 wa l1.length cap1 wc l1 _ (by unfold maxLen; omega) (FR.out.v0.up uB) (FR.out.was.up uB)).mono ?_
  rintro _ w9 ⟨rfl, hu9⟩
  have XB : Hid (Box w9 w8.heap.size (xk, xz, xt, xf)) := (Box.new w8 (xk, xz, xt, xf) _).up hu9
  replace uB := uB.trans hu9
  replace FR := hide (FR.out.ups FX.out HT.out uB)
  replace HMX := hide (uB.cell HMX.out)
  replace HNX := hide (uB.cell HNX.out)
  replace hce8 := uB.cell hce8
  replace TO := hide (TO.out.up uB)
  clear hu9 uB
  go_wp2_with fail
  go_at_call 22
  refine (told_all mb ⟨#[120]⟩ ev w9 FR.out.tab TO.out).mono ?_
  rintro _ wa1 ⟨rfl, hua1⟩
  replace XB := hide (XB.out.up hua1)
  replace FR := hide (FR.out.ups FX.out HT.out hua1)
  replace HMX := hide (hua1.cell HMX.out)
  replace HNX := hide (hua1.cell HNX.out)
  replace hce8 := hua1.cell hce8
  replace TO := hide (TO.out.up hua1)
  have hh0 := FR.out.hx
  have x0 : wa1.cell? ⟨w8.heap.size, 0, none⟩ = some (.int .i64 xk) := XB.out.1.1
  have x1 : wa1.cell? ⟨w8.heap.size, 1, none⟩ = some (.int .i64 xz) := XB.out.1.2.1
  have x2 : wa1.cell? ⟨w8.heap.size, 2, none⟩ = some (.string xt) := XB.out.1.2.2.1
  have x3 : wa1.cell? ⟨w8.heap.size, 3, none⟩ = some (.float .f64 xf) := XB.out.1.2.2.2
  clear hua1
  have HTAIL : Hid (∀ (X : World) (ev' : Value), True) := fun _ _ => trivial
  clear HTAIL
  rcases hE with ⟨rfl, hxe⟩ | ⟨b, rfl, rfl, rfl, rfl, rfl⟩
  · obtain ⟨mc, ma, mh, ms, hmm⟩ := TO.out.met
    have hxfw : xf < whole := by have := exV_f (kn : Int) l1; rw [← hxe] at this; exact this
    have HXE := hide hxe
    have HMM := hide hmm
    clear hxe hmm TO
    go_wp2_with fail
    go_at_call 19
    refine (mset_calls mb mc ma mh ms 0 0 wa1 (.inl rfl) HMM.out).mono ?_
    rintro _ wb1 ⟨rfl, hmb1, hcb1⟩
    replace FR := hide (FR.out.chg FX.out HT.out hcb1)
    replace HMX := hide (hcb1.cell HMX.out hmxm)
    replace HNX := hide (hcb1.cell HNX.out hnxm)
    replace hce8 := hcb1.cell hce8 (by have := FX.out.re be ⟨oe, rfl⟩; exact this)
    replace XB := hide (XB.out.chg hcb1 (by show ¬ w8.heap.size = mb; omega))
    have MM := hide hmb1
    replace hh0 := FR.out.hx
    clear hmb1 hcb1 x0 x1 x2 x3 HMM
    have hmxB : mx < wb1.heap.size := World.block_lt_of_cell? wb1 _ HMX.out
    have hnxB : nx < wb1.heap.size := World.block_lt_of_cell? wb1 _ HNX.out
    have hmbB : mb < wb1.heap.size := World.block_lt_of_cell? wb1 ⟨mb, 0, none⟩ MM.out.1.1
    have HXT : Hid (∀ x, Up wb1.drew x → ∀ ca cc, Lent wb1.heap.size x ca l1.length l1 → Calls Tryd.prog 69 #[.slice ca l1.length cc, .pointer (some ⟨mx, 0, none⟩), .pointer (some ⟨nx, 0, none⟩)] x fun e x' => e = .returned (.tuple #[.agg #[.int .i64 xk, .int .i64 xz, .string xt, .float .f64 xf], .nilIface]) ∧ Chg (fun g => g = mb ∨ RowB ca g) x x' ∧ Met x' mb 1 0 (bits .and .i64 0 1023) 0) := by
      intro x hx ca cc hl
      have hux : Up wb1 x := (Up.refl wb1).drew.trans hx
      have h := xtr_ok mx nx mb kn (bits .and .i64 0 1023) ca l1.length cc l1 wb1.heap.size x HQ03.out (by omega) hs0.out hl hmbB hmxB hnxB hnxm (hux.cell HMX.out) (hux.cell HNX.out) (MM.out.up hux)
      rw [← HXE.out] at h
      exact h
    have hlb : hb < wb1.heap.size := World.block_lt_of_cell? wb1 _ hh0
    have hle : be < wb1.heap.size := World.block_lt_of_cell? wb1 _ hce8
    have WD := hide (FR.out.was.up ((Up.refl wb1).drew))
    go_wp2_with fail
    rename_i Q1 K2 A2 K1 A1
    apply by_tail (P := fun X v => DP mb wb1 w8.heap.size (xk, xz, xt, xf) X v) (R := fun a X => Exit.then K1 (Exit.then K2 Q1) Exit.normal a X)
    · intro TL
      go_region_law (first
        | (go_simp; go_at_call 18; refine (copyL_calls wa l1.length wc l1 _ (by omega) ?_).mono ?_; (first | exact WD.out | exact WD.out.up ((Up.refl _).alloc _)); rintro _ y1 ⟨ca2, cc2, rfl, hl, hu1⟩;
           have U1 : Hid (Up wb1.drew y1) := (by first | exact hu1 | exact ((Up.refl _).alloc _).trans hu1);
           have q0 := U1.out.cell (p := ⟨hb, 0, none⟩) (v := .slice (some ⟨be, oe, none⟩) 5 ec) hh0; have q1 := U1.out.cell (p := ⟨be, oe + kn, none⟩) (v := .func (.func 69) #[] #[.pointer (some ⟨mx, 0, none⟩), .pointer (some ⟨nx, 0, none⟩)]) hce8;
           have hq0 : hb < y1.heap.size := World.block_lt_of_cell? y1 ⟨hb, 0, none⟩ q0; have hq1 : be < y1.heap.size := World.block_lt_of_cell? y1 ⟨be, oe + kn, none⟩ q1;
           have HL : Hid (Lent wb1.heap.size y1 ca2 l1.length l1) := (by first | exact hl | exact Lent.low hl (by simp));
           (first
             | (have HA : Hid (Box y1 wb1.heap.size (0, 0, ⟨#[]⟩, 0) ∧ ¬ RowB ca2 wb1.heap.size) := ⟨Box.up (Box.new wb1.drew (0, 0, ⟨#[]⟩, 0) 58) hu1, fun hr => by have h' := (hl.2.1 _ hr).1; (simp at h' <;> omega)⟩)
             | skip);
           clear hl hu1; dsimp only)
        | (go_simp; go_at_call 69; refine (HXT.out _ ?_ ca2 cc2 ?_).mono ?_; (first | exact U1.out | exact U1.out.alloc _); (first | exact HL.out | exact HL.out.up ((Up.refl _).alloc _)); rintro _ y2 ⟨rfl, hc2, hm2⟩;
           have HM2 := hide hm2;
           have HC2 : Hid (Chg (fun g => g = mb) wb1 y2) := (by first | exact Chg.trans (Chg.of_up ((Up.refl wb1).drew.trans U1.out)) hc2 (fun g hg h => h.resolve_right (fun hr => by have := HL.out.ge hr; omega)) | exact Chg.trans (Chg.of_up (((Up.refl wb1).drew.trans U1.out).alloc _)) hc2 (fun g hg h => h.resolve_right (fun hr => by have := HL.out.ge hr; omega)));
           (first
             | (have HVB : Hid (Box y2 y1.heap.size (0, 0, ⟨#[]⟩, 0)) := Box.chg (Box.new y1 (0, 0, ⟨#[]⟩, 0) 58) hc2 (fun h => h.elim (fun h => by have := U1.out.size; have e : wb1.drew.heap.size = wb1.heap.size := rfl; omega) (fun h => by have := (HL.out.2.1 _ h).2; omega)); have i0 : y2.cell? ⟨y1.heap.size, 0, none⟩ = some (.int .i64 0) := HVB.out.1.1; have i1 : y2.cell? ⟨y1.heap.size, 1, none⟩ = some (.int .i64 0) := HVB.out.1.2.1; have i2 : y2.cell? ⟨y1.heap.size, 2, none⟩ = some (.string ⟨#[]⟩) := HVB.out.1.2.2.1; have i3 : y2.cell? ⟨y1.heap.size, 3, none⟩ = some (.float .f64 0) := HVB.out.1.2.2.2; have j0 := HVB.out.2 0; have j1 := HVB.out.2 1; have j2 := HVB.out.2 2; have j3 := HVB.out.2 3)
             | (have HVA : Hid (Box y2 wb1.heap.size (0, 0, ⟨#[]⟩, 0)) := Box.chg HA.out.1 hc2 (fun h => h.elim (fun h => by omega) (fun h => HA.out.2 h)); have i0 : y2.cell? ⟨wb1.heap.size, 0, none⟩ = some (.int .i64 0) := HVA.out.1.1; have i1 : y2.cell? ⟨wb1.heap.size, 1, none⟩ = some (.int .i64 0) := HVA.out.1.2.1; have i2 : y2.cell? ⟨wb1.heap.size, 2, none⟩ = some (.string ⟨#[]⟩) := HVA.out.1.2.2.1; have i3 : y2.cell? ⟨wb1.heap.size, 3, none⟩ = some (.float .f64 0) := HVA.out.1.2.2.2; have j0 := HVA.out.2 0; have j1 := HVA.out.2 1; have j2 := HVA.out.2 2; have j3 := HVA.out.2 3)
             | skip);
           clear hc2 hm2; dsimp only))
      all_goals (
        have hsy : wb1.heap.size ≤ y1.heap.size := U1.out.size
        have hsy2 : wb1.heap.size ≤ y2.heap.size := HC2.out.size
        have hw8w : w8.heap.size < wb1.heap.size := World.block_lt_of_cell? wb1 ⟨w8.heap.size, 0, none⟩ XB.out.1.1
        first
          | (have PXX : Hid (DP mb wb1 w8.heap.size (xk, xz, xt, xf) ((((y2.setCell ⟨y1.heap.size, 0, none⟩ (.int .i64 xk)).setCell ⟨y1.heap.size, 1, none⟩ (.int .i64 xz)).setCell ⟨y1.heap.size, 2, none⟩ (.string xt)).setCell ⟨y1.heap.size, 3, none⟩ (.float .f64 xf)) y1.heap.size) := DP.ofSet xk xz xt xf HC2.out HM2.out HVB.out (by omega) (by omega)
             clear i0 i1 i2 i3 j0 j1 j2 j3 HVB
             revert PXX
             generalize (((y2.setCell ⟨y1.heap.size, 0, none⟩ (.int .i64 xk)).setCell ⟨y1.heap.size, 1, none⟩ (.int .i64 xz)).setCell ⟨y1.heap.size, 2, none⟩ (.string xt)).setCell ⟨y1.heap.size, 3, none⟩ (.float .f64 xf) = X
             generalize y1.heap.size = vk at *
             intro PXX
             exact TL.out X vk ca2 cc2 PXX.out)
          | (have PXX : Hid (DP mb wb1 w8.heap.size (xk, xz, xt, xf) ((((y2.setCell ⟨wb1.heap.size, 0, none⟩ (.int .i64 xk)).setCell ⟨wb1.heap.size, 1, none⟩ (.int .i64 xz)).setCell ⟨wb1.heap.size, 2, none⟩ (.string xt)).setCell ⟨wb1.heap.size, 3, none⟩ (.float .f64 xf)) wb1.heap.size) := DP.ofSet xk xz xt xf HC2.out HM2.out HVA.out (by omega) (by omega)
             clear i0 i1 i2 i3 j0 j1 j2 j3 HVA HA
             revert PXX
             generalize (((y2.setCell ⟨wb1.heap.size, 0, none⟩ (.int .i64 xk)).setCell ⟨wb1.heap.size, 1, none⟩ (.int .i64 xz)).setCell ⟨wb1.heap.size, 2, none⟩ (.string xt)).setCell ⟨wb1.heap.size, 3, none⟩ (.float .f64 xf) = X
             generalize wb1.heap.size = vk at *
             intro PXX
             exact TL.out X vk ca2 cc2 PXX.out)
          | (have PXX : Hid (DP mb wb1 w8.heap.size (xk, xz, xt, xf) (y2.alloc (.cells #[.int .i64 xk, .int .i64 xz, .string xt, .float .f64 xf] 58)) y2.heap.size) := DP.ofNew (xk, xz, xt, xf) 58 HC2.out HM2.out (by omega) (by omega)
             revert PXX
             generalize y2.alloc (.cells #[.int .i64 xk, .int .i64 xz, .string xt, .float .f64 xf] 58) = X
             generalize y2.heap.size = vk at *
             intro PXX
             exact TL.out X vk ca2 cc2 PXX.out))
    · skip
      intro X vk ca2 cc2 hPX
      have PXX : Hid (DP mb wb1 w8.heap.size (xk, xz, xt, xf) X vk) := hPX
      clear hPX HXT WD hh0 hce8
      show Exit.then K1 (Exit.then K2 Q1) Exit.normal _ X
      replace FR := hide (FR.out.chg FX.out HT.out PXX.out.chg)
      have MET : Hid (∃ c a h s', Met X mb c a h s') := ⟨_, _, _, _, PXX.out.met⟩
      have b0 : X.cell? ⟨vk, 0, none⟩ = some (.int .i64 xk) := PXX.out.box.1.1
      have b1 : X.cell? ⟨vk, 1, none⟩ = some (.int .i64 xz) := PXX.out.box.1.2.1
      have b2 : X.cell? ⟨vk, 2, none⟩ = some (.string xt) := PXX.out.box.1.2.2.1
      have b3 : X.cell? ⟨vk, 3, none⟩ = some (.float .f64 xf) := PXX.out.box.1.2.2.2
      have XB2 : Hid (Box X w8.heap.size (xk, xz, xt, xf)) := XB.out.chg PXX.out.chg (by show ¬ w8.heap.size = mb; omega)
      have x0 : X.cell? ⟨w8.heap.size, 0, none⟩ = some (.int .i64 xk) := XB2.out.1.1
      have x1 : X.cell? ⟨w8.heap.size, 1, none⟩ = some (.int .i64 xz) := XB2.out.1.2.1
      have x2 : X.cell? ⟨w8.heap.size, 2, none⟩ = some (.string xt) := XB2.out.1.2.2.1
      have x3 : X.cell? ⟨w8.heap.size, 3, none⟩ = some (.float .f64 xf) := XB2.out.1.2.2.2
      clear PXX XB XB2 MM HMX HNX HXE HQ03
      go_wp2_with fail
      go_at_call 23
      refine (rvsame_calls xk xz xk xz xt xt xf xf hxfw hxfw _).mono ?_
      rintro _ wz1 ⟨rfl, huz1⟩
      rw [cmpV_self]
      replace FR := hide (FR.out.ups FX.out HT.out huz1)
      replace MET : Hid (∃ c a h s', Met wz1 mb c a h s') := by
        obtain ⟨c, a, h, s', hm⟩ := MET.out
        exact ⟨c, a, h, s', hm.up huz1⟩
      clear huz1 x0 x1 x2 x3 b0 b1 b2 b3
      go_wp2_with fail
      obtain ⟨mc, ma, mh, ms, hmm⟩ := MET.out
      have HMM := hide hmm
      clear hmm MET
      go_at_call 19
      refine (mset_calls mb mc ma mh ms at1 a4 wz1 hat01.out HMM.out).mono ?_
      rintro _ wc1 ⟨rfl, hmc1, hcc1⟩
      replace FR := hide (FR.out.chg FX.out HT.out hcc1)
      have MM := hide hmc1
      clear hmc1 hcc1 HMM
      obtain ⟨kc, hkc3, hkc⟩ : ∃ kc : Nat, kc < 3 ∧ (kn : Int).tmod 3 = (kc : Int) := by
        have h4 : kn = 0 ∨ kn = 1 ∨ kn = 2 ∨ kn = 3 := by omega
        rcases h4 with rfl | rfl | rfl | rfl
        · exact ⟨0, by decide, by decide⟩
        · exact ⟨1, by decide, by decide⟩
        · exact ⟨2, by decide, by decide⟩
        · exact ⟨0, by decide, by decide⟩
      have hkc' : (kc : Int) < 3 := by omega
      have hh1 := FR.out.hc
      obtain ⟨bc, oc, hca, hcc⟩ := Slc.fnH FR.out.fc (i := kc) (by omega)
      obtain ⟨my, ny, hcv, hmy, hny, hc1, hc2⟩ := FR.out.xc kc (by rw [FR.out.fc.1]; omega)
      rw [hcv] at hcc
      rw [hca] at hh1
      have hq02 : (kc : Int) = 0 ∨ (kc : Int) = 1 ∨ (kc : Int) = 2 := by omega
      have HQ02 := hide hq02
      have HMY := hide hmy
      have HNY := hide hny
      clear hq02 hmy hny
      go_wp2_with fail
      go_at_call 24
      refine (cal_cmp mb my ny kc at1 _ a1 a2 l1.length cap1 l2.length cap2 l1 l2 wc1 FR.out.tab hTm HQ02.out hat01.out (by omega) FR.out.v0 hs0.out (by omega) FR.out.v1 hs1.out MM.out HMY.out HNY.out (by omega)).mono ?_
      rintro _ wd1 ⟨r, ev2, rfl, hcd, htd, hr1, hr2, hE2⟩
      replace FR := hide (FR.out.chg FX.out HT.out hcd)
      have TO := hide htd
      have t5 : decide (r < -1) = false := decide_eq_false (by omega)
      have t6 : decide ((1 : Int) < r) = false := decide_eq_false (by omega)
      have HE2 := hide hE2
      clear hcd htd hE2 hcc hh1 MM HMY HNY
      go_wp2_with fail
      go_at_call 22
      refine (told_all mb ⟨#[121]⟩ ev2 wd1 FR.out.tab TO.out).mono ?_
      rintro _ we1 ⟨rfl, hue1⟩
      replace FR := hide (FR.out.ups FX.out HT.out hue1)
      replace TO := hide (TO.out.up hue1)
      clear hue1
      rcases HE2.out with rfl | ⟨⟨b2, rfl⟩, rfl⟩
      all_goals (
        clear HE2
        go_wp2_with fail
        obtain ⟨mc, ma, mh, ms, hmm⟩ := TO.out.met
        have HMM := hide hmm
        clear hmm TO
        go_at_call 19
        refine (mset_calls mb mc ma mh ms at1 a4 we1 hat01.out HMM.out).mono ?_
        rintro _ wf1 ⟨rfl, hmf1, hcf1⟩
        replace FR := hide (FR.out.chg FX.out HT.out hcf1)
        have MM := hide hmf1
        have hmbf : mb < wf1.heap.size := World.block_lt_of_cell? wf1 ⟨mb, 0, none⟩ hmf1.1.1
        clear hmf1 hcf1 HMM
        go_wp2_with fail
        go_at_call 26
        refine (setter_calls mb a0 1 7 ⟨#[]⟩ 0 wf1).mono ?_
        rintro _ wg1 ⟨sx, sq, sv, rfl, hsx, hsq, hsv, hl1, hl2, hug⟩
        replace FR := hide (FR.out.ups FX.out HT.out hug)
        replace MM := hide (MM.out.up hug)
        have HSX := hide hsx
        have HSQ := hide hsq
        have HSV := hide hsv
        clear hsx hsq hsv hug
        go_wp2_with fail
        go_at_call 25
        refine (cal_mut mb sx sq sv a0 at1 _ 1 7 ⟨#[]⟩ 0 a1 l1.length cap1 l1 wg1 FR.out.tab hTm hat01.out hn0' FR.out.v0 hs0.out fits_seven (by decide) MM.out HSX.out HSQ.out HSV.out (by omega) (by omega)).mono ?_
        rintro _ wh1 ⟨ra, rn, rc, ev3, rfl, hch, hth, hE3⟩
        replace FR := hide (FR.out.chg FX.out HT.out hch)
        have TO := hide hth
        have HE3 := hide hE3
        clear hch hth hE3 MM HSX HSQ HSV
        go_wp2_with fail
        go_at_call 22
        refine (told_all mb ⟨#[]⟩ ev3 wh1 FR.out.tab TO.out).mono ?_
        rintro _ wi1 ⟨rfl, hui1⟩
        replace FR := hide (FR.out.ups FX.out HT.out hui1)
        have UI := hide hui1
        clear hui1 TO
        go_wp2_with fail
        go_at_call 21
        refine (same_calls' a1 wa l1.length cap1 wc l1 wi1 (by unfold maxLen; omega) FR.out.v0 FR.out.was).mono ?_
        rintro _ wj1 ⟨rfl, huj1⟩
        replace FR := hide (FR.out.ups FX.out HT.out huj1)
        replace UI := hide (UI.out.trans huj1)
        clear huj1
        rcases HE3.out with ⟨rfl, rfl, hvr⟩ | ⟨⟨b3, rfl⟩, rfl⟩
        · have HVR := hide (hvr.up UI.out)
          clear hvr HE3
          go_wp2_with fail
          go_at_call 27
          refine (set_calls a1 l1.length cap1 l1 a0 1 7 ⟨#[]⟩ 0 wj1 (by omega) FR.out.v0 fits_seven).mono ?_
          rintro _ wk1 ⟨rb, rd, rfl, hvb, _, huk⟩
          replace FR := hide (FR.out.ups FX.out HT.out huk)
          replace HVR := hide (HVR.out.up huk)
          have HVB := hide hvb
          clear huk hvb
          have hsl := setV_length l1 a0 (1, 7, ⟨#[]⟩, 0)
          go_wp2_with fail
          go_at_call 21
          refine (same_calls' ra rb (setV l1 a0 (1, 7, ⟨#[]⟩, 0)).length rc rd (setV l1 a0 (1, 7, ⟨#[]⟩, 0)) wk1 (by unfold maxLen; omega) HVR.out HVB.out).mono ?_
          rintro _ wl1 ⟨rfl, hul⟩
          replace FR := hide (FR.out.ups FX.out HT.out hul)
          clear hul
          go_wp2
          go_ret
          exact ⟨rfl, FR.out.up⟩
        · clear HE3
          go_wp2
          go_ret
          exact ⟨rfl, FR.out.up⟩)
  · go_wp2_with fail
    go_at_call 23
    refine (rvsame_calls 0 0 0 0 ⟨#[]⟩ ⟨#[]⟩ 0 0 (by decide) (by decide) _).mono ?_
    rintro _ wb1 ⟨rfl, hub1⟩
    rw [cmpV_self]
    replace FR := hide (FR.out.ups FX.out HT.out hub1)
    replace TO := hide (TO.out.up hub1)
    clear hub1 x0 x1 x2 x3 XB hce8 hh0
    go_wp2_with fail
    have MET := hide TO.out.met
    clear TO
    obtain ⟨mc, ma, mh, ms, hmm⟩ := MET.out
    have HMM := hide hmm
    clear hmm MET
    go_at_call 19
    refine (mset_calls mb mc ma mh ms at1 a4 wb1 hat01.out HMM.out).mono ?_
    rintro _ wc1 ⟨rfl, hmc1, hcc1⟩
    replace FR := hide (FR.out.chg FX.out HT.out hcc1)
    have MM := hide hmc1
    clear hmc1 hcc1 HMM
    obtain ⟨kc, hkc3, hkc⟩ : ∃ kc : Nat, kc < 3 ∧ (kn : Int).tmod 3 = (kc : Int) := by
      have h4 : kn = 0 ∨ kn = 1 ∨ kn = 2 ∨ kn = 3 := by omega
      rcases h4 with rfl | rfl | rfl | rfl
      · exact ⟨0, by decide, by decide⟩
      · exact ⟨1, by decide, by decide⟩
      · exact ⟨2, by decide, by decide⟩
      · exact ⟨0, by decide, by decide⟩
    have hkc' : (kc : Int) < 3 := by omega
    have hh1 := FR.out.hc
    obtain ⟨bc, oc, hca, hcc⟩ := Slc.fnH FR.out.fc (i := kc) (by omega)
    obtain ⟨my, ny, hcv, hmy, hny, hc1, hc2⟩ := FR.out.xc kc (by rw [FR.out.fc.1]; omega)
    rw [hcv] at hcc
    rw [hca] at hh1
    have hq02 : (kc : Int) = 0 ∨ (kc : Int) = 1 ∨ (kc : Int) = 2 := by omega
    have HQ02 := hide hq02
    have HMY := hide hmy
    have HNY := hide hny
    clear hq02 hmy hny
    go_wp2_with fail
    go_at_call 24
    refine (cal_cmp mb my ny kc at1 _ a1 a2 l1.length cap1 l2.length cap2 l1 l2 wc1 FR.out.tab hTm HQ02.out hat01.out (by omega) FR.out.v0 hs0.out (by omega) FR.out.v1 hs1.out MM.out HMY.out HNY.out (by omega)).mono ?_
    rintro _ wd1 ⟨r, ev2, rfl, hcd, htd, hr1, hr2, hE2⟩
    replace FR := hide (FR.out.chg FX.out HT.out hcd)
    have TO := hide htd
    have t5 : decide (r < -1) = false := decide_eq_false (by omega)
    have t6 : decide ((1 : Int) < r) = false := decide_eq_false (by omega)
    have HE2 := hide hE2
    clear hcd htd hE2 hcc hh1 MM HMY HNY
    go_wp2_with fail
    go_at_call 22
    refine (told_all mb ⟨#[121]⟩ ev2 wd1 FR.out.tab TO.out).mono ?_
    rintro _ we1 ⟨rfl, hue1⟩
    replace FR := hide (FR.out.ups FX.out HT.out hue1)
    replace TO := hide (TO.out.up hue1)
    clear hue1
    rcases HE2.out with rfl | ⟨⟨b2, rfl⟩, rfl⟩
    all_goals (
      clear HE2
      go_wp2_with fail
      obtain ⟨mc, ma, mh, ms, hmm⟩ := TO.out.met
      have HMM := hide hmm
      clear hmm TO
      go_at_call 19
      refine (mset_calls mb mc ma mh ms at1 a4 we1 hat01.out HMM.out).mono ?_
      rintro _ wf1 ⟨rfl, hmf1, hcf1⟩
      replace FR := hide (FR.out.chg FX.out HT.out hcf1)
      have MM := hide hmf1
      have hmbf : mb < wf1.heap.size := World.block_lt_of_cell? wf1 ⟨mb, 0, none⟩ hmf1.1.1
      clear hmf1 hcf1 HMM
      go_wp2_with fail
      go_at_call 26
      refine (setter_calls mb a0 1 7 ⟨#[]⟩ 0 wf1).mono ?_
      rintro _ wg1 ⟨sx, sq, sv, rfl, hsx, hsq, hsv, hl1, hl2, hug⟩
      replace FR := hide (FR.out.ups FX.out HT.out hug)
      replace MM := hide (MM.out.up hug)
      have HSX := hide hsx
      have HSQ := hide hsq
      have HSV := hide hsv
      clear hsx hsq hsv hug
      go_wp2_with fail
      go_at_call 25
      refine (cal_mut mb sx sq sv a0 at1 _ 1 7 ⟨#[]⟩ 0 a1 l1.length cap1 l1 wg1 FR.out.tab hTm hat01.out hn0' FR.out.v0 hs0.out fits_seven (by decide) MM.out HSX.out HSQ.out HSV.out (by omega) (by omega)).mono ?_
      rintro _ wh1 ⟨ra, rn, rc, ev3, rfl, hch, hth, hE3⟩
      replace FR := hide (FR.out.chg FX.out HT.out hch)
      have TO := hide hth
      have HE3 := hide hE3
      clear hch hth hE3 MM HSX HSQ HSV
      go_wp2_with fail
      go_at_call 22
      refine (told_all mb ⟨#[]⟩ ev3 wh1 FR.out.tab TO.out).mono ?_
      rintro _ wi1 ⟨rfl, hui1⟩
      replace FR := hide (FR.out.ups FX.out HT.out hui1)
      have UI := hide hui1
      clear hui1 TO
      go_wp2_with fail
      go_at_call 21
      refine (same_calls' a1 wa l1.length cap1 wc l1 wi1 (by unfold maxLen; omega) FR.out.v0 FR.out.was).mono ?_
      rintro _ wj1 ⟨rfl, huj1⟩
      replace FR := hide (FR.out.ups FX.out HT.out huj1)
      replace UI := hide (UI.out.trans huj1)
      clear huj1
      rcases HE3.out with ⟨rfl, rfl, hvr⟩ | ⟨⟨b3, rfl⟩, rfl⟩
      · have HVR := hide (hvr.up UI.out)
        clear hvr HE3
        go_wp2_with fail
        go_at_call 27
        refine (set_calls a1 l1.length cap1 l1 a0 1 7 ⟨#[]⟩ 0 wj1 (by omega) FR.out.v0 fits_seven).mono ?_
        rintro _ wk1 ⟨rb, rd, rfl, hvb, _, huk⟩
        replace FR := hide (FR.out.ups FX.out HT.out huk)
        replace HVR := hide (HVR.out.up huk)
        have HVB := hide hvb
        clear huk hvb
        have hsl := setV_length l1 a0 (1, 7, ⟨#[]⟩, 0)
        go_wp2_with fail
        go_at_call 21
        refine (same_calls' ra rb (setV l1 a0 (1, 7, ⟨#[]⟩, 0)).length rc rd (setV l1 a0 (1, 7, ⟨#[]⟩, 0)) wk1 (by unfold maxLen; omega) HVR.out HVB.out).mono ?_
        rintro _ wl1 ⟨rfl, hul⟩
        replace FR := hide (FR.out.ups FX.out HT.out hul)
        clear hul
        go_wp2
        go_ret
        exact ⟨rfl, FR.out.up⟩
      · clear HE3
        go_wp2
        go_ret
        exact ⟨rfl, FR.out.up⟩)

end Go.Proofs.YtmlfkjmondkfnaaDoor
