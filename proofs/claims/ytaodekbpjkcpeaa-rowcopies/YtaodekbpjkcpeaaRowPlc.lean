/-
  The landed store's place: a row comes to a free slot, or there is none.
-/
import Derived.Test.YtaodekbpjkcpeaaRowOps
namespace Go.Proofs.Ytaodekbpjkcpeaa
open Go.ChangeShapes Go.WideShapes Go.ChangeAt Go.RowKit
set_option linter.unusedVariables false
attribute [local go_sem ↓] Go.wp_at_zero Go.wp_at_succ
attribute [local go_sem] run_store_float

set_option maxRecDepth 20000 in
set_option maxHeartbeats 8000000 in
theorem place_full (p n c k : Nat) (O : Nat → Prop) (next lim wr x ver : Int) (R : Int → Option RD) (a : Option Addr) (w : World) (h : StoL p O w n next lim wr R n) :
    Calls Try.prog 35 #[.pointer (some ⟨p, 0, none⟩), .agg #[.int .i64 x, .int .i64 ver, .slice a k c]] w fun e w' => e = .returned (.int .i64 70) ∧ Up w w' := by
  obtain ⟨h0, V, S, M, b, f, xs, h1, h2, h3, h4⟩ := h
  obtain ⟨a0, cap, c2⟩ := h1.free.any
  obtain rfl : xs = [] := List.length_eq_zero_iff.1 (by have := h3.many; omega)
  have hu0 : Up w (w.alloc (.cells #[.int .i64 x, .int .i64 ver, .slice a k c] 35)) := (Up.refl _).alloc _
  replace c2 := hu0.cell c2
  simp only [List.length_nil] at c2
  have HU := hide hu0
  clear h0 h1 h2 h3 h4 hu0
  go_enter Try.func35, Try.ntmps35
  go_wp2_with (go_at_call 47; refine (lenF_calls a0 0 cap _).mono ?_; rintro _ _ ⟨rfl, rfl⟩)
  go_ret
  exact ⟨rfl, HU.out⟩

/-- What write leaves: the row at its slot, all others as they were. -/
theorem wrote {V : Nat → Prop} {p S M b : Nat} {w2 w3 w4 : World} {n : Nat} {next wr : Int} {cnt : Nat} {f : Int → Option Nat} {xs : List Int} {R : Int → Option RD} {g : Int → Option Nat} {s k : Nat} {x ver : Int} {m : List VT} {a : Option Addr}
    (E1 : StoC V p S M b w2 n next wr cnt g xs) (E2 : StoR V w2 S f R) (hsn : s < n) (hu : Up w2 w3) (hn : NewRow w2.heap.size w3 a k m) (e : w4 = (set3 w3 S (s * 3) (.int .i64 x) (.int .i64 ver) (.slice a k k)).setCell ⟨p, 4, none⟩ (.int .i64 (wr + 1))) :
    StoC (fun y => V y ∨ (w2.heap.size ≤ y ∧ y < w4.heap.size)) p S M b w4 n next (wr + 1) cnt g xs ∧ (∀ y s', f y = some s' → s' ≠ s → ∃ d, R y = some d ∧ Small d.2 ∧ RowIn (fun y => V y ∨ (w2.heap.size ≤ y ∧ y < w4.heap.size)) w4 S s' y d.1 d.2) ∧
    RowIn (fun y => V y ∨ (w2.heap.size ≤ y ∧ y < w4.heap.size)) w4 S s x ver m ∧ Chg (fun y => y = p ∨ y = S) w2 w4 := by
  have hup : Chg (fun _ => False) w2 w3 := Chg.of_up hu
  have F1 := (E1.chg hup (fun _ _ h => h))
  have hpl := E1.p_lt
  have hSl := E1.S_lt
  have hp4 : Chg (fun y => y = p) (set3 w3 S (s * 3) (.int .i64 x) (.int .i64 ver) (.slice a k k)) w4 := by rw [e]; exact (Chg.refl _ _).set (C := fun y => y = p) (p := ⟨p, 4, none⟩) (fun _ => rfl) _
  have hs3 : Chg (fun y => y = S) w3 (set3 w3 S (s * 3) (.int .i64 x) (.int .i64 ver) (.slice a k k)) := chg_s3 _ _ _ _ _ _
  have hsz3 : w3.heap.size ≤ w4.heap.size := Nat.le_trans hs3.size hp4.size
  have hall : Chg (fun y => y = p ∨ y = S) w2 w4 := ((Chg.of_up (C := fun y => y = p ∨ y = S) hu).trans hs3 (fun _ _ h => .inr h)).trans hp4 (fun _ _ h => .inl h)
  have hSp : ¬ S = p := fun e => E1.pS e.symm
  have hcore : ∀ y, core p S M b y → y < w2.heap.size := fun y hy => E1.lt y (.inr hy)
  refine ⟨?_, fun y s' hy hne => ?_, ?_, hall⟩
  · have F2 := (F1.slot hsn (.int .i64 x) (.int .i64 ver) (.slice a k k)).count (wr + 1)
    rw [← e] at F2
    exact F2.grow (fun y hy => hy.imp id (fun h => ⟨h.2, fun hc => by have := hcore y hc; omega⟩))
  · obtain ⟨d, h1, h2, h3⟩ := E2 y s' hy
    refine ⟨d, h1, h2, ?_⟩
    have h4 := (h3.chg hup (fun h => h) (fun _ _ h => h)).other (v0 := .int .i64 x) (v1 := .int .i64 ver) (v2 := .slice a k k) hne (fun y hy e => E1.apart y hy (.inr (.inl e)))
    exact (h4.chg hp4 hSp (fun y hy e => E1.apart y hy (.inl e))).mono (fun y hy => .inl hy)
  · obtain ⟨u0, r0⟩ := F1.room (s * 3) (by omega)
    obtain ⟨u1, r1⟩ := F1.room (s * 3 + 1) (by omega)
    obtain ⟨u2, r2⟩ := F1.room (s * 3 + 2) (by omega)
    obtain ⟨g0, g1, g2⟩ := set3_cells (v0 := .int .i64 x) (v1 := .int .i64 ver) (v2 := .slice a k k) r0 r1 r2
    have hn4 := (hn.chg hs3 (fun y hy e => by omega)).chg hp4 (fun y hy e => by omega)
    refine ⟨hp4.cell g0 hSp, hp4.cell g1 hSp, a, k, k, hp4.cell g2 hSp, hn4.1, hn4.2.imp id (fun ⟨G, e, h1, h2, _⟩ => ⟨G, 0, e, .inr ⟨h1, h2⟩⟩)⟩
/-- The least one is taken out. -/
theorem popL_taken {xs : List Int} (h0 : 0 < xs.length) : (popL 0 ahN xs).Perm xs.tail ∧ xs = xs.getD 0 0 :: xs.tail := by
  cases xs with
  | nil => simp at h0
  | cons y ys => exact ⟨popL_perm 0 ahN y ys, rfl⟩
theorem StoP.place {n cnt : Nat} {lim lim' x ver : Int} {m : List VT} {R : Int → Option RD} {f : Int → Option Nat} {xs : List Int} {s : Nat} (h : StoP n lim R cnt f xs) (h0 : 0 < xs.length) (hs : (s : Int) = xs.getD 0 0) (hx : R x = none) (hx1 : 1 ≤ x) (hx2 : x < lim') (hl1 : lim ≤ lim') (hl2 : lim' ≤ 4611686018428387904) :
    StoP n lim' (upd R x (some (ver, m))) (cnt + 1) (upd f x (some s)) (popL 0 ahN xs) := by
  obtain ⟨hp, he⟩ := popL_taken h0
  obtain ⟨ys, hys⟩ : ∃ ys, ys = xs.tail := ⟨_, rfl⟩
  rw [← hys] at hp he
  rw [← hs] at he
  subst he
  have hnd := h.nodup
  rw [List.nodup_cons] at hnd
  refine ⟨?_, h.most, hp.nodup_iff.2 hnd.2, fun t ht => h.inn t (List.mem_cons_of_mem _ (hp.mem_iff.1 ht)), fun y => ?_, fun y t hy => ?_, fun y z t hy hz => ?_, fun y d hy => ?_, ?_⟩
  · have := h.many
    rw [hp.length_eq]
    simp at this
    omega
  · by_cases e : y = x
    · subst e; rw [upd_same, upd_same]; simp
    · rw [upd_other _ _ e, upd_other _ _ e]; exact h.non y
  · by_cases e : y = x
    · subst e
      rw [upd_same] at hy
      cases hy
      exact ⟨by have := (h.inn s (List.mem_cons_self ..)).2; omega, fun hm => hnd.1 (hp.mem_iff.1 hm)⟩
    · rw [upd_other _ _ e] at hy
      obtain ⟨h1, h2⟩ := h.slots y t hy
      exact ⟨h1, fun hm => h2 (List.mem_cons_of_mem _ (hp.mem_iff.1 hm))⟩
  · by_cases e : y = x
    · by_cases e' : z = x
      · rw [e, e']
      · subst e
        rw [upd_same] at hy
        rw [upd_other _ _ e'] at hz
        cases hy
        exact absurd (List.mem_cons_self ..) (h.slots z s hz).2
    · rw [upd_other _ _ e] at hy
      by_cases e' : z = x
      · subst e'
        rw [upd_same] at hz
        cases hz
        exact absurd (List.mem_cons_self ..) (h.slots y s hy).2
      · rw [upd_other _ _ e'] at hz
        exact h.inj y z t hy hz
  · by_cases e : y = x
    · subst e; exact ⟨hx1, hx2⟩
    · rw [upd_other _ _ e] at hy
      have := h.ids y d hy
      omega
  · have := h.nx
    omega

set_option maxRecDepth 20000 in
set_option maxHeartbeats 8000000 in
theorem place_ok (p n c k cnt : Nat) (O : Nat → Prop) (next lim lim' wr x ver : Int) (R : Int → Option RD) (a : Option Addr) (m : List VT) (w : World) (h : StoL p O w n next lim wr R cnt)
    (hc : cnt < n) (hx : R x = none) (hx1 : 1 ≤ x) (hx2 : x < lim') (hl1 : lim ≤ lim') (hl2 : lim' ≤ 4611686018428387904) (hwr : 0 ≤ wr ∧ wr ≤ 1000000) (hv : ValsO (fun g => ¬ O g) w a k m) (hsm : Small m) :
    Calls Try.prog 35 #[.pointer (some ⟨p, 0, none⟩), .agg #[.int .i64 x, .int .i64 ver, .slice a k c]] w fun e w' => e = .returned (.int .i64 0) ∧ ∃ O', StoL p O' w' n next lim' (wr + 1) (upd R x (some (ver, m))) (cnt + 1) ∧ Chg O w w' ∧ ∀ y, O' y → O y ∨ w.heap.size ≤ y := by
  obtain ⟨h0, V, S, M, b, f, xs, h1, h2, h3, h4⟩ := h
  have hxl : 0 < xs.length := by have := h3.many; omega
  obtain ⟨a0, cap, c2⟩ := h1.free.any
  have hN : ((xs.length : Int) == 0) = false := by rw [beq_eq_false_iff_ne]; omega
  obtain ⟨s, hs⟩ : ∃ s : Nat, (s : Int) = xs.getD 0 0 := by
    have hm : xs.getD 0 0 ∈ xs := by rw [List.getD_eq_getElem?_getD, List.getElem?_eq_getElem hxl]; exact List.getElem_mem _
    have := (h3.inn _ hm).1
    exact ⟨(xs.getD 0 0).toNat, by omega⟩
  have hfx : f x = none := (h3.non x).2 hx
  have hu0 : Up w (w.alloc (.cells #[.int .i64 x, .int .i64 ver, .slice a k c] 35)) := (Up.refl _).alloc _
  have b0 : (w.alloc (.cells #[.int .i64 x, .int .i64 ver, .slice a k c] 35)).cell? ⟨w.heap.size, 0, none⟩ = some (.int .i64 x) := by go_simp
  have b1 : (w.alloc (.cells #[.int .i64 x, .int .i64 ver, .slice a k c] 35)).cell? ⟨w.heap.size, 1, none⟩ = some (.int .i64 ver) := by go_simp
  have b2 : (w.alloc (.cells #[.int .i64 x, .int .i64 ver, .slice a k c] 35)).cell? ⟨w.heap.size, 2, none⟩ = some (.slice a k c) := by go_simp
  replace c2 := hu0.cell c2
  have H1 := hide (h1.chg (Chg.of_up (C := fun _ => False) hu0) (fun _ _ h => h))
  have H2 := hide (h2.chg (Chg.of_up (C := fun _ => False) hu0) (fun h => h) (fun _ _ h => h))
  have H3 := hide h3
  have H4 := hide h4
  have H0 := hide h0
  have HU := hide hu0
  have HV := hide hv
  have HS := hide hsm
  clear h0 h1 h2 h3 h4 hu0 hv hsm
  have HL := hide hxl
  have HX := hide hs
  clear hxl hs
  generalize hnn : xs.length = N at c2 hN
  clear hnn
  generalize hW : w.alloc (.cells #[.int .i64 x, .int .i64 ver, .slice a k c] 35) = W at *
  go_enter Try.func35, Try.ntmps35
  go_wp2_with (go_at_call 47; refine (lenF_calls a0 N cap _).mono ?_; rintro _ w9 ⟨rfl, hw9⟩; obtain rfl : W = w9 := hw9.symm)
  go_at_call 48
  refine (ftake_calls _ p b xs W H1.out.free HL.out).mono ?_
  rintro _ w1 ⟨rfl, hf1, hc1⟩
  rw [← HX.out]
  have hpl : p < w.heap.size := H0.out p (H4.out p (.inr (.inl rfl)))
  have hbl : b < w.heap.size := H0.out b (H4.out b (.inr (.inr (.inr (.inr rfl)))))
  have hSl : S < w.heap.size := H0.out S (H4.out S (.inr (.inr (.inl rfl))))
  have hMl : M < w.heap.size := H0.out M (H4.out M (.inr (.inr (.inr (.inl rfl)))))
  have hbn : ¬ PB p b w.heap.size := fun e => by rcases e with e | e <;> omega
  have D1 := hide (H1.out.refree hf1 hc1 (.inl rfl))
  have D2 := hide (H2.out.chg hc1 (fun e => e.elim (fun e => H1.out.pS e.symm) (fun e => H1.out.bS e.symm)) (fun y hy e => H1.out.apart y hy (e.elim (fun e => .inl e) (fun e => .inr (.inr (.inr e))))))
  replace b0 := hc1.cell b0 hbn
  replace b1 := hc1.cell b1 hbn
  replace b2 := hc1.cell b2 hbn
  have c1 := D1.out.c1
  have hsn : s < n := by
    have hm : xs.getD 0 0 ∈ xs := by rw [List.getD_eq_getElem?_getD, List.getElem?_eq_getElem HL.out]; exact List.getElem_mem _
    have := (H3.out.inn _ hm).2
    have := HX.out
    omega
  have hn2 : n ≤ 200 := H3.out.most
  have hcn : cnt < 1000000 := by omega
  obtain ⟨w2, hrun, hm2, hc2⟩ := (show MapAt w1.drew M f cnt from D1.out.map).store (wf64_of (by omega) (by omega) : wf64 x) (s := s) (by omega) hcn hfx
  have C2 : Hid (Chg (fun y => y = M) w1 w2) := (((Chg.refl (fun y => y = M) w1).drew).trans hc2 (fun _ _ h => h))
  have HC : Hid (Chg O w w2) := ((Chg.of_up (C := O) HU.out).trans hc1 (fun y _ e => H4.out y (e.elim (fun e => .inr (.inl e)) (fun e => .inr (.inr (.inr (.inr e))))))).trans C2.out (fun y _ e => H4.out y (.inr (.inr (.inr (.inl e)))))
  have M2 := hide hm2
  clear hm2 hc2 hf1 c2
  go_wp2_with fail
  go_region
  all_goals
    have E1 := hide (D1.out.remap M2.out C2.out)
    have E2 := hide (D2.out.chg C2.out D1.out.SM (fun y hy e => D1.out.apart y hy (.inr (.inr (.inl e)))))
    have hMn : ¬ w.heap.size = M := by omega
    replace b0 := C2.out.cell b0 hMn
    replace b1 := C2.out.cell b1 hMn
    replace b2 := C2.out.cell b2 hMn
    have V2 := hide (HV.out.chg HC.out (fun y h1 h2 => h1 h2)).1
    clear hrun c1 hW
    go_wp2_with fail
    go_at_call 41
    refine (write_calls p S n s c k wr x ver a m w2 hn2 hsn E1.out.pS E1.out.c0 E1.out.c4 E1.out.fs (E1.out.free.frozen 4) E1.out.room hwr V2.out HS.out).mono ?_
    rintro _ w4 ⟨rfl, w3, a', hu3, hn3, e4⟩
    obtain ⟨G1, G2, G3, G4⟩ := wrote E1.out E2.out hsn hu3 hn3 e4
    have HG1 := hide G1
    have HG2 := hide G2
    have HG3 := hide G3
    have HG4 := hide G4
    clear G1 G2 G3 G4 hu3 hn3 e4 b0 b1 b2
    go_wp2
    go_ret
    have hsz : w.heap.size ≤ w2.heap.size := HC.out.size
    have hsl : (s : Int) ∈ xs := by rw [HX.out, List.getD_eq_getElem?_getD, List.getElem?_eq_getElem HL.out]; exact List.getElem_mem _
    refine ⟨rfl, fun y => (V y ∨ (w2.heap.size ≤ y ∧ y < w4.heap.size)) ∨ core p S M b y, ⟨fun y hy => HG1.out.lt y hy, _, S, M, b, _, _, HG1.out, fun y s' hy => ?_, H3.out.place (ver := ver) (m := m) HL.out HX.out hx hx1 hx2 hl1 hl2, fun y hy => hy⟩, HC.out.trans HG4.out (fun y _ e => H4.out y (e.elim (fun e => .inr (.inl e)) (fun e => .inr (.inr (.inl e))))), fun y hy => ?_⟩
    · by_cases e : y = x
      · subst e
        rw [upd_same] at hy
        cases hy
        exact ⟨(ver, m), upd_same _ _ _, HS.out, HG3.out⟩
      · rw [upd_other _ _ e] at hy
        rw [upd_other _ _ e]
        exact HG2.out y s' hy (fun q => by subst q; exact (H3.out.slots y s' hy).2 hsl)
    · rcases hy with (hy | hy) | hy
      · exact .inl (H4.out y (.inl hy))
      · exact .inr (by omega)
      · exact .inl (H4.out y (.inr hy))

end Go.Proofs.Ytaodekbpjkcpeaa
