/-
  RowCopies, walked.
-/
import Derived.Test.YtaodekbpjkcpeaaRowLen
import Derived.Test.YtaodekbpjkcpeaaValHelp
import Derived.Test.YtaodekbpjkcpeaaOwnApp
namespace Go.Proofs.Ytaodekbpjkcpeaa
open Go.ChangeShapes Go.WideShapes Go.ChangeAt Go.RowKit
set_option linter.unusedVariables false
attribute [local go_sem ↓] Go.wp_at_zero Go.wp_at_succ
attribute [local go_sem] run_store_float

/-- A value is written over: four cells. -/
def set4 (w : World) (g o : Nat) (k : Int) : World := (((w.setCell ⟨g, o, none⟩ (.int .i64 k)).setCell ⟨g, o + 1, none⟩ (.int .i64 0)).setCell ⟨g, o + 2, none⟩ (.string ⟨#[]⟩)).setCell ⟨g, o + 3, none⟩ (.float .f64 0)
theorem chg_s4 (w : World) (g o : Nat) (k : Int) : Chg (fun y => y = g) w (set4 w g o k) :=
  ((((Chg.refl _ w).set (C := fun y => y = g) (p := ⟨g, o, none⟩) (fun _ => rfl) _).set (p := ⟨g, o + 1, none⟩) (fun _ => rfl) _).set (p := ⟨g, o + 2, none⟩) (fun _ => rfl) _).set (p := ⟨g, o + 3, none⟩) (fun _ => rfl) _
/-- What Copy tells, where there is something: a row in a new block that may be written into. -/
theorem copied_new {w : World} {base n : Nat} {v : Value} {l : List VT} (h : w.ownsRow base 33 4 v n (flat l)) (hl : l.length = n) (hf : ∀ i, Fits (l.getD i zeroT)) (h0 : 0 < n) : ∃ g cap, v = .slice (some ⟨g, 0, none⟩) n cap ∧ n ≤ cap ∧ NewRow base w (some ⟨g, 0, none⟩) n l := by
  have h' := h
  rcases h.2 with ⟨rfl, hn⟩ | ⟨g, cap, cur, rfl, hb, hg, h1, _⟩
  · omega
  · have hlt := (World.ownsRow.lt h g rfl).2
    refine ⟨g, cap, rfl, h1, ⟨hl, hf, .inr ⟨g, 0, rfl, fun i hi => ?_⟩⟩, .inr ⟨g, rfl, hb, hlt, fun i => World.ownsRow.frozenAt h' i⟩⟩
    have hc : ∀ j, j < 4 → w.cell? ⟨g, 0 + i * 4 + j, none⟩ = (flat l)[i * 4 + j]? := fun j hj => by
      rw [show 0 + i * 4 + j = i * 4 + j by omega]
      exact World.ownsRow.cellAt h' (i * 4 + j) (by omega)
    have hfl : ∀ j, j < 4 → (flat l)[i * 4 + j]? = (cellsT (l.getD i zeroT))[j]? := fun j hj => flat_get l i j (by omega) hj
    refine ⟨?_, ?_, ?_, ?_⟩
    · have := (hc 0 (by omega)).trans (hfl 0 (by omega)); simpa [cellsT] using this
    · have := (hc 1 (by omega)).trans (hfl 1 (by omega)); simpa [cellsT] using this
    · have := (hc 2 (by omega)).trans (hfl 2 (by omega)); simpa [cellsT] using this
    · have := (hc 3 (by omega)).trans (hfl 3 (by omega)); simpa [cellsT] using this

/-- A row that may be written into: its cells. -/
theorem NewRow.cells {B n : Nat} {w : World} {a : Option Addr} {m : List VT} (h : NewRow B w a n m) (h0 : 0 < n) : ∃ G, a = some ⟨G, 0, none⟩ ∧ B ≤ G ∧ G < w.heap.size ∧ (∀ o, w.frozen? ⟨G, o, none⟩ = false) ∧ ∀ i, i < n → ∃ u0 u1 u2 u3, w.cell? ⟨G, i * 4, none⟩ = some u0 ∧ w.cell? ⟨G, i * 4 + 1, none⟩ = some u1 ∧ w.cell? ⟨G, i * 4 + 2, none⟩ = some u2 ∧ w.cell? ⟨G, i * 4 + 3, none⟩ = some u3 := by
  rcases h.2 with h1 | ⟨G, rfl, h1, h2, h3⟩
  · omega
  · refine ⟨G, rfl, h1, h2, h3, fun i hi => ?_⟩
    rcases h.1.2.2 with h4 | ⟨b, off, e, hx⟩
    · omega
    · cases e
      obtain ⟨q0, q1, q2, q3⟩ := hx i hi
      rw [Nat.zero_add] at q0 q1 q2 q3
      exact ⟨_, _, _, _, q0, q1, q2, q3⟩
/-- The one row. -/
def one1 (l : List VT) (v : Int) : Int → Option RD := upd (fun _ => none) 1 (some (v, l))
theorem one1_at (l : List VT) (v : Int) : one1 l v 1 = some (v, l) := upd_same _ _ _
theorem one1_other (l : List VT) (v x : Int) (h : x ≠ 1) : one1 l v x = none := upd_other _ _ h
theorem one1_upd (l : List VT) (v v' : Int) : upd (one1 l v) 1 (some (v', l)) = one1 l v' := by
  funext x
  by_cases e : x = 1
  · subst e; rw [upd_same, one1_at]
  · rw [upd_other _ _ e, one1_other _ _ _ e, one1_other _ _ _ e]
/-- With one row there is nothing to sort. -/
theorem sorts_one (p : Nat) (w : World) (l : List VT) (v : Int) : SortsAt p w (one1 l v) := by
  intro V S M b f xs n next lim wr cnt h1 h2 h3 idOf hid w0 w1 u ks hu0 hu1 hk ho
  refine sort_one p idOf w1 w0.heap.size u _ ?_ ho
  have hm : ∀ x ∈ ks, x = 1 := fun x hx => by
    have hs := (hk.2.1 x).1 hx
    by_cases e : x = 1
    · exact e
    · have := (h3.non x).2 (one1_other l v x e)
      rw [this] at hs
      cases hs
  rw [show (slotsOf f ks).length = ks.length by simp [slotsOf]]
  match ks, hm, hk.1 with
  | [], _, _ => simp
  | [_], _, _ => simp
  | x :: y :: t, hm, hnd =>
    have e1 := hm x (List.mem_cons_self ..)
    have e2 := hm y (List.mem_cons_of_mem _ (List.mem_cons_self ..))
    rw [List.nodup_cons] at hnd
    exact absurd (by rw [e1, e2]; exact List.mem_cons_self ..) hnd.1
theorem keys_one {ks : List Int} {l : List VT} {v : Int} (h1 : ks.Pairwise (· < ·)) (h2 : ∀ x, x ∈ ks ↔ (one1 l v x).isSome = true) : ks = [1] := by
  have hm : ∀ x ∈ ks, x = 1 := fun x hx => by
    by_cases e : x = 1
    · exact e
    · have := (h2 x).1 hx
      rw [one1_other l v x e] at this
      cases this
  have h0 : (1 : Int) ∈ ks := (h2 1).2 (by rw [one1_at]; rfl)
  match ks, hm, h1, h0 with
  | [], _, _, h => simp at h
  | [x], hm, _, _ => rw [hm x (by simp)]
  | x :: y :: t, hm, h1, _ =>
    have e1 := hm x (List.mem_cons_self ..)
    have e2 := hm y (List.mem_cons_of_mem _ (List.mem_cons_self ..))
    rw [List.pairwise_cons] at h1
    have := h1.1 y (List.mem_cons_self ..)
    omega

theorem rows_one {B : Nat} {w : World} {v : Value} {l : List VT} {ver : Int} {n : Nat} (hl : l.length = n) (h0 : 0 < n) (h : RowsAt B w v [1] (one1 l ver)) : ∃ g cap G, v = .slice (some ⟨g, 0, none⟩) 1 cap ∧ 1 ≤ cap ∧ w.cell? ⟨g, 2, none⟩ = some (.slice (some ⟨G, 0, none⟩) n n) ∧ NewRow B w (some ⟨G, 0, none⟩) n l ∧ ¬ G = g := by
  obtain ⟨rts, h1, h2, h3⟩ := h
  obtain ⟨d, q1, a, q2, q3, q4⟩ := h3 0 (by decide)
  simp only [List.getD_cons_zero] at q1 q2
  rw [one1_at] at q1
  cases q1
  dsimp only at q2 q3 q4
  rw [hl] at q2 q3 q4
  obtain ⟨r, rfl⟩ : ∃ r, rts = [r] := by
    match rts, h2 with
    | [r], _ => exact ⟨r, rfl⟩
  simp only [List.getD_cons_zero] at q2
  subst q2
  have h1' := h1
  rcases h1.2 with ⟨_, hn⟩ | ⟨g, cap, cur, rfl, hb, hg, hc, _⟩
  · simp at hn
  · obtain ⟨G, rfl, _, _, _, _⟩ := q3.cells h0
    refine ⟨g, cap, G, rfl, hc, ?_, q3, fun e => q4 h0 G rfl (by rw [e]; rfl)⟩
    rw [World.ownsRow.cellAt h1' 2 (by simp)]
    rfl

set_option maxRecDepth 20000 in
set_option maxHeartbeats 16000000 in
theorem rowCopies_all (a0 : Option Addr) (len0 cap0 : Nat) (l0 : List VT) (b : Nat) (w : World) (hl : len0 ≤ maxLen) (hb : b < 256) (hv : Vals w a0 len0 l0) : Calls Try.prog 3 #[.slice a0 len0 cap0, .int .u8 b] w fun e w' => e = .returned (.bool true) ∧ Up w w' := by
  have HV := hide hv
  have hlen : l0.length = len0 := hv.1
  clear hv
  by_cases hfew : fewB l0 8 = true
  · by_cases hz : len0 = 0
    · have t2 : ((len0 : Int) == 0) = true := by rw [hz]; rfl
      have HF := hide hfew
      clear hfew hz hlen
      go_enter Try.func3, Try.ntmps3
      go_wp2_with fail
      go_at_call 8
      refine (known_calls _).mono ?_
      rintro _ w1 ⟨rfl, hu1⟩
      have HU := hide hu1
      clear hu1
      go_wp2_with fail
      go_at_call 9
      refine (few_calls a0 len0 cap0 l0 8 w1 hl (HV.out.up HU.out)).mono ?_
      rintro _ w9 ⟨rfl, hw9⟩
      obtain rfl : w1 = w9 := hw9.symm
      rw [HF.out]
      go_wp2
      go_ret
      exact ⟨rfl, HU.out⟩
    · have t2 : ((len0 : Int) == 0) = false := by rw [beq_eq_false_iff_ne]; omega
      have hn0 : ¬ (len0 : Int) = 0 := by omega
      have hsm : Small l0 := by
        unfold fewB at hfew
        rw [Bool.and_eq_true] at hfew
        exact ⟨by have := of_decide_eq_true hfew.2; omega, shortB_get hfew.1⟩
      have hlen8 : len0 ≤ 12 := by rw [← hlen]; exact hsm.1
      have h0 : 0 < len0 := by omega
      have HF := hide hfew
      have HSM := hide hsm
      have HL := hide hlen
      have HFT := hide HV.out.2.1
      have ha0 : Hid (a0 = none → len0 = 0) := fun e => by
        rcases HV.out.2.2 with h | ⟨_, _, e', _⟩
        · exact h
        · rw [e] at e'; cases e'
      clear hfew hsm hlen
      go_enter Try.func3, Try.ntmps3
      go_wp2_with fail
      go_at_call 8
      refine (known_calls _).mono ?_
      rintro _ w1 ⟨rfl, hu1⟩
      have HU := hide hu1
      clear hu1
      go_wp2_with fail
      go_at_call 9
      refine (few_calls a0 len0 cap0 l0 8 w1 hl (HV.out.up HU.out)).mono ?_
      rintro _ w9 ⟨rfl, hw9⟩
      obtain rfl : w1 = w9 := hw9.symm
      rw [HF.out]
      go_wp2_with fail
      go_at_call 10
      refine (new_calls 10 w1).mono ?_
      rintro _ w2 ⟨p, O, rfl, hp, hs2, hu2, ho2⟩
      replace hs2 : Hid (Sto p O w2 10 1 0 (fun _ => none) 0) := hs2
      have HO : Hid (∀ x, O x → w.heap.size ≤ x) := fun x hx => Nat.le_trans HU.out.size (ho2 x hx)
      replace HU := hide (HU.out.trans hu2)
      have hw2 : w.heap.size ≤ w2.heap.size := HU.out.size
      clear hu2 ho2 hp
      go_wp2_with fail
      go_at_call 11
      refine (copy_calls a0 len0 cap0 l0 w2 (by omega) (HV.out.up HU.out) ha0.out).mono ?_
      rintro _ w3 ⟨v3, rfl, hv3, hu3⟩
      obtain ⟨g3, cap3, rfl, hcap3, hn3⟩ := copied_new hv3 HL.out HFT.out h0
      have hs3 := hide (hs2.out.up hu3)
      have hO2 := hs2.out.olt
      have hvo := hide (hn3.valsO hO2)
      have N3 := hide hn3
      have HO2 := hide hO2
      replace HU := hide (HU.out.trans hu3)
      have hU23 := hide hu3
      clear hs2 hv3 hn3 hO2 hu3
      go_wp2_with fail
      go_at_call 12
      refine (insert_ok p 10 cap3 len0 0 O 1 0 (fun _ => none) (some ⟨g3, 0, none⟩) l0 w3 hs3.out (by decide) (by decide) (by decide) hvo.out HSM.out).mono ?_
      rintro _ w4 ⟨rfl, O4, hs4, hc4, ho4⟩
      replace hs4 : Sto p O4 w4 10 2 1 (one1 l0 1) 1 := hs4
      have n4 := N3.out.chg hc4 (fun x hx e => by have := HO2.out x e; omega)
      obtain ⟨_, e3, hg3, hg3w, _⟩ := N3.out.cells h0
      cases e3
      have hng3 : ¬ O4 g3 := fun e => (ho4 g3 e).elim (fun h => by have := HO2.out g3 h; omega) (fun h => by omega)
      have hO4 : ∀ x, O4 x → w.heap.size ≤ x := fun x hx => (ho4 x hx).elim (HO.out x) (fun h => Nat.le_trans HU.out.size h)
      have hu4 := HU.out.thenChg hc4 (fun x hx e => by have := HO.out x e; omega)
      obtain ⟨i, hi⟩ : ∃ i : Nat, i = b % len0 := ⟨_, rfl⟩
      have hil : i < len0 := by rw [hi]; exact Nat.mod_lt _ h0
      have ei : (b : Int) % len0 = i := by rw [hi]; simp
      clear hi
      obtain ⟨_, e4, _, hg4w, hf4, hc4x⟩ := n4.cells h0
      cases e4
      obtain ⟨u0, u1, u2, u3, x0, x1, x2, x3⟩ := hc4x i hil
      have y0 := hf4 (i * 4)
      have y1 := hf4 (i * 4 + 1)
      have y2 := hf4 (i * 4 + 2)
      have y3 := hf4 (i * 4 + 3)
      have hc5 : Chg (fun y => y = g3) w4 (set4 w4 g3 (i * 4) 50) := chg_s4 _ _ _ _
      have S5 := hide (hs4.chg hc5 (fun x hx (e : x = g3) => hng3 (e ▸ hx)))
      have U5 := hide (hu4.thenChg hc5 (fun x hx (e : x = g3) => by omega))
      have hsz5 := hide U5.out.size
      have HO5 := hide hO4
      clear hs4 hc4 ho4 N3 n4 hs3 hvo HO HO2 HU hU23 hc4x hf4 hc5 hu4 hO4 hng3
      go_wp2_with fail
      change Calls _ _ _ (set4 w4 g3 (i * 4) 50) _
      generalize set4 w4 g3 (i * 4) 50 = w5 at *
      clear x0 x1 x2 x3 y0 y1 y2 y3
      go_at_call 13
      have hget := get_some p 10 1 O4 2 1 1 (1, l0) (one1 l0 1) w5 S5.out (wf64_of (by decide) (by decide)) (one1_at _ _)
      dsimp only at hget
      rw [HL.out] at hget
      refine hget.mono ?_
      clear hget
      rintro _ w6 ⟨a6, rfl, hn6, hu6⟩
      obtain ⟨G6, rfl, hG6, _, _, _⟩ := hn6.cells h0
      have hu7 : Up w6 (w6.alloc (Obj.cells #[.int .i64 1, .int .i64 1, .slice (some ⟨G6, 0, none⟩) len0 len0] 35)) := (Up.refl _).alloc _
      have b2 : (w6.alloc (Obj.cells #[.int .i64 1, .int .i64 1, .slice (some ⟨G6, 0, none⟩) len0 len0] 35)).cell? ⟨w6.heap.size, 2, none⟩ = some (.slice (some ⟨G6, 0, none⟩) len0 len0) := by go_simp
      have hG6w : G6 < w6.heap.size := by obtain ⟨_, e, _, h, _⟩ := hn6.cells h0; cases e; exact h
      have N7 := hide (hn6.up hu7)
      have S7 := hide ((S5.out.up hu6).up hu7)
      have U7 := hide ((U5.out.trans hu6).trans hu7)
      have HO4 := hide S5.out.olt
      clear hn6 hu6 hu7 S5 U5
      generalize hW7 : w6.alloc (Obj.cells #[.int .i64 1, .int .i64 1, .slice (some ⟨G6, 0, none⟩) len0 len0] 35) = w7 at *
      go_wp2_with fail
      go_at_call 14
      refine (same_calls' (some ⟨G6, 0, none⟩) a0 len0 len0 cap0 l0 w7 hl N7.out.1 (HV.out.up U7.out)).mono ?_
      rintro _ w8 ⟨rfl, hu8⟩
      replace b2 := hu8.cell b2
      have n8 := N7.out.up hu8
      obtain ⟨_, e8, _, hG8, hf8, hc8⟩ := n8.cells h0
      cases e8
      obtain ⟨u0, u1, u2, u3, x0, x1, x2, x3⟩ := hc8 0 h0
      have y0 := hf8 0
      have y1 := hf8 1
      have y2 := hf8 2
      have y3 := hf8 3
      simp only [Nat.zero_mul, Nat.zero_add] at x0 x1 x2 x3
      have hc9 : Chg (fun y => y = G6) w8 (set4 w8 G6 0 51) := chg_s4 _ _ _ _
      have S9 := hide ((S7.out.up hu8).chg hc9 (fun x hx (e : x = G6) => by have := HO4.out x hx; omega))
      have U9 := hide ((U7.out.trans hu8).thenChg hc9 (fun x hx (e : x = G6) => by have := HO4.out; have hw5 : w.heap.size ≤ w5.heap.size := hsz5.out; omega))
      have hne : ¬ w6.heap.size = G6 := by omega
      clear hu8 n8 hc8 hf8 hc9 N7 S7 U7 hW7
      go_wp2_with fail
      change Calls _ _ _ (set4 w8 G6 0 51) _
      generalize set4 w8 G6 0 51 = w9' at *
      clear x0 x1 x2 x3 y0 y1 y2 y3 b2
      go_at_call 15
      refine (all_calls p 10 1 O4 2 1 (one1 l0 1) w9' S9.out (sorts_one _ _ _ _)).mono ?_
      rintro _ w10 ⟨v10, ks, rfl, hk1, hk2, hr10, hu10⟩
      obtain rfl := keys_one hk1 hk2
      obtain ⟨g10, cap10, G10, rfl, hcap10, b10, n10, hne10⟩ := rows_one HL.out h0 hr10
      have S10 := hide (S9.out.up hu10)
      have U10 := hide (U9.out.trans hu10)
      have HO9 := hide S9.out.olt
      have N10 := hide n10
      have hsz9 := hide U9.out.size
      clear hk1 hk2 hr10 hu10 n10 S9 U9
      go_wp2_with fail
      go_at_call 14
      refine (same_calls' (some ⟨G10, 0, none⟩) a0 len0 len0 cap0 l0 w10 hl N10.out.1 (HV.out.up U10.out)).mono ?_
      rintro _ w11 ⟨rfl, hu11⟩
      replace b10 := hu11.cell b10
      have n11 := N10.out.up hu11
      obtain ⟨_, e11, hGB, hG11, hf11, hc11⟩ := n11.cells h0
      cases e11
      obtain ⟨u0, u1, u2, u3, x0, x1, x2, x3⟩ := hc11 0 h0
      have y0 := hf11 0
      have y1 := hf11 1
      have y2 := hf11 2
      have y3 := hf11 3
      simp only [Nat.zero_mul, Nat.zero_add] at x0 x1 x2 x3
      have hc12 : Chg (fun y => y = G10) w11 (set4 w11 G10 0 52) := chg_s4 _ _ _ _
      have S12 := hide ((S10.out.up hu11).chg hc12 (fun x hx (e : x = G10) => by have := HO9.out x hx; omega))
      have U12 := hide ((U10.out.trans hu11).thenChg hc12 (fun x hx (e : x = G10) => by have := hsz9.out; omega))
      clear hu11 n11 hc11 hf11 hc12 N10 S10 U10
      go_wp2_with fail
      change Calls _ _ _ (set4 w11 G10 0 52) _
      generalize set4 w11 G10 0 52 = w12 at *
      clear x0 x1 x2 x3 y0 y1 y2 y3 b10
      go_at_call 11
      refine (copy_calls a0 len0 cap0 l0 w12 (by omega) (HV.out.up U12.out) ha0.out).mono ?_
      rintro _ w13 ⟨v13, rfl, hv13, hu13⟩
      obtain ⟨g13, cap13, rfl, hcap13, hn13⟩ := copied_new hv13 HL.out HFT.out h0
      have S13 := hide (S12.out.up hu13)
      have hO12 := hide S12.out.olt
      have V13 := hide (hn13.valsO S12.out.olt)
      have N13 := hide hn13
      have U13 := hide (U12.out.trans hu13)
      have hsz12 := hide U12.out.size
      clear S12 U12 hv13 hn13 hu13
      go_wp2_with fail
      go_at_call 16
      refine (replace_ok p 10 1 cap13 len0 O4 2 1 1 (1, l0) (one1 l0 1) (some ⟨g13, 0, none⟩) l0 w13 S13.out (wf64_of (by decide) (by decide)) (one1_at _ _) (by decide) V13.out HSM.out).mono ?_
      rintro _ w14 ⟨rfl, O14, hs14, hc14, ho14⟩
      have e14 : IntKind.i64.wrap ((1, l0).1 + 1) = 2 := by show IntKind.i64.wrap (1 + 1) = 2; decide
      rw [e14, one1_upd] at hs14
      replace hs14 : Sto p O14 w14 10 2 2 (one1 l0 2) 1 := hs14
      have n14 := N13.out.chg hc14 (fun x hx e => by have := hO12.out x e; omega)
      obtain ⟨_, e15, hg13, hg13w, _, _⟩ := N13.out.cells h0
      cases e15
      have hng : ¬ O14 g13 := fun e => (ho14 g13 e).elim (fun h => by have := hO12.out g13 h; omega) (fun h => by omega)
      have hu14 := U13.out.thenChg hc14 (fun x hx e => by have := HO5.out x e; omega)
      obtain ⟨_, e16, _, _, hf14, hc14x⟩ := n14.cells h0
      cases e16
      obtain ⟨u0, u1, u2, u3, x0, x1, x2, x3⟩ := hc14x 0 h0
      have y0 := hf14 0
      have y1 := hf14 1
      have y2 := hf14 2
      have y3 := hf14 3
      simp only [Nat.zero_mul, Nat.zero_add] at x0 x1 x2 x3
      have hc15 : Chg (fun y => y = g13) w14 (set4 w14 g13 0 53) := chg_s4 _ _ _ _
      have S15 := hide (hs14.chg hc15 (fun x hx (e : x = g13) => hng (e ▸ hx)))
      have U15 := hide (hu14.thenChg hc15 (fun x hx (e : x = g13) => by have := hsz12.out; omega))
      clear hs14 hc14 ho14 n14 hc14x hf14 hc15 hu14 S13 V13 N13 U13 hng
      go_wp2_with fail
      change Calls _ _ _ (set4 w14 g13 0 53) _
      generalize set4 w14 g13 0 53 = w15 at *
      clear x0 x1 x2 x3 y0 y1 y2 y3
      go_at_call 13
      have hget := get_some p 10 1 O14 2 2 1 (2, l0) (one1 l0 2) w15 S15.out (wf64_of (by decide) (by decide)) (one1_at _ _)
      dsimp only at hget
      rw [HL.out] at hget
      refine hget.mono ?_
      clear hget
      rintro _ w16 ⟨a16, rfl, hn16, hu16⟩
      have hu17 : Up w16 (w16.alloc (Obj.cells #[.int .i64 1, .int .i64 2, .slice a16 len0 len0] 35)) := (Up.refl _).alloc _
      have b17 : (w16.alloc (Obj.cells #[.int .i64 1, .int .i64 2, .slice a16 len0 len0] 35)).cell? ⟨w16.heap.size, 2, none⟩ = some (.slice a16 len0 len0) := by go_simp
      have b18 : (w16.alloc (Obj.cells #[.int .i64 1, .int .i64 2, .slice a16 len0 len0] 35)).cell? ⟨w16.heap.size, 1, none⟩ = some (.int .i64 2) := by go_simp
      have N17 := hide (hn16.up hu17)
      have U17 := hide ((U15.out.trans hu16).trans hu17)
      clear hn16 hu16 hu17 S15 U15
      generalize hW17 : w16.alloc (Obj.cells #[.int .i64 1, .int .i64 2, .slice a16 len0 len0] 35) = w17 at *
      go_wp2_with fail
      go_at_call 14
      refine (same_calls' a16 a0 len0 len0 cap0 l0 w17 hl N17.out.1 (HV.out.up U17.out)).mono ?_
      rintro _ w18 ⟨rfl, hu18⟩
      have U18 := hide (U17.out.trans hu18)
      clear hu18 N17 U17 b17 b18 hW17
      go_wp2
      go_ret
      exact ⟨rfl, U18.out⟩
  · have HF : Hid (fewB l0 8 = false) := by show _ = _; cases h : fewB l0 8 <;> simp_all
    clear hfew hlen
    go_enter Try.func3, Try.ntmps3
    go_wp2_with fail
    go_at_call 8
    refine (known_calls _).mono ?_
    rintro _ w1 ⟨rfl, hu1⟩
    have HU := hide hu1
    clear hu1
    go_wp2_with fail
    go_at_call 9
    refine (few_calls a0 len0 cap0 l0 8 w1 hl (HV.out.up HU.out)).mono ?_
    rintro _ w9 ⟨rfl, hw9⟩
    obtain rfl : w1 = w9 := hw9.symm
    rw [HF.out]
    go_wp2
    go_ret
    exact ⟨rfl, HU.out⟩

end Go.Proofs.Ytaodekbpjkcpeaa
