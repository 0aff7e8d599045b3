/-
  RowNumbers, walked.
-/
import Derived.Test.YtaodekbpjkcpeaaRowKnw
import Derived.Test.YtaodekbpjkcpeaaBytes
namespace Go.Proofs.Ytaodekbpjkcpeaa
open Go.ChangeShapes Go.WideShapes Go.ChangeAt Go.RowKit
set_option linter.unusedVariables false
attribute [local go_sem ↓] Go.wp_at_zero Go.wp_at_succ
attribute [local go_sem] run_store_float

/-- The law's two arrays: which rows are there, and their versions. -/
structure Arr (T U : Nat) (w : World) (R : Int → Option RD) : Prop where
  there : ∀ i : Nat, i < 130 → w.cell? ⟨T, i, none⟩ = some (.bool (R i).isSome)
  vers : ∀ i : Nat, i < 130 → ∃ v, w.cell? ⟨U, i, none⟩ = some (.int .i64 v) ∧ ∀ d, R i = some d → v = d.1
  fT : ∀ o, w.frozen? ⟨T, o, none⟩ = false
  fU : ∀ o, w.frozen? ⟨U, o, none⟩ = false
  lT : T < w.heap.size
  lU : U < w.heap.size
  ne : ¬ T = U
theorem Arr.chg {T U : Nat} {w w' : World} {R : Int → Option RD} {C : Nat → Prop} (h : Arr T U w R) (hc : Chg C w w') (hT : ¬ C T) (hU : ¬ C U) : Arr T U w' R :=
  ⟨fun i hi => hc.cell (h.there i hi) hT, fun i hi => by obtain ⟨v, h1, h2⟩ := h.vers i hi; exact ⟨v, hc.cell h1 hU, h2⟩, fun o => (hc.frozen (p := ⟨T, o, none⟩) h.lT hT).trans (h.fT o), fun o => (hc.frozen (p := ⟨U, o, none⟩) h.lU hU).trans (h.fU o), Nat.lt_of_lt_of_le h.lT hc.size, Nat.lt_of_lt_of_le h.lU hc.size, h.ne⟩
theorem Arr.up {T U : Nat} {w w' : World} {R : Int → Option RD} (h : Arr T U w R) (hu : Up w w') : Arr T U w' R := h.chg (Chg.of_up (C := fun _ => False) hu) (fun h => h) (fun h => h)
/-- A row's place in the arrays is written. -/
theorem Arr.setT {T U : Nat} {w : World} {R R' : Int → Option RD} (h : Arr T U w R) (x : Nat) (b : Bool) (hb : b = (R' x).isSome) (ho : ∀ i : Nat, i ≠ x → R' i = R i) (hv : ∀ d, R' x = some d → ∃ d', R x = some d' ∧ d.1 = d'.1) : Arr T U (w.setCell ⟨T, x, none⟩ (.bool b)) R' := by
  refine ⟨fun i hi => ?_, fun i hi => ?_, fun o => by rw [World.frozen?_setCell]; exact h.fT o, fun o => by rw [World.frozen?_setCell]; exact h.fU o, by simpa using h.lT, by simpa using h.lU, h.ne⟩
  · by_cases e : i = x
    · subst e
      rw [← hb]
      exact World.cell?_setCell_same _ _ _ (h.there i hi)
    · rw [World.cell?_setCell_other _ _ _ _ (addr_ne (fun q => e q.symm)), ho i e]
      exact h.there i hi
  · obtain ⟨v, h1, h2⟩ := h.vers i hi
    refine ⟨v, by rw [World.cell?_setCell_other _ _ _ _ (by intro q; exact h.ne (congrArg Addr.block q))]; exact h1, fun d hd => ?_⟩
    by_cases e : i = x
    · subst e
      obtain ⟨d', q1, q2⟩ := hv d hd
      rw [q2]
      exact h2 d' q1
    · rw [ho i e] at hd
      exact h2 d hd
theorem Arr.setU {T U : Nat} {w : World} {R R' : Int → Option RD} (h : Arr T U w R) (x : Nat) (v : Int) (hb : (R' x).isSome = (R x).isSome) (ho : ∀ i : Nat, i ≠ x → R' i = R i) (hv : ∀ d, R' x = some d → v = d.1) : Arr T U (w.setCell ⟨U, x, none⟩ (.int .i64 v)) R' := by
  refine ⟨fun i hi => ?_, fun i hi => ?_, fun o => by rw [World.frozen?_setCell]; exact h.fT o, fun o => by rw [World.frozen?_setCell]; exact h.fU o, by simpa using h.lT, by simpa using h.lU, h.ne⟩
  · rw [World.cell?_setCell_other _ _ _ _ (by intro q; exact h.ne (congrArg Addr.block q).symm), h.there i hi]
    by_cases e : i = x
    · subst e; rw [hb]
    · rw [ho i e]
  · obtain ⟨u, h1, h2⟩ := h.vers i hi
    by_cases e : i = x
    · subst e
      exact ⟨v, World.cell?_setCell_same _ _ _ h1, hv⟩
    · refine ⟨u, by rw [World.cell?_setCell_other _ _ _ _ (addr_ne (fun q => e q.symm))]; exact h1, fun d hd => ?_⟩
      rw [ho i e] at hd
      exact h2 d hd

/-- A row has come: both of its places are written. -/
theorem Arr.setBoth {T U : Nat} {w : World} {R : Int → Option RD} (h : Arr T U w R) (x : Nat) (m : List VT) (hx : x < 130) : Arr T U ((w.setCell ⟨T, x, none⟩ (.bool true)).setCell ⟨U, x, none⟩ (.int .i64 1)) (upd R x (some (1, m))) := by
  have hTU := h.ne
  have hn1 : ∀ i j, (⟨U, i, none⟩ : Addr) ≠ ⟨T, j, none⟩ := fun i j q => hTU (congrArg Addr.block q).symm
  have hn2 : ∀ i j, (⟨T, i, none⟩ : Addr) ≠ ⟨U, j, none⟩ := fun i j q => hTU (congrArg Addr.block q)
  refine ⟨fun i hi => ?_, fun i hi => ?_, fun o => by rw [World.frozen?_setCell, World.frozen?_setCell]; exact h.fT o, fun o => by rw [World.frozen?_setCell, World.frozen?_setCell]; exact h.fU o, by simpa using h.lT, by simpa using h.lU, h.ne⟩
  · rw [World.cell?_setCell_other _ _ _ _ (hn1 _ _)]
    by_cases e : i = x
    · subst e
      rw [upd_same]
      exact World.cell?_setCell_same _ _ _ (h.there i hi)
    · rw [World.cell?_setCell_other _ _ _ _ (addr_ne (fun q => e q.symm)), upd_other _ _ (by omega)]
      exact h.there i hi
  · obtain ⟨u, h1, h2⟩ := h.vers i hi
    by_cases e : i = x
    · subst e
      refine ⟨1, World.cell?_setCell_same _ _ _ ((World.cell?_setCell_other _ _ _ _ (hn2 _ _)).trans h1), fun d hd => ?_⟩
      rw [upd_same] at hd
      cases hd
      rfl
    · refine ⟨u, by rw [World.cell?_setCell_other _ _ _ _ (addr_ne (fun q => e q.symm)), World.cell?_setCell_other _ _ _ _ (hn2 _ _)]; exact h1, fun d hd => ?_⟩
      rw [upd_other _ _ (by omega)] at hd
      exact h2 d hd

/-- The store and the arrays, at a round's beginning. -/
structure NumR (p T U : Nat) (w wr : World) (R : Int → Option RD) (la : Nat) (wrt : Int) (cnt : Nat) : Prop where
  ex : ∃ O, Sto p O wr 60 (la + 1) wrt R cnt ∧ (∀ x, O x → w.heap.size ≤ x) ∧ ¬ O T ∧ ¬ O U
  up : Up w wr
  arr : Arr T U wr R
  bT : w.heap.size ≤ T
  bU : w.heap.size ≤ U
theorem NumR.up' {p T U : Nat} {w wr w' : World} {R : Int → Option RD} {la : Nat} {wrt : Int} {cnt : Nat} (h : NumR p T U w wr R la wrt cnt) (hu : Up wr w') : NumR p T U w w' R la wrt cnt := by
  obtain ⟨O, h1, h2, h3, h4⟩ := h.ex
  exact ⟨⟨O, h1.up hu, h2, h3, h4⟩, h.up.trans hu, h.arr.up hu, h.bT, h.bU⟩

theorem zeros63 : Try.zeroCells63 = Array.replicate 130 (.bool false) := by kernel_rfl
theorem zeros64 : Try.zeroCells64 = Array.replicate 130 (.int .i64 0) := by kernel_rfl
theorem cell_rep (w : World) (t : TypeId) (v : Value) (i : Nat) (hi : i < 130) : (w.alloc (Obj.cells (Array.replicate 130 v) t)).cell? ⟨w.heap.size, i, none⟩ = some v := by simp [hi]
theorem arr_new (w : World) (t u : TypeId) : Arr w.heap.size (w.heap.size + 1) ((w.alloc (Obj.cells Try.zeroCells63 t)).alloc (Obj.cells Try.zeroCells64 u)) (fun _ => none) := by
  rw [zeros63, zeros64]
  have h1 : ∀ i : Nat, i < 130 → _ := fun i hi => cell_rep w t (.bool false) i hi
  have h2 : ∀ i : Nat, i < 130 → _ := fun i hi => cell_rep (w.alloc (Obj.cells (Array.replicate 130 (.bool false)) t)) u (.int .i64 0) i hi
  have hs : (w.alloc (Obj.cells (Array.replicate 130 (.bool false)) t)).heap.size = w.heap.size + 1 := by simp
  refine ⟨fun i hi => ((Up.refl _).alloc _).cell (h1 i hi), fun i hi => ⟨0, ?_, fun d hd => (by cases hd)⟩, fun o => ?_, fun o => ?_, ?_, ?_, by omega⟩
  · have := h2 i hi
    rw [hs] at this
    exact this
  · refine (Up.frozen ((Up.refl _).alloc _) (p := ⟨w.heap.size, o, none⟩) (by simp)).trans ?_
    go_simp
  · have : ((w.alloc (Obj.cells (Array.replicate 130 (.bool false)) t)).alloc (Obj.cells (Array.replicate 130 (.int .i64 0)) u)).frozen? ⟨(w.alloc (Obj.cells (Array.replicate 130 (.bool false)) t)).heap.size, o, none⟩ = false := by go_simp
    rw [hs] at this
    exact this
  · simp; omega
  · simp

set_option maxRecDepth 20000 in
set_option maxHeartbeats 16000000 in
theorem rowNumbers_all (a0 : Option Addr) (len0 cap0 : Nat) (l0 : List UInt8) (w : World) (hl : len0 ≤ maxLen) (hcap : len0 ≤ cap0) (hB : Bts w a0 len0 l0) : Calls Try.prog 5 #[.slice a0 len0 cap0] w fun e w' => e = .returned (.bool true) ∧ Up w w' := by
  by_cases h1 : len0 > 120
  · have t1 : decide ((len0 : Int) > 120) = true := decide_eq_true (by omega)
    clear hB
    go_enter Try.func5, Try.ntmps5
    go_wp2_with fail
    go_at_call 8
    refine (known_calls _).mono ?_
    rintro _ w1 ⟨rfl, hu1⟩
    have HU := hide hu1
    clear hu1
    go_wp2
    go_ret
    exact ⟨rfl, HU.out⟩
  · have t1 : decide ((len0 : Int) > 120) = false := decide_eq_false (by omega)
    have HB := hide hB
    clear hB
    go_enter Try.func5, Try.ntmps5
    go_wp2_with fail
    go_at_call 8
    refine (known_calls _).mono ?_
    rintro _ w1 ⟨rfl, hu1⟩
    go_wp2_with fail
    go_at_call 10
    refine (new_calls 60 w1).mono ?_
    rintro _ w2 ⟨p, O, rfl, hp, hs2, hu2, ho2⟩
    go_wp2_with fail
    have ha := arr_new w2 63 64
    have hu3 : Up w2 ((w2.alloc (Obj.cells Try.zeroCells63 63)).alloc (Obj.cells Try.zeroCells64 64)) := ((Up.refl _).alloc _).alloc _
    have hr0 : Hid (NumR p w2.heap.size (w2.heap.size + 1) w ((w2.alloc (Obj.cells Try.zeroCells63 63)).alloc (Obj.cells Try.zeroCells64 64)) (fun _ => none) 0 0 0) :=
      ⟨⟨O, hs2.up hu3, fun x hx => Nat.le_trans hu1.size (ho2 x hx), fun e => by have := hs2.olt _ e; omega, fun e => by have := hs2.olt _ e; omega⟩, (hu1.trans hu2).trans hu3, ha, (hu1.trans hu2).size, Nat.le_trans (hu1.trans hu2).size (by omega)⟩
    clear ha hu3 hs2 hu2 ho2 hu1 hp
    generalize w2.heap.size + 1 = U at *
    generalize w2.heap.size = T at *
    generalize ((w2.alloc (Obj.cells Try.zeroCells63 63)).alloc (Obj.cells Try.zeroCells64 64)) = W3 at *
    go_loopw [6, 7] (fun u6 u7 wr => ∃ (i la cnt : Nat) (wrt : Int) (R : Int → Option RD), i ≤ len0 ∧ la ≤ i ∧ 0 ≤ wrt ∧ wrt ≤ i ∧ cnt ≤ 60 ∧ .int .i64 la = u6 ∧ .int .i64 i = u7 ∧ NumR p T U w wr R la wrt cnt) (fun _ u7 _ => len0 - (intOf u7).toNat)
    case atStart => exact ⟨0, 0, 0, 0, _, Nat.zero_le _, Nat.le_refl _, by decide, by decide, by decide, rfl, rfl, hr0.out⟩
    case round =>
      clear hr0
      obtain ⟨i, la, cnt, wrt, R, hi, hla, hw0, hw1, hcnt, rfl, rfl, hr⟩ := hrel
      by_cases hlt : i < len0
      · have t3 : decide ((i : Int) < len0) = true := decide_eq_true (by omega)
        obtain ⟨b, off, rfl, hcl⟩ : ∃ b off, a0 = some ⟨b, off, none⟩ ∧ w.cell? ⟨b, off + i, none⟩ = some (.int .u8 ((l0.getD i 0).toNat : Int)) := by
          rcases HB.out.2 with h | ⟨b, off, e, h⟩
          · omega
          · exact ⟨b, off, e, h i hlt⟩
        have hcl' := hr.up.cell hcl
        obtain ⟨c, hc⟩ : ∃ c : Nat, c = (l0.getD i 0).toNat := ⟨_, rfl⟩
        have hc256 : c < 256 := by rw [hc]; exact (l0.getD i 0).toNat_lt
        rw [← hc] at hcl'
        clear hc hcl
        obtain ⟨x, hx⟩ : ∃ x : Nat, x = c / 4 % (la + 1) + 1 := ⟨_, rfl⟩
        have hx1 : 1 ≤ x ∧ x ≤ la + 1 := by have := Nat.mod_lt (c / 4) (show la + 1 > 0 by omega); omega
        have ex : (c : Int) / 4 % ((la : Int) + 1) + 1 = x := by rw [hx]; simp
        have hla0 : ¬ (la : Int) + 1 = 0 := by omega
        have hlz : ((la : Int) + 1 == 0) = false := by rw [beq_eq_false_iff_ne]; exact hla0
        clear hx
        have HR := hide hr
        clear hr
        have ha := HR.out.arr
        obtain ⟨O, q1, q2, q3, q4⟩ := HR.out.ex
        have cT := ha.there x (by omega)
        have hwx : wf64 (x : Int) := wf64_of (by omega) (by omega)
        have HA := hide ha
        have Q1 := hide q1
        have Q2 := hide q2
        have Q3 := hide q3
        have Q4 := hide q4
        have hlT := ha.lT
        have x130 : (x : Int) < 130 := by omega
        clear ha q1 q2 q3 q4
        by_cases hq0 : c % 4 ≤ 1
        · by_cases hq1 : c % 4 = 0
          · have eq4 : (c : Int) % 4 = 0 := by omega
            clear hq1 hq0
            by_cases hfull : cnt = 60
            · subst hfull
              go_wp2_with fail
              go_at_call 32
              refine (num_calls i wr (by omega) (by omega)).mono ?_
              rintro _ w7 ⟨a7, rfl, hn7, hu7⟩
              have S7 := hide (Q1.out.up hu7)
              have HR7 := hide (HR.out.up' hu7)
              clear hu7 hn7
              go_wp2_with fail
              go_at_call 12
              refine (insert_full p 60 1 1 O (la + 1) wrt R a7 w7 S7.out).mono ?_
              rintro _ w8' ⟨rfl, hu8'⟩
              have S8 := hide (S7.out.up hu8')
              have HN := hide (HR7.out.up' hu8')
              clear S7 HR7 hu8'
              go_wp2_with fail
              go_at_call 28
              refine (slen_calls p 60 60 O (la + 1) wrt R w8' S8.out).mono ?_
              rintro _ w9 ⟨rfl, hw9⟩
              obtain rfl : w8' = w9 := hw9.symm
              clear hcl' Q1 Q2 Q3 Q4 HR S8 cT
              obtain ⟨O', s1, s2, s3, s4⟩ := HN.out.ex
              have S1 := hide s1
              clear s1 s2 s3 s4
              go_wp2_with fail
              go_at_call 13
              cases hG : (R) (x : Int) with
              | none =>
                refine (get_none p 60 (60) O' _ (wrt) x (R) _ S1.out hwx hG).mono ?_
                rintro _ w8 ⟨rfl, hu8⟩
                have HN8 := hide ((HN.out.up' hu8).up' ((Up.refl _).alloc (Obj.cells #[.int .i64 0, .int .i64 0, .slice none 0 0] 35)))
                have cT8 := HN8.out.arr.there x (by omega)
                rw [hG] at cT8
                simp only [Option.isSome_none] at cT8
                clear hu8 HN S1 hG
                go_wp2
                go_quiet (fail)
                go_wp2
                go_roundw
                case rel => exact ⟨i + 1, la, 60, wrt, _, by omega, by omega, by omega, by omega, by omega, rfl, by go_num, HN8.out.up' ((Up.refl _).drewN _)⟩
                case measure => simp [intOf]; omega
              | some d2 =>
                refine (get_some p 60 (60) O' _ (wrt) x d2 (R) _ S1.out hwx hG).mono ?_
                rintro _ w8 ⟨a8, rfl, hn8, hu8⟩
                have HN8 := hide ((HN.out.up' hu8).up' ((Up.refl _).alloc (Obj.cells #[.int .i64 x, .int .i64 d2.1, .slice a8 d2.2.length d2.2.length] 35)))
                have cT8 := HN8.out.arr.there x (by omega)
                rw [hG] at cT8
                simp only [Option.isSome_some] at cT8
                obtain ⟨v8, cU8, hv8⟩ := HN8.out.arr.vers x (by omega)
                obtain rfl := hv8 d2 hG
                have b0 : (w8.alloc (Obj.cells #[.int .i64 x, .int .i64 d2.1, .slice a8 d2.2.length d2.2.length] 35)).cell? ⟨w8.heap.size, 0, none⟩ = some (.int .i64 x) := by go_simp
                have b1 : (w8.alloc (Obj.cells #[.int .i64 x, .int .i64 d2.1, .slice a8 d2.2.length d2.2.length] 35)).cell? ⟨w8.heap.size, 1, none⟩ = some (.int .i64 d2.1) := by go_simp
                have e1 : ((x : Int) != (x : Int)) = false := by simp
                have e2 : (d2.1 != d2.1) = false := by simp
                clear hu8 HN S1 hG hn8
                generalize d2.2.length = k8 at *
                generalize d2.1 = ver8 at *
                go_wp2
                go_quiet (fail)
                go_wp2
                go_roundw
                case rel => exact ⟨i + 1, la, 60, wrt, _, by omega, by omega, by omega, by omega, by omega, rfl, by go_num, HN8.out.up' ((Up.refl _).drewN _)⟩
                case measure => simp [intOf]; omega

            · obtain ⟨la1, hla1⟩ : ∃ la1 : Nat, la1 = la + 1 := ⟨_, rfl⟩
              have e9 : ((la1 : Int) != (la : Int) + 1) = false := by rw [hla1]; simp
              have t9 : decide ((((cnt + 1 : Nat) : Int)) > 60) = false := decide_eq_false (by omega)
              have q9 := Q1.out
              rw [show (la : Int) + 1 = la1 by omega] at q9
              have S0 := hide q9
              have HL1 := hide hla1
              have hla130 : (la1 : Int) < 130 := by omega
              have hl1 : la1 < 130 := by omega
              clear q9 hla1
              go_wp2_with fail
              go_at_call 32
              refine (num_calls i wr (by omega) (by omega)).mono ?_
              rintro _ w7 ⟨a7, rfl, hn7, hu7⟩
              have S7 := hide (S0.out.up hu7)
              have V7 := hide (hn7.valsO S0.out.olt)
              have HU7 := hide hu7
              clear hu7 hn7
              go_wp2_with fail
              go_at_call 12
              refine (insert_ok p 60 1 1 cnt O la1 wrt R a7 [numV i] w7 S7.out (by omega) (by omega) (by omega) V7.out (small_num _)).mono ?_
              rintro _ w8' ⟨rfl, O8, hs8, hc8, ho8⟩
              have S8 := hide hs8
              have HC8 := hide ((Chg.of_up (C := O) HU7.out).trans hc8 (fun _ _ h => h))
              have HO8 := hide ho8
              clear S7 V7 hs8 hc8 ho8
              go_wp2_with fail
              go_at_call 28
              refine (slen_calls p 60 (cnt + 1) O8 _ _ _ w8' S8.out).mono ?_
              rintro _ w9 ⟨rfl, hw9⟩
              obtain rfl : w8' = w9 := hw9.symm
              have gT := HC8.out.cell (HA.out.there la1 hl1) Q3.out
              obtain ⟨v9, cU9, _⟩ := HA.out.vers la1 hl1
              have gU := HC8.out.cell cU9 Q4.out
              have hlU := HA.out.lU
              have fgT := (HC8.out.frozen (p := ⟨T, la1, none⟩) hlT Q3.out).trans (HA.out.fT la1)
              have fgU := (HC8.out.frozen (p := ⟨U, la1, none⟩) hlU Q4.out).trans (HA.out.fU la1)
              have hTU : ¬ T = U := HA.out.ne
              have hUT : ¬ U = T := fun e => hTU e.symm
              have HN : Hid (NumR p T U w ((w8'.setCell ⟨T, la1, none⟩ (.bool true)).setCell ⟨U, la1, none⟩ (.int .i64 1)) (upd R la1 (some (1, [numV i]))) la1 (wrt + 1) (cnt + 1)) := by
                have hsz7 := HU7.out.size
                have hnT : ¬ O8 T := fun e => (HO8.out T e).elim Q3.out (fun h => by omega)
                have hnU : ¬ O8 U := fun e => (HO8.out U e).elim Q4.out (fun h => by omega)
                have hct : Chg (fun y => y = T ∨ y = U) w8' ((w8'.setCell ⟨T, la1, none⟩ (.bool true)).setCell ⟨U, la1, none⟩ (.int .i64 1)) := ((Chg.refl _ w8').set (C := fun y => y = T ∨ y = U) (p := ⟨T, la1, none⟩) (fun _ => .inl rfl) _).set (p := ⟨U, la1, none⟩) (fun _ => .inr rfl) _
                obtain ⟨R1, hR1⟩ : ∃ R1 : Int → Option RD, R1 = upd R la1 (some (v9, [])) := ⟨_, rfl⟩
                have hnone : R la1 = none := S0.out.none_lim la1 (Int.le_refl _)
                have A1 : Arr T U w8' R := HA.out.chg HC8.out Q3.out Q4.out
                refine ⟨⟨O8, S8.out.chg hct (fun y hy e => e.elim (fun e => hnT (e ▸ hy)) (fun e => hnU (e ▸ hy))), fun y hy => (HO8.out y hy).elim (Q2.out y) (fun h => Nat.le_trans (HR.out.up.trans HU7.out).size h), hnT, hnU⟩, (HR.out.up.thenChg HC8.out (fun y hy e => by have := Q2.out y e; omega)).thenChg hct (fun y hy e => by have := HR.out.bT; have := HR.out.bU; rcases e with e | e <;> omega), ?_, HR.out.bT, HR.out.bU⟩
                exact A1.setBoth la1 _ hl1
              clear hcl' Q1 Q2 Q3 Q4 HR HA S0 S8 HC8 HO8 HU7 cT cU9
              obtain ⟨O', s1, s2, s3, s4⟩ := HN.out.ex
              have S1 := hide s1
              clear s1 s2 s3 s4
              go_wp2_with fail
              go_at_call 13
              cases hG : (upd R la1 (some (1, [numV i]))) (x : Int) with
              | none =>
                refine (get_none p 60 (cnt + 1) O' _ (wrt + 1) x (upd R la1 (some (1, [numV i]))) _ S1.out hwx hG).mono ?_
                rintro _ w8 ⟨rfl, hu8⟩
                have HN8 := hide ((HN.out.up' hu8).up' ((Up.refl _).alloc (Obj.cells #[.int .i64 0, .int .i64 0, .slice none 0 0] 35)))
                have cT8 := HN8.out.arr.there x (by omega)
                rw [hG] at cT8
                simp only [Option.isSome_none] at cT8
                clear hu8 HN S1 hG
                go_wp2
                go_quiet (fail)
                go_wp2
                go_roundw
                case rel => exact ⟨i + 1, la1, cnt + 1, wrt + 1, _, by have := HL1.out; omega, by have := HL1.out; omega, by have := HL1.out; omega, by have := HL1.out; omega, by have := HL1.out; omega, rfl, by go_num, HN8.out.up' ((Up.refl _).drewN _)⟩
                case measure => simp [intOf]; omega
              | some d2 =>
                refine (get_some p 60 (cnt + 1) O' _ (wrt + 1) x d2 (upd R la1 (some (1, [numV i]))) _ S1.out hwx hG).mono ?_
                rintro _ w8 ⟨a8, rfl, hn8, hu8⟩
                have HN8 := hide ((HN.out.up' hu8).up' ((Up.refl _).alloc (Obj.cells #[.int .i64 x, .int .i64 d2.1, .slice a8 d2.2.length d2.2.length] 35)))
                have cT8 := HN8.out.arr.there x (by omega)
                rw [hG] at cT8
                simp only [Option.isSome_some] at cT8
                obtain ⟨v8, cU8, hv8⟩ := HN8.out.arr.vers x (by omega)
                obtain rfl := hv8 d2 hG
                have b0 : (w8.alloc (Obj.cells #[.int .i64 x, .int .i64 d2.1, .slice a8 d2.2.length d2.2.length] 35)).cell? ⟨w8.heap.size, 0, none⟩ = some (.int .i64 x) := by go_simp
                have b1 : (w8.alloc (Obj.cells #[.int .i64 x, .int .i64 d2.1, .slice a8 d2.2.length d2.2.length] 35)).cell? ⟨w8.heap.size, 1, none⟩ = some (.int .i64 d2.1) := by go_simp
                have e1 : ((x : Int) != (x : Int)) = false := by simp
                have e2 : (d2.1 != d2.1) = false := by simp
                clear hu8 HN S1 hG hn8
                generalize d2.2.length = k8 at *
                generalize d2.1 = ver8 at *
                go_wp2
                go_quiet (fail)
                go_wp2
                go_roundw
                case rel => exact ⟨i + 1, la1, cnt + 1, wrt + 1, _, by have := HL1.out; omega, by have := HL1.out; omega, by have := HL1.out; omega, by have := HL1.out; omega, by have := HL1.out; omega, rfl, by go_num, HN8.out.up' ((Up.refl _).drewN _)⟩
                case measure => simp [intOf]; omega


          · have eq4 : (c : Int) % 4 = 1 := by omega
            clear hq1 hq0
            by_cases hfull : cnt = 60
            · subst hfull
              go_wp2_with fail
              go_at_call 32
              refine (num_calls i wr (by omega) (by omega)).mono ?_
              rintro _ w7 ⟨a7, rfl, hn7, hu7⟩
              have S7 := hide (Q1.out.up hu7)
              have HR7 := hide (HR.out.up' hu7)
              clear hu7 hn7
              go_wp2_with fail
              go_at_call 12
              refine (insert_full p 60 1 1 O (la + 1) wrt R a7 w7 S7.out).mono ?_
              rintro _ w8' ⟨rfl, hu8'⟩
              have S8 := hide (S7.out.up hu8')
              have HN := hide (HR7.out.up' hu8')
              clear S7 HR7 hu8'
              go_wp2_with fail
              go_at_call 28
              refine (slen_calls p 60 60 O (la + 1) wrt R w8' S8.out).mono ?_
              rintro _ w9 ⟨rfl, hw9⟩
              obtain rfl : w8' = w9 := hw9.symm
              clear hcl' Q1 Q2 Q3 Q4 HR S8 cT
              obtain ⟨O', s1, s2, s3, s4⟩ := HN.out.ex
              have S1 := hide s1
              clear s1 s2 s3 s4
              go_wp2_with fail
              go_at_call 13
              cases hG : (R) (x : Int) with
              | none =>
                refine (get_none p 60 (60) O' _ (wrt) x (R) _ S1.out hwx hG).mono ?_
                rintro _ w8 ⟨rfl, hu8⟩
                have HN8 := hide ((HN.out.up' hu8).up' ((Up.refl _).alloc (Obj.cells #[.int .i64 0, .int .i64 0, .slice none 0 0] 35)))
                have cT8 := HN8.out.arr.there x (by omega)
                rw [hG] at cT8
                simp only [Option.isSome_none] at cT8
                clear hu8 HN S1 hG
                go_wp2
                go_quiet (fail)
                go_wp2
                go_roundw
                case rel => exact ⟨i + 1, la, 60, wrt, _, by omega, by omega, by omega, by omega, by omega, rfl, by go_num, HN8.out.up' ((Up.refl _).drewN _)⟩
                case measure => simp [intOf]; omega
              | some d2 =>
                refine (get_some p 60 (60) O' _ (wrt) x d2 (R) _ S1.out hwx hG).mono ?_
                rintro _ w8 ⟨a8, rfl, hn8, hu8⟩
                have HN8 := hide ((HN.out.up' hu8).up' ((Up.refl _).alloc (Obj.cells #[.int .i64 x, .int .i64 d2.1, .slice a8 d2.2.length d2.2.length] 35)))
                have cT8 := HN8.out.arr.there x (by omega)
                rw [hG] at cT8
                simp only [Option.isSome_some] at cT8
                obtain ⟨v8, cU8, hv8⟩ := HN8.out.arr.vers x (by omega)
                obtain rfl := hv8 d2 hG
                have b0 : (w8.alloc (Obj.cells #[.int .i64 x, .int .i64 d2.1, .slice a8 d2.2.length d2.2.length] 35)).cell? ⟨w8.heap.size, 0, none⟩ = some (.int .i64 x) := by go_simp
                have b1 : (w8.alloc (Obj.cells #[.int .i64 x, .int .i64 d2.1, .slice a8 d2.2.length d2.2.length] 35)).cell? ⟨w8.heap.size, 1, none⟩ = some (.int .i64 d2.1) := by go_simp
                have e1 : ((x : Int) != (x : Int)) = false := by simp
                have e2 : (d2.1 != d2.1) = false := by simp
                clear hu8 HN S1 hG hn8
                generalize d2.2.length = k8 at *
                generalize d2.1 = ver8 at *
                go_wp2
                go_quiet (fail)
                go_wp2
                go_roundw
                case rel => exact ⟨i + 1, la, 60, wrt, _, by omega, by omega, by omega, by omega, by omega, rfl, by go_num, HN8.out.up' ((Up.refl _).drewN _)⟩
                case measure => simp [intOf]; omega

            · obtain ⟨la1, hla1⟩ : ∃ la1 : Nat, la1 = la + 1 := ⟨_, rfl⟩
              have e9 : ((la1 : Int) != (la : Int) + 1) = false := by rw [hla1]; simp
              have t9 : decide ((((cnt + 1 : Nat) : Int)) > 60) = false := decide_eq_false (by omega)
              have q9 := Q1.out
              rw [show (la : Int) + 1 = la1 by omega] at q9
              have S0 := hide q9
              have HL1 := hide hla1
              have hla130 : (la1 : Int) < 130 := by omega
              have hl1 : la1 < 130 := by omega
              clear q9 hla1
              go_wp2_with fail
              go_at_call 32
              refine (num_calls i wr (by omega) (by omega)).mono ?_
              rintro _ w7 ⟨a7, rfl, hn7, hu7⟩
              have S7 := hide (S0.out.up hu7)
              have V7 := hide (hn7.valsO S0.out.olt)
              have HU7 := hide hu7
              clear hu7 hn7
              go_wp2_with fail
              go_at_call 12
              refine (insert_ok p 60 1 1 cnt O la1 wrt R a7 [numV i] w7 S7.out (by omega) (by omega) (by omega) V7.out (small_num _)).mono ?_
              rintro _ w8' ⟨rfl, O8, hs8, hc8, ho8⟩
              have S8 := hide hs8
              have HC8 := hide ((Chg.of_up (C := O) HU7.out).trans hc8 (fun _ _ h => h))
              have HO8 := hide ho8
              clear S7 V7 hs8 hc8 ho8
              go_wp2_with fail
              go_at_call 28
              refine (slen_calls p 60 (cnt + 1) O8 _ _ _ w8' S8.out).mono ?_
              rintro _ w9 ⟨rfl, hw9⟩
              obtain rfl : w8' = w9 := hw9.symm
              have gT := HC8.out.cell (HA.out.there la1 hl1) Q3.out
              obtain ⟨v9, cU9, _⟩ := HA.out.vers la1 hl1
              have gU := HC8.out.cell cU9 Q4.out
              have hlU := HA.out.lU
              have fgT := (HC8.out.frozen (p := ⟨T, la1, none⟩) hlT Q3.out).trans (HA.out.fT la1)
              have fgU := (HC8.out.frozen (p := ⟨U, la1, none⟩) hlU Q4.out).trans (HA.out.fU la1)
              have hTU : ¬ T = U := HA.out.ne
              have hUT : ¬ U = T := fun e => hTU e.symm
              have HN : Hid (NumR p T U w ((w8'.setCell ⟨T, la1, none⟩ (.bool true)).setCell ⟨U, la1, none⟩ (.int .i64 1)) (upd R la1 (some (1, [numV i]))) la1 (wrt + 1) (cnt + 1)) := by
                have hsz7 := HU7.out.size
                have hnT : ¬ O8 T := fun e => (HO8.out T e).elim Q3.out (fun h => by omega)
                have hnU : ¬ O8 U := fun e => (HO8.out U e).elim Q4.out (fun h => by omega)
                have hct : Chg (fun y => y = T ∨ y = U) w8' ((w8'.setCell ⟨T, la1, none⟩ (.bool true)).setCell ⟨U, la1, none⟩ (.int .i64 1)) := ((Chg.refl _ w8').set (C := fun y => y = T ∨ y = U) (p := ⟨T, la1, none⟩) (fun _ => .inl rfl) _).set (p := ⟨U, la1, none⟩) (fun _ => .inr rfl) _
                obtain ⟨R1, hR1⟩ : ∃ R1 : Int → Option RD, R1 = upd R la1 (some (v9, [])) := ⟨_, rfl⟩
                have hnone : R la1 = none := S0.out.none_lim la1 (Int.le_refl _)
                have A1 : Arr T U w8' R := HA.out.chg HC8.out Q3.out Q4.out
                refine ⟨⟨O8, S8.out.chg hct (fun y hy e => e.elim (fun e => hnT (e ▸ hy)) (fun e => hnU (e ▸ hy))), fun y hy => (HO8.out y hy).elim (Q2.out y) (fun h => Nat.le_trans (HR.out.up.trans HU7.out).size h), hnT, hnU⟩, (HR.out.up.thenChg HC8.out (fun y hy e => by have := Q2.out y e; omega)).thenChg hct (fun y hy e => by have := HR.out.bT; have := HR.out.bU; rcases e with e | e <;> omega), ?_, HR.out.bT, HR.out.bU⟩
                exact A1.setBoth la1 _ hl1
              clear hcl' Q1 Q2 Q3 Q4 HR HA S0 S8 HC8 HO8 HU7 cT cU9
              obtain ⟨O', s1, s2, s3, s4⟩ := HN.out.ex
              have S1 := hide s1
              clear s1 s2 s3 s4
              go_wp2_with fail
              go_at_call 13
              cases hG : (upd R la1 (some (1, [numV i]))) (x : Int) with
              | none =>
                refine (get_none p 60 (cnt + 1) O' _ (wrt + 1) x (upd R la1 (some (1, [numV i]))) _ S1.out hwx hG).mono ?_
                rintro _ w8 ⟨rfl, hu8⟩
                have HN8 := hide ((HN.out.up' hu8).up' ((Up.refl _).alloc (Obj.cells #[.int .i64 0, .int .i64 0, .slice none 0 0] 35)))
                have cT8 := HN8.out.arr.there x (by omega)
                rw [hG] at cT8
                simp only [Option.isSome_none] at cT8
                clear hu8 HN S1 hG
                go_wp2
                go_quiet (fail)
                go_wp2
                go_roundw
                case rel => exact ⟨i + 1, la1, cnt + 1, wrt + 1, _, by have := HL1.out; omega, by have := HL1.out; omega, by have := HL1.out; omega, by have := HL1.out; omega, by have := HL1.out; omega, rfl, by go_num, HN8.out.up' ((Up.refl _).drewN _)⟩
                case measure => simp [intOf]; omega
              | some d2 =>
                refine (get_some p 60 (cnt + 1) O' _ (wrt + 1) x d2 (upd R la1 (some (1, [numV i]))) _ S1.out hwx hG).mono ?_
                rintro _ w8 ⟨a8, rfl, hn8, hu8⟩
                have HN8 := hide ((HN.out.up' hu8).up' ((Up.refl _).alloc (Obj.cells #[.int .i64 x, .int .i64 d2.1, .slice a8 d2.2.length d2.2.length] 35)))
                have cT8 := HN8.out.arr.there x (by omega)
                rw [hG] at cT8
                simp only [Option.isSome_some] at cT8
                obtain ⟨v8, cU8, hv8⟩ := HN8.out.arr.vers x (by omega)
                obtain rfl := hv8 d2 hG
                have b0 : (w8.alloc (Obj.cells #[.int .i64 x, .int .i64 d2.1, .slice a8 d2.2.length d2.2.length] 35)).cell? ⟨w8.heap.size, 0, none⟩ = some (.int .i64 x) := by go_simp
                have b1 : (w8.alloc (Obj.cells #[.int .i64 x, .int .i64 d2.1, .slice a8 d2.2.length d2.2.length] 35)).cell? ⟨w8.heap.size, 1, none⟩ = some (.int .i64 d2.1) := by go_simp
                have e1 : ((x : Int) != (x : Int)) = false := by simp
                have e2 : (d2.1 != d2.1) = false := by simp
                clear hu8 HN S1 hG hn8
                generalize d2.2.length = k8 at *
                generalize d2.1 = ver8 at *
                go_wp2
                go_quiet (fail)
                go_wp2
                go_roundw
                case rel => exact ⟨i + 1, la1, cnt + 1, wrt + 1, _, by have := HL1.out; omega, by have := HL1.out; omega, by have := HL1.out; omega, by have := HL1.out; omega, by have := HL1.out; omega, rfl, by go_num, HN8.out.up' ((Up.refl _).drewN _)⟩
                case measure => simp [intOf]; omega


        · by_cases hq2 : c % 4 = 2
          · have eq4 : (c : Int) % 4 = 2 := by omega
            clear hq2 hq0
            have hfT := HA.out.fT x
            cases hRx : R x with
            | none =>
              rw [hRx] at cT
              simp only [Option.isSome_none] at cT
              have HRX := hide hRx
              clear hRx
              go_wp2_with fail
              go_region_law (go_simp; go_at_call 21; refine (erase_none p 60 cnt O (la + 1) wrt x R _ Q1.out.drew hwx HRX.out).mono ?_; rintro _ w9 ⟨rfl, hw9⟩; obtain rfl := hw9; dsimp only)
              all_goals
                have hct : Chg (fun y => y = T) wr (wr.drew.setCell ⟨T, x, none⟩ (.bool false)) := (Chg.refl _ wr).drew.set (C := fun y => y = T) (p := ⟨T, x, none⟩) (fun _ => rfl) _
                have HN : Hid (NumR p T U w (wr.drew.setCell ⟨T, x, none⟩ (.bool false)) R la wrt cnt) := ⟨⟨O, Q1.out.chg hct (fun y hy (e : y = T) => Q3.out (e ▸ hy)), Q2.out, Q3.out, Q4.out⟩, HR.out.up.thenChg hct (fun y hy (e : y = T) => by have := HR.out.bT; omega), Arr.setT (R := R) (R' := R) (show Arr T U wr.drew R from HA.out.up (Up.refl _).drew) x false (by rw [HRX.out]; rfl) (fun _ _ => rfl) (fun d hd => by rw [HRX.out] at hd; cases hd), HR.out.bT, HR.out.bU⟩
                clear hct
                clear hcl' Q1 Q2 Q3 Q4 HR HRX
                obtain ⟨O', s1, s2, s3, s4⟩ := HN.out.ex
                have S1 := hide s1
                clear s1 s2 s3 s4
                go_wp2_with fail
                go_at_call 13
                cases hG : (R) (x : Int) with
                | none =>
                  refine (get_none p 60 (cnt) O' _ (wrt) x (R) _ S1.out hwx hG).mono ?_
                  rintro _ w8 ⟨rfl, hu8⟩
                  have HN8 := hide ((HN.out.up' hu8).up' ((Up.refl _).alloc (Obj.cells #[.int .i64 0, .int .i64 0, .slice none 0 0] 35)))
                  have cT8 := HN8.out.arr.there x (by omega)
                  rw [hG] at cT8
                  simp only [Option.isSome_none] at cT8
                  clear hu8 HN S1 hG
                  go_wp2
                  go_quiet (fail)
                  go_wp2
                  go_roundw
                  case rel => exact ⟨i + 1, la, cnt, wrt, _, by omega, by omega, by omega, by omega, by omega, rfl, by go_num, HN8.out.up' ((Up.refl _).drewN _)⟩
                  case measure => simp [intOf]; omega
                | some d2 =>
                  refine (get_some p 60 (cnt) O' _ (wrt) x d2 (R) _ S1.out hwx hG).mono ?_
                  rintro _ w8 ⟨a8, rfl, hn8, hu8⟩
                  have HN8 := hide ((HN.out.up' hu8).up' ((Up.refl _).alloc (Obj.cells #[.int .i64 x, .int .i64 d2.1, .slice a8 d2.2.length d2.2.length] 35)))
                  have cT8 := HN8.out.arr.there x (by omega)
                  rw [hG] at cT8
                  simp only [Option.isSome_some] at cT8
                  obtain ⟨v8, cU8, hv8⟩ := HN8.out.arr.vers x (by omega)
                  obtain rfl := hv8 d2 hG
                  have b0 : (w8.alloc (Obj.cells #[.int .i64 x, .int .i64 d2.1, .slice a8 d2.2.length d2.2.length] 35)).cell? ⟨w8.heap.size, 0, none⟩ = some (.int .i64 x) := by go_simp
                  have b1 : (w8.alloc (Obj.cells #[.int .i64 x, .int .i64 d2.1, .slice a8 d2.2.length d2.2.length] 35)).cell? ⟨w8.heap.size, 1, none⟩ = some (.int .i64 d2.1) := by go_simp
                  have e1 : ((x : Int) != (x : Int)) = false := by simp
                  have e2 : (d2.1 != d2.1) = false := by simp
                  clear hu8 HN S1 hG hn8
                  generalize d2.2.length = k8 at *
                  generalize d2.1 = ver8 at *
                  go_wp2
                  go_quiet (fail)
                  go_wp2
                  go_roundw
                  case rel => exact ⟨i + 1, la, cnt, wrt, _, by omega, by omega, by omega, by omega, by omega, rfl, by go_num, HN8.out.up' ((Up.refl _).drewN _)⟩
                  case measure => simp [intOf]; omega

            | some d =>
              rw [hRx] at cT
              simp only [Option.isSome_some] at cT
              have HRX := hide hRx
              clear hRx
              go_wp2_with fail
              go_region_law (go_simp; go_at_call 21; refine (erase_ok p 60 cnt O (la + 1) wrt x d R _ Q1.out.drew hwx HRX.out (by omega)).mono ?_; rintro _ w9 ⟨rfl, h0c, O9, hs9, hc9, ho9⟩; have cT9 := hc9.cell (p := ⟨T, x, none⟩) (v := .bool true) cT Q3.out; have hfT9 := (hc9.frozen (p := ⟨T, x, none⟩) hlT Q3.out).trans hfT; dsimp only)
              all_goals
                have hnT : ¬ O9 T := fun e => (ho9 T e).elim Q3.out (fun h => by have h' : wr.heap.size ≤ T := h; omega)
                have hnU : ¬ O9 U := fun e => (ho9 U e).elim Q4.out (fun h => by have h' : wr.heap.size ≤ U := h; have := HA.out.lU; omega)
                have hct : Chg (fun y => y = T) w9 (w9.setCell ⟨T, x, none⟩ (.bool false)) := (Chg.refl _ w9).set (C := fun y => y = T) (p := ⟨T, x, none⟩) (fun _ => rfl) _
                have hc9' : Chg O wr w9 := ((Chg.refl O wr).drew).trans hc9 (fun _ _ h => h)
                have HN : Hid (NumR p T U w (w9.setCell ⟨T, x, none⟩ (.bool false)) (upd R x none) la (wrt + 1) (cnt - 1)) := ⟨⟨O9, hs9.chg hct (fun y hy (e : y = T) => hnT (e ▸ hy)), fun y hy => (ho9 y hy).elim (Q2.out y) (fun h => Nat.le_trans HR.out.up.size h), hnT, hnU⟩, (HR.out.up.thenChg hc9' (fun y hy e => by have := Q2.out y e; omega)).thenChg hct (fun y hy (e : y = T) => by have := HR.out.bT; omega), Arr.setT (R := R) (R' := upd R x none) (HA.out.chg hc9' Q3.out Q4.out) x false (by rw [upd_same]; rfl) (fun j hj => upd_other _ _ (by omega)) (fun d hd => by rw [upd_same] at hd; cases hd), HR.out.bT, HR.out.bU⟩
                clear hct hc9 hc9' hs9 ho9 hnT hnU
                clear hcl' Q1 Q2 Q3 Q4 HR HRX
                obtain ⟨O', s1, s2, s3, s4⟩ := HN.out.ex
                have S1 := hide s1
                clear s1 s2 s3 s4
                go_wp2_with fail
                go_at_call 13
                cases hG : (upd R x none) (x : Int) with
                | none =>
                  refine (get_none p 60 (cnt - 1) O' _ (wrt + 1) x (upd R x none) _ S1.out hwx hG).mono ?_
                  rintro _ w8 ⟨rfl, hu8⟩
                  have HN8 := hide ((HN.out.up' hu8).up' ((Up.refl _).alloc (Obj.cells #[.int .i64 0, .int .i64 0, .slice none 0 0] 35)))
                  have cT8 := HN8.out.arr.there x (by omega)
                  rw [hG] at cT8
                  simp only [Option.isSome_none] at cT8
                  clear hu8 HN S1 hG
                  go_wp2
                  go_quiet (fail)
                  go_wp2
                  go_roundw
                  case rel => exact ⟨i + 1, la, cnt - 1, wrt + 1, _, by omega, by omega, by omega, by omega, by omega, rfl, by go_num, HN8.out.up' ((Up.refl _).drewN _)⟩
                  case measure => simp [intOf]; omega
                | some d2 =>
                  refine (get_some p 60 (cnt - 1) O' _ (wrt + 1) x d2 (upd R x none) _ S1.out hwx hG).mono ?_
                  rintro _ w8 ⟨a8, rfl, hn8, hu8⟩
                  have HN8 := hide ((HN.out.up' hu8).up' ((Up.refl _).alloc (Obj.cells #[.int .i64 x, .int .i64 d2.1, .slice a8 d2.2.length d2.2.length] 35)))
                  have cT8 := HN8.out.arr.there x (by omega)
                  rw [hG] at cT8
                  simp only [Option.isSome_some] at cT8
                  obtain ⟨v8, cU8, hv8⟩ := HN8.out.arr.vers x (by omega)
                  obtain rfl := hv8 d2 hG
                  have b0 : (w8.alloc (Obj.cells #[.int .i64 x, .int .i64 d2.1, .slice a8 d2.2.length d2.2.length] 35)).cell? ⟨w8.heap.size, 0, none⟩ = some (.int .i64 x) := by go_simp
                  have b1 : (w8.alloc (Obj.cells #[.int .i64 x, .int .i64 d2.1, .slice a8 d2.2.length d2.2.length] 35)).cell? ⟨w8.heap.size, 1, none⟩ = some (.int .i64 d2.1) := by go_simp
                  have e1 : ((x : Int) != (x : Int)) = false := by simp
                  have e2 : (d2.1 != d2.1) = false := by simp
                  clear hu8 HN S1 hG hn8
                  generalize d2.2.length = k8 at *
                  generalize d2.1 = ver8 at *
                  go_wp2
                  go_quiet (fail)
                  go_wp2
                  go_roundw
                  case rel => exact ⟨i + 1, la, cnt - 1, wrt + 1, _, by omega, by omega, by omega, by omega, by omega, rfl, by go_num, HN8.out.up' ((Up.refl _).drewN _)⟩
                  case measure => simp [intOf]; omega

          · have eq4 : (c : Int) % 4 = 3 := by omega
            clear hq2 hq0
            obtain ⟨v, cU, hv⟩ := HA.out.vers x (by omega)
            have hfU := HA.out.fU x
            have HV := hide hv
            have hlU := HA.out.lU
            clear hv
            cases hRx : R x with
            | none =>
              rw [hRx] at cT
              simp only [Option.isSome_none] at cT
              have HRX := hide hRx
              clear hRx
              go_wp2_with fail
              go_region_law (first | (go_simp; go_at_call 32; refine (num_calls i wr.drew (by omega) (by omega)).mono ?_; rintro _ w7 ⟨a7, rfl, hn7, hu7⟩; have cT7 := hu7.cell (p := ⟨T, x, none⟩) (v := .bool false) cT; dsimp only) | (go_simp; go_at_call 16; refine (replace_none p 60 cnt 1 1 O (la + 1) wrt x R a7 w7 (Q1.out.drew.up hu7) hwx HRX.out).mono ?_; rintro _ w9 ⟨rfl, hw9⟩; obtain rfl : w7 = w9 := hw9.symm; dsimp only))
              all_goals
                have hu7' : Up wr w7 := (Up.refl wr).drew.trans hu7
                have cU7 := hu7'.cell cU
                have fU7 := (hu7'.frozen (p := ⟨U, x, none⟩) hlU).trans hfU
                have hct : Chg (fun y => y = U) w7 (w7.setCell ⟨U, x, none⟩ (.int .i64 (IntKind.i64.wrap (v + 1)))) := (Chg.refl _ w7).set (C := fun y => y = U) (p := ⟨U, x, none⟩) (fun _ => rfl) _
                have HN : Hid (NumR p T U w (w7.setCell ⟨U, x, none⟩ (.int .i64 (IntKind.i64.wrap (v + 1)))) R la wrt cnt) := ⟨⟨O, (Q1.out.up hu7').chg hct (fun y hy (e : y = U) => Q4.out (e ▸ hy)), Q2.out, Q3.out, Q4.out⟩, (HR.out.up.trans hu7').thenChg hct (fun y hy (e : y = U) => by have := HR.out.bU; omega), Arr.setU (R := R) (R' := R) (HA.out.up hu7') x _ rfl (fun _ _ => rfl) (fun d hd => by rw [HRX.out] at hd; cases hd), HR.out.bT, HR.out.bU⟩
                clear hct hu7 hu7' hn7 cT7 cT cU
                clear hcl' Q1 Q2 Q3 Q4 HR HRX HV
                generalize hwv : IntKind.i64.wrap (v + 1) = v' at *
                obtain ⟨O', s1, s2, s3, s4⟩ := HN.out.ex
                have S1 := hide s1
                clear s1 s2 s3 s4
                go_wp2_with fail
                go_at_call 13
                cases hG : (R) (x : Int) with
                | none =>
                  refine (get_none p 60 (cnt) O' _ (wrt) x (R) _ S1.out hwx hG).mono ?_
                  rintro _ w8 ⟨rfl, hu8⟩
                  have HN8 := hide ((HN.out.up' hu8).up' ((Up.refl _).alloc (Obj.cells #[.int .i64 0, .int .i64 0, .slice none 0 0] 35)))
                  have cT8 := HN8.out.arr.there x (by omega)
                  rw [hG] at cT8
                  simp only [Option.isSome_none] at cT8
                  clear hu8 HN S1 hG
                  go_wp2
                  go_quiet (fail)
                  go_wp2
                  go_roundw
                  case rel => exact ⟨i + 1, la, cnt, wrt, _, by omega, by omega, by omega, by omega, by omega, rfl, by go_num, HN8.out.up' ((Up.refl _).drewN _)⟩
                  case measure => simp [intOf]; omega
                | some d2 =>
                  refine (get_some p 60 (cnt) O' _ (wrt) x d2 (R) _ S1.out hwx hG).mono ?_
                  rintro _ w8 ⟨a8, rfl, hn8, hu8⟩
                  have HN8 := hide ((HN.out.up' hu8).up' ((Up.refl _).alloc (Obj.cells #[.int .i64 x, .int .i64 d2.1, .slice a8 d2.2.length d2.2.length] 35)))
                  have cT8 := HN8.out.arr.there x (by omega)
                  rw [hG] at cT8
                  simp only [Option.isSome_some] at cT8
                  obtain ⟨v8, cU8, hv8⟩ := HN8.out.arr.vers x (by omega)
                  obtain rfl := hv8 d2 hG
                  have b0 : (w8.alloc (Obj.cells #[.int .i64 x, .int .i64 d2.1, .slice a8 d2.2.length d2.2.length] 35)).cell? ⟨w8.heap.size, 0, none⟩ = some (.int .i64 x) := by go_simp
                  have b1 : (w8.alloc (Obj.cells #[.int .i64 x, .int .i64 d2.1, .slice a8 d2.2.length d2.2.length] 35)).cell? ⟨w8.heap.size, 1, none⟩ = some (.int .i64 d2.1) := by go_simp
                  have e1 : ((x : Int) != (x : Int)) = false := by simp
                  have e2 : (d2.1 != d2.1) = false := by simp
                  clear hu8 HN S1 hG hn8
                  generalize d2.2.length = k8 at *
                  generalize d2.1 = ver8 at *
                  go_wp2
                  go_quiet (fail)
                  go_wp2
                  go_roundw
                  case rel => exact ⟨i + 1, la, cnt, wrt, _, by omega, by omega, by omega, by omega, by omega, rfl, by go_num, HN8.out.up' ((Up.refl _).drewN _)⟩
                  case measure => simp [intOf]; omega

            | some d =>
              rw [hRx] at cT
              simp only [Option.isSome_some] at cT
              obtain rfl := HV.out d hRx
              have HRX := hide hRx
              clear hRx
              go_wp2_with fail
              go_region_law (first | (go_simp; go_at_call 32; refine (num_calls i wr.drew (by omega) (by omega)).mono ?_; rintro _ w7 ⟨a7, rfl, hn7, hu7⟩; have cT7 := hu7.cell (p := ⟨T, x, none⟩) (v := .bool true) cT; dsimp only) | (go_simp; go_at_call 16; refine (replace_ok p 60 cnt 1 1 O (la + 1) wrt x d R a7 [numV i] w7 (Q1.out.drew.up hu7) hwx HRX.out (by omega) (hn7.valsO Q1.out.olt) (small_num _)).mono ?_; rintro _ w9 ⟨rfl, O9, hs9, hc9, ho9⟩; have cT9 := hc9.cell (p := ⟨T, x, none⟩) (v := .bool true) cT7 Q3.out; dsimp only))
              all_goals
                have hu7' : Up wr w7 := (Up.refl wr).drew.trans hu7
                have hsz7 := hu7'.size
                have hc9' : Chg O wr w9 := (Chg.of_up (C := O) hu7').trans hc9 (fun _ _ h => h)
                have cU9 := hc9'.cell cU Q4.out
                have fU9 := (hc9'.frozen (p := ⟨U, x, none⟩) hlU Q4.out).trans hfU
                have hnT : ¬ O9 T := fun e => (ho9 T e).elim Q3.out (fun h => by omega)
                have hnU : ¬ O9 U := fun e => (ho9 U e).elim Q4.out (fun h => by omega)
                have hct : Chg (fun y => y = U) w9 (w9.setCell ⟨U, x, none⟩ (.int .i64 (IntKind.i64.wrap (d.1 + 1)))) := (Chg.refl _ w9).set (C := fun y => y = U) (p := ⟨U, x, none⟩) (fun _ => rfl) _
                have HN : Hid (NumR p T U w (w9.setCell ⟨U, x, none⟩ (.int .i64 (IntKind.i64.wrap (d.1 + 1)))) (upd R x (some (IntKind.i64.wrap (d.1 + 1), [numV i]))) la (wrt + 1) cnt) := ⟨⟨O9, hs9.chg hct (fun y hy (e : y = U) => hnU (e ▸ hy)), fun y hy => (ho9 y hy).elim (Q2.out y) (fun h => Nat.le_trans (HR.out.up.trans hu7').size h), hnT, hnU⟩, (HR.out.up.thenChg hc9' (fun y hy e => by have := Q2.out y e; omega)).thenChg hct (fun y hy (e : y = U) => by have := HR.out.bU; omega), Arr.setU (R := R) (R' := upd R x (some (IntKind.i64.wrap (d.1 + 1), [numV i]))) (HA.out.chg hc9' Q3.out Q4.out) x _ (by rw [upd_same, HRX.out]; rfl) (fun j hj => upd_other _ _ (by omega)) (fun d2 hd => by rw [upd_same] at hd; cases hd; rfl), HR.out.bT, HR.out.bU⟩
                clear hct hu7 hu7' hn7 hc9 hc9' hs9 ho9 hnT hnU cT cU
                clear hcl' Q1 Q2 Q3 Q4 HR HRX HV
                generalize hwv : IntKind.i64.wrap (d.1 + 1) = v' at *
                generalize hRR : upd R x (some (v', [numV i])) = R' at *
                clear hRR
                obtain ⟨O', s1, s2, s3, s4⟩ := HN.out.ex
                have S1 := hide s1
                clear s1 s2 s3 s4
                go_wp2_with fail
                go_at_call 13
                cases hG : (R') (x : Int) with
                | none =>
                  refine (get_none p 60 (cnt) O' _ (wrt + 1) x (R') _ S1.out hwx hG).mono ?_
                  rintro _ w8 ⟨rfl, hu8⟩
                  have HN8 := hide ((HN.out.up' hu8).up' ((Up.refl _).alloc (Obj.cells #[.int .i64 0, .int .i64 0, .slice none 0 0] 35)))
                  have cT8 := HN8.out.arr.there x (by omega)
                  rw [hG] at cT8
                  simp only [Option.isSome_none] at cT8
                  clear hu8 HN S1 hG
                  go_wp2
                  go_quiet (fail)
                  go_wp2
                  go_roundw
                  case rel => exact ⟨i + 1, la, cnt, wrt + 1, _, by omega, by omega, by omega, by omega, by omega, rfl, by go_num, HN8.out.up' ((Up.refl _).drewN _)⟩
                  case measure => simp [intOf]; omega
                | some d2 =>
                  refine (get_some p 60 (cnt) O' _ (wrt + 1) x d2 (R') _ S1.out hwx hG).mono ?_
                  rintro _ w8 ⟨a8, rfl, hn8, hu8⟩
                  have HN8 := hide ((HN.out.up' hu8).up' ((Up.refl _).alloc (Obj.cells #[.int .i64 x, .int .i64 d2.1, .slice a8 d2.2.length d2.2.length] 35)))
                  have cT8 := HN8.out.arr.there x (by omega)
                  rw [hG] at cT8
                  simp only [Option.isSome_some] at cT8
                  obtain ⟨v8, cU8, hv8⟩ := HN8.out.arr.vers x (by omega)
                  obtain rfl := hv8 d2 hG
                  have b0 : (w8.alloc (Obj.cells #[.int .i64 x, .int .i64 d2.1, .slice a8 d2.2.length d2.2.length] 35)).cell? ⟨w8.heap.size, 0, none⟩ = some (.int .i64 x) := by go_simp
                  have b1 : (w8.alloc (Obj.cells #[.int .i64 x, .int .i64 d2.1, .slice a8 d2.2.length d2.2.length] 35)).cell? ⟨w8.heap.size, 1, none⟩ = some (.int .i64 d2.1) := by go_simp
                  have e1 : ((x : Int) != (x : Int)) = false := by simp
                  have e2 : (d2.1 != d2.1) = false := by simp
                  clear hu8 HN S1 hG hn8
                  generalize d2.2.length = k8 at *
                  generalize d2.1 = ver8 at *
                  go_wp2
                  go_quiet (fail)
                  go_wp2
                  go_roundw
                  case rel => exact ⟨i + 1, la, cnt, wrt + 1, _, by omega, by omega, by omega, by omega, by omega, rfl, by go_num, HN8.out.up' ((Up.refl _).drewN _)⟩
                  case measure => simp [intOf]; omega

      · obtain rfl : i = len0 := by omega
        have t3 : decide ((i : Int) < i) = false := decide_eq_false (by omega)
        obtain ⟨O, q1, _⟩ := hr.ex
        have hu := hide hr.up
        have Q1 := hide q1
        clear hr q1
        go_wp2_with fail
        go_at_call 29
        refine (snext_calls p 60 cnt O (la + 1) wrt R wr Q1.out).mono ?_
        rintro _ w9 ⟨rfl, hw9⟩
        obtain rfl : wr = w9 := hw9.symm
        go_wp2
        go_ret
        exact ⟨by simp, hu.out⟩

end Go.Proofs.Ytaodekbpjkcpeaa
