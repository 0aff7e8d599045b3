/-
  What rialtohelp's Def and Copy and rialtoref7's Of answer, as their texts run.
-/
import Derived.Test.YtnnbcpopjnlnoaaDoorKeyOfAll
import Derived.Test.YtnnbcpopjnlnoaaDoorValHelp
import Derived.Test.YtnnbcpopjnlnoaaDoorRefRowsAll
namespace Go.Proofs.YtnnbcpopjnlnoaaDoor
open Go.ChangeShapes Go.WideShapes Go.ChangeAt Go.RowKit
set_option linter.unusedVariables false
attribute [local go_sem ↓] Go.wp_at_zero Go.wp_at_succ
attribute [local go_sem] run_store_float

theorem Vals.none0 {w : World} {a : Option Addr} {n : Nat} {l : List VT} (h : Vals w a n l) : a = none → n = 0 := by
  intro h0
  rcases h.2.2 with h1 | ⟨b, o, h1, _⟩
  · exact h1
  · rw [h0] at h1; cases h1
theorem few_parts {l : List VT} {k : Int} (h : fewB l k = true) : (∀ i, (l.getD i zeroT).2.2.1.size ≤ 200) ∧ (l.length : Int) ≤ k := by
  unfold fewB at h
  simp only [Bool.and_eq_true, decide_eq_true_eq] at h
  exact ⟨fun i => shortB_get h.1 i, h.2⟩
theorem copyS_calls (a : Option Addr) (n c : Nat) (l : List VT) (w : World) (hn : n ≤ 1000) (hv : Vals w a n l) :
    Calls Tryd.prog 12 #[.slice a n c] w fun e w' => ∃ ca cc, e = .returned (.slice ca n cc) ∧ Vals w' ca n l ∧ (∀ g, RowB ca g → w.heap.size ≤ g ∧ g < w'.heap.size) ∧ Up w w' := by
  refine (copy_calls a n c l w hn hv hv.none0).mono ?_
  rintro _ w' ⟨v, rfl, ho, hu⟩
  have hlt := ho.lt
  obtain ⟨ca, cc, rfl, _, _, _, h1, _⟩ := owns_vals ho hv.2.1
  exact ⟨ca, cc, rfl, h1, fun g hg => by obtain ⟨o, rfl⟩ := hg; exact hlt g rfl, hu⟩

def helpDefB (s : ByteArray) (n : Nat) : Bool := decide (s.size ≤ 60) && decide (n ≤ 8)
theorem hdef_calls (s : ByteArray) (k : Int) (a1 : Option Addr) (n1 c1 : Nat) (m : Int) (w : World) :
    Calls Tryd.prog 8 #[.agg #[.string s, .int .i64 k, .slice a1 n1 c1, .int .i64 m]] w fun e w' => e = .returned (.bool (helpDefB s n1)) ∧ Up w w' := by
  go_enter Tryd.func8, Tryd.ntmps8
  go_wp2
  all_goals (go_ret; refine ⟨congrArg (fun b => Ending.returned (Value.bool b)) (Eq.symm ?_), (Up.refl _).alloc _⟩; unfold helpDefB; rw [Bool.eq_iff_iff]; simp only [Bool.and_eq_true, decide_eq_true_eq, Bool.false_eq_true, iff_false]; omega)

/-- What the loop of rialtoref7's Of bears. -/
structure RofR (w : World) (pa : Option Addr) (np pc : Nat) (pl : List PT) (m : List VT) (k : Nat) (v : Value) (wr : World) : Prop where
  own : OwnV wr (w.heap.size + 1) v (keyP m pl k)
  up : Up w wr
  size : w.heap.size + 1 ≤ wr.heap.size
  d2 : wr.cell? ⟨w.heap.size, 2, none⟩ = some (.slice pa np pc)
theorem RofR.on {w : World} {pa : Option Addr} {np pc : Nat} {pl : List PT} {m : List VT} {k : Nat} {v v' : Value} {wr x x' : World} (h : RofR w pa np pc pl m k v wr) (hu : Up wr x) (hk : k < pl.length) (u : VT) (hv : u = partV m (pl.getD k zeroP)) (hown : OwnV x' (w.heap.size + 1) v' (keyP m pl k ++ [u])) (hx : Chg (fun g => w.heap.size + 1 ≤ g) x x') : RofR w pa np pc pl m (k + 1) v' x' :=
  ⟨by rw [keyP_succ m pl k hk, ← hv]; exact hown, Chg.up (C := fun g => w.heap.size + 1 ≤ g) (Chg.trans (Chg.of_up (h.up.trans hu)) hx (fun g _ h => h)) (fun g hg e => by omega), Nat.le_trans h.size (Nat.le_trans hu.size hx.size), hx.cell (hu.cell h.d2) (by show ¬ w.heap.size + 1 ≤ w.heap.size; omega)⟩

set_option maxRecDepth 20000 in
set_option maxHeartbeats 16000000 in
theorem rof7_calls (s : ByteArray) (kd cd : Int) (pa va : Option Addr) (np pc n vc : Nat) (pl : List PT) (m : List VT) (w : World) (hnp : np ≤ 8) (hn : n ≤ 12) (hp : Prts w pa np pl) (hv : Vals w va n m) (hsh : ∀ i, (m.getD i zeroT).2.2.1.size ≤ 200) (hth : ∀ k, k < np → thereB 5 n (pl.getD k zeroP) = true) :
    Calls Tryd.prog 19 #[.agg #[.string s, .int .i64 kd, .slice pa np pc, .int .i64 cd], .slice va n vc] w fun e w' => ∃ ra rc, e = .returned (.slice ra np rc) ∧ Vals w' ra np (keyP m pl np) ∧ Up w w' := by
  have hpl : pl.length = np := hp.1
  have HP := hide hp
  have HV := hide hv
  have HS := hide hsh
  have HTH := hide hth
  clear hp hv hsh hth
  have R0 : Hid (RofR w pa np pc pl m 0 (.slice none 0 0) (w.alloc (.cells #[.string s, .int .i64 kd, .slice pa np pc, .int .i64 cd] 24))) := ⟨OwnV.nil _ _, (Up.refl _).alloc _, by simp, by go_simp⟩
  generalize hW : w.alloc (.cells #[.string s, .int .i64 kd, .slice pa np pc, .int .i64 cd] 24) = W at R0
  go_enter Tryd.func19, Tryd.ntmps19
  go_wp2_with fail
  clear hW
  go_loopw [5, 6] (fun lv i wr => ∃ (k : Nat) (v : Value), k ≤ np ∧ i = .int .i64 k ∧ v = lv ∧ RofR w pa np pc pl m k v wr) (fun _ i _ => np - (intOf i).toNat)
  case atStart => exact ⟨0, _, Nat.zero_le _, rfl, rfl, R0.out⟩
  case round =>
    clear R0
    obtain ⟨k, lv, hk, rfl, rfl, hR⟩ := hrel
    have HR := hide hR
    have d2 := hR.d2
    by_cases hlt : k < np
    · have t0 : decide ((k : Int) < np) = true := decide_eq_true (by omega)
      obtain ⟨pb, po, rfl, p0, p1⟩ := (HP.out.up hR.up).prt hlt
      obtain ⟨⟨f, q⟩, hP⟩ : ∃ P, P = pl.getD k zeroP := ⟨_, rfl⟩
      have hth := HTH.out k hlt
      rw [← hP] at p0 p1 hth
      dsimp only at p0 p1
      have HPK := hide hP
      have hsz := hR.size
      have hkn : (k : Int) < np := by omega
      have hn63 : np ≤ 2 ^ 63 - 1 := by omega
      have HVR := hide (HV.out.up hR.up)
      clear hP hR
      have uX : Hid (Up wr (wr.alloc (.cells #[.int .i64 f, .int .i64 q] 45))) := (Up.refl _).alloc _
      have x0 : (wr.alloc (.cells #[.int .i64 f, .int .i64 q] 45)).cell? ⟨wr.heap.size, 0, none⟩ = some (.int .i64 f) := by go_simp
      have x1 : (wr.alloc (.cells #[.int .i64 f, .int .i64 q] 45)).cell? ⟨wr.heap.size, 1, none⟩ = some (.int .i64 q) := by go_simp
      generalize hX : wr.alloc (.cells #[.int .i64 f, .int .i64 q] 45) = X at uX x0 x1
      have hkl : Hid ((keyP m pl k).length = k) := keyP_length m pl k (by omega)
      by_cases hf : f = -1
      · subst hf
        obtain ⟨hq0, hq1⟩ := thereB_hook hth rfl
        dsimp only at hq0 hq1
        have HQ : Hid (q = 0 ∨ q = 1 ∨ q = 2 ∨ q = 3 ∨ q = 4) := by show q = 0 ∨ q = 1 ∨ q = 2 ∨ q = 3 ∨ q = 4; omega
        clear hth hq0 hq1
        go_wp2_with fail
        clear hX
        go_at_call 16
        refine (rexW_calls q va n vc m X hn (HVR.out.up uX.out) HS.out HQ.out).mono ?_
        rintro _ Z ⟨rfl, huz⟩
        obtain ⟨⟨vk, vz, vt, vf⟩, hve⟩ : ∃ v, v = exW q m := ⟨_, rfl⟩
        rw [← hve]
        dsimp only
        have HVP : Hid ((vk, vz, vt, vf) = partV m (pl.getD k zeroP)) := by
          show (vk, vz, vt, vf) = partV m (pl.getD k zeroP)
          rw [← HPK.out, hve]
          unfold partV
          rw [if_pos rfl]
        have UZ : Hid (Up wr Z) := uX.out.trans huz
        clear huz hve uX x0 x1
        have oZ : Hid (OwnV Z (w.heap.size + 1) lv (keyP m pl k)) := HR.out.own.up UZ.out
        have hsZ : w.heap.size + 1 ≤ Z.heap.size := Nat.le_trans hsz UZ.out.size
        go_wp2_with (at_builtin; refine append_value rfl (.tmp 31) (.tmp 36) rfl (w.heap.size + 1) _ _ rfl (oZ.out.alloc _) _ 1 1 [(vk, vz, vt, vf)] rfl rfl (value_new (vk, vz, vt, vf)) (by have := hkl.out; omega) (Nat.le_trans hsZ (by simp)) ?_)
        intro g4 w4 ho4 hg4
        have G4 : Hid (Chg (fun g => w.heap.size + 1 ≤ g) Z w4) := Chg.trans (Chg.of_up ((Up.refl Z).alloc _)) (grown_chg (oZ.out.alloc _) hg4) (fun g _ h => h)
        have V4 := hide ho4
        clear ho4 hg4 oZ
        go_wp2
        go_roundw
        case rel => exact ⟨k + 1, _, by omega, by go_num, rfl, HR.out.on UZ.out (by omega) (vk, vz, vt, vf) HVP.out V4.out G4.out⟩
        case measure => simp [intOf]; omega
      · obtain ⟨hq0, hq1⟩ := thereB_field hth hf
        dsimp only at hq0 hq1
        obtain ⟨f, rfl⟩ : ∃ j : Nat, f = j := ⟨f.toNat, by omega⟩
        have hfn : f < n := by omega
        have t1 : decide ((0 : Int) ≤ (f : Int)) = true := decide_eq_true (by omega)
        rcases HVR.out.2.2 with h0 | ⟨vb, vo, rfl, hxv⟩
        · omega
        obtain ⟨y0, y1, y2, y3⟩ := (hxv f hfn).up uX.out
        obtain ⟨⟨vk, vz, vt, vf⟩, hve⟩ : ∃ v, v = m.getD f zeroT := ⟨_, rfl⟩
        rw [← hve] at y0 y1 y2 y3
        dsimp only at y0 y1 y2 y3
        have HVP : Hid ((vk, vz, vt, vf) = partV m (pl.getD k zeroP)) := by
          show (vk, vz, vt, vf) = partV m (pl.getD k zeroP)
          rw [← HPK.out, hve]
          unfold partV
          rw [if_neg hf, Int.toNat_natCast]
        have UZ : Hid (Up wr X) := uX.out
        have oZ : Hid (OwnV X (w.heap.size + 1) lv (keyP m pl k)) := HR.out.own.up UZ.out
        have hsZ : w.heap.size + 1 ≤ X.heap.size := Nat.le_trans hsz UZ.out.size
        have hn63' : n ≤ 2 ^ 63 - 1 := by omega
        clear hve hxv hth uX hf
        go_wp2_with (at_builtin; refine append_value rfl (.tmp 23) (.tmp 29) rfl (w.heap.size + 1) _ _ rfl (oZ.out.alloc _) _ 1 1 [(vk, vz, vt, vf)] rfl rfl (value_new (vk, vz, vt, vf)) (by have := hkl.out; omega) (Nat.le_trans hsZ (by simp)) ?_)
        intro g4 w4 ho4 hg4
        have G4 : Hid (Chg (fun g => w.heap.size + 1 ≤ g) X w4) := Chg.trans (Chg.of_up ((Up.refl X).alloc _)) (grown_chg (oZ.out.alloc _) hg4) (fun g _ h => h)
        have V4 := hide ho4
        clear ho4 hg4 oZ y0 y1 y2 y3
        go_wp2
        go_roundw
        case rel => exact ⟨k + 1, _, by omega, by go_num, rfl, HR.out.on UZ.out (by omega) (vk, vz, vt, vf) HVP.out V4.out G4.out⟩
        case measure => simp [intOf]; omega
    · obtain rfl : k = np := by omega
      have t0 : decide ((k : Int) < k) = false := decide_eq_false (by omega)
      obtain ⟨ra, rc, rfl, hVk⟩ := ownV_row hR.own (fun i => keyP_get m pl _ i Fits fits_zero (fun p => partV_fits m p HV.out.2.1 HS.out)) (keyP_length m pl _ (by omega))
      have HVK := hide hVk
      have U := hide hR.up
      clear hVk hR
      go_wp2
      go_ret
      exact ⟨ra, rc, rfl, HVK.out, U.out⟩

end Go.Proofs.YtnnbcpopjnlnoaaDoor
