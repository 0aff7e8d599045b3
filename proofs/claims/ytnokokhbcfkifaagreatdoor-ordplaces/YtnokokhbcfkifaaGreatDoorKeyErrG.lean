/-
  The class of a number that is an error by itself: what errors.As answers of it, and what rialtohelp's Class does, as their texts run.
  Keys of one number; num and known of rialtolaw12, as their texts run.
-/
import Derived.Test.YtnokokhbcfkifaaGreatDoorErrHelpG
import Derived.Test.YtnokokhbcfkifaaGreatDoorOxCopG
namespace Go.Proofs.YtnokokhbcfkifaaGreatDoor
open Go.RowKit Go.Extern.Stop Go.Stop Go.Extern
attribute [local go_sem ↓] Go.wp_at_zero Go.wp_at_succ
attribute [local go_sem] run_store_hnd

theorem e_valueOfE (z : Int) (w : World) : (ReflectliteValue.unpack (.iface 56 (.int .i64 z))).run Tryz.prog w = .ok (.agg #[hnd 56, .pointer (some ⟨w.heap.size, 0, none⟩), .int .u64 130]) (w.alloc (.cells #[.int .i64 z] 56)) := by kernel_rfl
theorem e_mkE (p : Addr) (w : World) : (ReflectliteValue.mk 56 p ReflectliteValue.flagAddr).run Tryz.prog w = .ok (.agg #[hnd 56, .pointer (some p), .int .u64 386]) w := by kernel_rfl
theorem e_elemVEP (a p : Addr) (W : World) (ha : W.cell? a = some (.pointer (some p))) :
    (ReflectliteValue.method (ReflectliteValue.valueError "reflectlite.Value.Elem" 0) ReflectliteValue.elem #[.agg #[hnd 108, .pointer (some a), .int .u64 150]]).run Tryz.prog W = .ok (.agg #[hnd 56, .pointer (some p), .int .u64 386]) W := by
  rw [rlm]
  simp only [Sem.run_bind, e_partsEP, Result.andThen]
  simp [ReflectliteValue.elem, loadVar, isAgg, underlying, Tryz.underlying108, ha, Result.andThen, e_elemOfEP, e_mkE]
theorem e_partsAE (a : Addr) (w : World) : (ReflectliteValue.parts (.agg #[hnd 56, .pointer (some a), .int .u64 386])).run Tryz.prog w = .ok (some (56, a, 386)) w := by kernel_rfl
theorem e_partsVE (a : Addr) (w : World) : (ReflectliteValue.parts (.agg #[hnd 56, .pointer (some a), .int .u64 130])).run Tryz.prog w = .ok (some (56, a, 130)) w := by kernel_rfl
theorem e_directE (w : World) : (Rtype.directlyAssignable 56 56).run Tryz.prog w = .ok true w := by kernel_rfl
theorem e_setE (ta b : Addr) (z : Int) (old : Value) (W : World) (hb : W.cell? b = some (.int .i64 z)) (ht : W.cell? ta = some old) (hf : W.frozen? ta = false) :
    (ReflectliteValue.set #[.agg #[hnd 56, .pointer (some ta), .int .u64 386], .agg #[hnd 56, .pointer (some b), .int .u64 130]]).run Tryz.prog W = .ok (.tuple #[]) (W.setCell ta (.int .i64 z)) := by
  rw [rls]
  simp only [Sem.run_bind, e_partsAE, e_partsVE, Result.andThen]
  simp [ReflectliteValue.flagAddr, loadVar, isAgg, underlying, Tryz.underlying56, hb, Result.andThen, e_directE, storeVar, Value.cells, storeCells, Addr.add]
  rw [run_store Tryz.prog W ta _ _ (by rfl)]
  simp [ht, hf]

set_option maxRecDepth 20000 in
set_option maxHeartbeats 4000000 in
theorem as_hitE (z : Int) (t a : Addr) (old tgt : Value) (w : World) (ha : w.cell? a = some (.pointer (some t))) (ht : w.cell? t = some old) (hf : w.frozen? t = false) :
    Calls Tryz.prog 70 #[.iface 56 (.int .i64 z), tgt, .agg #[hnd 108, .pointer (some a), .int .u64 150], .iface 166 (.agg #[hnd 56])] w fun ev w' => ev = .returned (.bool true) ∧ ∃ w2, Up w w2 ∧ w' = w2.setCell t (.int .i64 z) := by
  have x42 := @run_callFunc_extern Tryz.prog 87 _ ReflectliteType.typeOf Tryz.func87 (by kernel_rfl) (by kernel_rfl) (by kernel_rfl) (by kernel_rfl)
  have x102 := @run_callFunc_extern Tryz.prog 160 _ (ReflectliteType.relation "AssignableTo" ReflectliteType.assignableTo) Tryz.func160 (by kernel_rfl) (by kernel_rfl) (by kernel_rfl) (by kernel_rfl)
  have x38 := @run_callFunc_extern Tryz.prog 67 _ (fun args => ReflectliteValue.unpack (args.getD 0 (.tuple #[]))) Tryz.func67 (by kernel_rfl) (by kernel_rfl) (by kernel_rfl) (by kernel_rfl)
  have x58 := @run_callFunc_extern Tryz.prog 88 _ (ReflectliteValue.method (ReflectliteValue.valueError "reflectlite.Value.Elem" 0) ReflectliteValue.elem) Tryz.func88 (by kernel_rfl) (by kernel_rfl) (by kernel_rfl) (by kernel_rfl)
  have x59 := @run_callFunc_extern Tryz.prog 89 _ ReflectliteValue.set Tryz.func89 (by kernel_rfl) (by kernel_rfl) (by kernel_rfl) (by kernel_rfl)
  have h1 := e_typeOfE
  have h2 := e_methodAssignableTo
  have h3 := e_assignEE
  have h4 := e_valueOfE
  have u1 : Up w (w.alloc (.cells #[hnd 108, .pointer (some a), .int .u64 150] 135)) := (Up.refl _).alloc _
  have u2 : Up w ((w.alloc (.cells #[hnd 108, .pointer (some a), .int .u64 150] 135)).alloc (.cells #[.int .i64 z] 56)) := ((Up.refl _).alloc _).alloc _
  have h5 := e_elemVEP a t (w.alloc (.cells #[hnd 108, .pointer (some a), .int .u64 150] 135)) (u1.cell ha)
  have h6 := e_setE t ⟨w.heap.size + 1, 0, none⟩ z old ((w.alloc (.cells #[hnd 108, .pointer (some a), .int .u64 150] 135)).alloc (.cells #[.int .i64 z] 56)) (by go_simp) (u2.cell ht) ((u2.frozen (World.block_lt_of_cell? w t ht)).trans hf)
  clear ha ht hf u1
  replace u2 := hide u2
  go_enter Tryz.func70, Tryz.ntmps70
  go_wp2_with fail
  refine wp_loop_rounds 1 ?_
  rw [rounds_succ]
  go_wp2
  go_ret
  exact ⟨rfl, _, u2.out, rfl⟩

set_option maxRecDepth 20000 in
set_option maxHeartbeats 4000000 in
theorem errAsE (et : TypeId) (ev : Value) (ta : Addr) (w : World) (Q : Ending → World → Prop) (hg : TabE w)
    (hA : ∀ w' a, Up w w' → w'.cell? a = some (.pointer (some ta)) → Calls Tryz.prog 70 #[.iface et ev, .iface 108 (.pointer (some ta)), .agg #[hnd 108, .pointer (some a), .int .u64 150], .iface 166 (.agg #[hnd 56])] w' fun e w'' => ∃ bb, e = .returned (.bool bb) ∧ Q e w'') :
    Calls Tryz.prog 43 #[.iface et ev, .iface 108 (.pointer (some ta))] w Q := by
  have x38 := @run_callFunc_extern Tryz.prog 67 _ (fun args => ReflectliteValue.unpack (args.getD 0 (.tuple #[]))) Tryz.func67 (by kernel_rfl) (by kernel_rfl) (by kernel_rfl) (by kernel_rfl)
  have x39 := @run_callFunc_extern Tryz.prog 68 _ (ReflectliteValue.methodAny (ReflectliteValue.valueError "reflectlite.Value.Type" 0) (fun t _ _ _ => ReflectliteType.toType t)) Tryz.func68 (by kernel_rfl) (by kernel_rfl) (by kernel_rfl) (by kernel_rfl)
  have x40 := @run_callFunc_extern Tryz.prog 69 _ (ReflectliteValue.method (ReflectliteValue.valueError "reflectlite.Value.IsNil" 0) ReflectliteValue.isNil) Tryz.func69 (by kernel_rfl) (by kernel_rfl) (by kernel_rfl) (by kernel_rfl)
  have x89 := @run_callFunc_extern Tryz.prog 146 _ (ReflectliteType.abiMethod fun t => do pure (.int .u8 (← Rtype.kind t))) Tryz.func146 (by kernel_rfl) (by kernel_rfl) (by kernel_rfl) (by kernel_rfl)
  have x104 := @run_callFunc_extern Tryz.prog 162 _ (ReflectliteType.method ReflectliteType.elem) Tryz.func162 (by kernel_rfl) (by kernel_rfl) (by kernel_rfl) (by kernel_rfl)
  have x105 := @run_callFunc_extern Tryz.prog 163 _ (ReflectliteType.relation "Implements" ReflectliteType.implements_) Tryz.func163 (by kernel_rfl) (by kernel_rfl) (by kernel_rfl) (by kernel_rfl)
  have f1 := e_valueOfEP
  have f2 := e_typeEP
  have f3 := e_methodKind
  have f4 := e_methodElem
  have f5 := e_methodImplements
  have f6 := e_kindEP
  have f7 := e_kindE
  have f8 := e_elemEP
  have f9 := e_implementsE
  have uW : Up w ((w.alloc (.cells #[.pointer (some ta)] 108)).alloc (.cells #[hnd 108, .pointer (some ⟨w.heap.size, 0, none⟩), .int .u64 150] 135)) := ((Up.refl _).alloc _).alloc _
  have g1 : ((w.alloc (.cells #[.pointer (some ta)] 108)).alloc (.cells #[hnd 108, .pointer (some ⟨w.heap.size, 0, none⟩), .int .u64 150] 135)).cell? ⟨0, 0, none⟩ = some (.iface 166 (.agg #[hnd 46])) := uW.cell hg
  have f10 := e_isNilEP ⟨w.heap.size, 0, none⟩ ta ((w.alloc (.cells #[.pointer (some ta)] 108)).alloc (.cells #[hnd 108, .pointer (some ⟨w.heap.size, 0, none⟩), .int .u64 150] 135)) (by go_simp)
  have HA := hide hA
  replace uW := hide uW
  clear hA hg
  go_enter Tryz.func43, Tryz.ntmps43
  go_wp2_with fail
  go_at_call 70
  refine (HA.out _ ⟨w.heap.size, 0, none⟩ uW.out (by go_simp)).mono ?_
  rintro _ w3 ⟨bb, rfl, hq⟩
  replace hq := hide hq
  clear g1
  go_wp2
  exact hq.out

theorem As_missEF (v : Value) (ta : Addr) (w : World) (hg : TabE w) : Calls Tryz.prog 43 #[.iface 56 v, .iface 107 (.pointer (some ta))] w (Missed w) := by
  refine errAsF _ _ _ w _ hg fun w' a hu _ => (as_missEF v _ _ _ _ w').mono ?_
  rintro _ w3 ⟨rfl, hu3⟩
  exact ⟨false, rfl, rfl, hu.trans hu3⟩
theorem As_missEW (v : Value) (ta : Addr) (w : World) (hg : TabE w) : Calls Tryz.prog 43 #[.iface 56 v, .iface 105 (.pointer (some ta))] w (Missed w) := by
  refine errAsW _ _ _ w _ hg fun w' a hu _ => (as_missEW v _ _ _ _ w').mono ?_
  rintro _ w3 ⟨rfl, hu3⟩
  exact ⟨false, rfl, rfl, hu.trans hu3⟩
theorem As_hitE (z : Int) (ta : Addr) (old : Value) (w : World) (hg : TabE w) (ht : w.cell? ta = some old) (hf : w.frozen? ta = false) :
    Calls Tryz.prog 43 #[.iface 56 (.int .i64 z), .iface 108 (.pointer (some ta))] w (Found w ta (.int .i64 z)) := by
  refine errAsE _ _ _ w _ hg fun w' a hu ha => (as_hitE z ta a old _ w' ha (hu.cell ht) ((hu.frozen (World.block_lt_of_cell? w ta ht)).trans hf)).mono ?_
  rintro _ w3 ⟨rfl, w2, hu2, rfl⟩
  exact ⟨true, rfl, rfl, w2, hu.trans hu2, rfl⟩

set_option maxRecDepth 20000 in
set_option maxHeartbeats 4000000 in
/-- The class of a number. -/
theorem class_num (z : Int) (w : World) (hg : TabE w) :
    Calls Tryz.prog 22 #[.iface 56 (.int .i64 z)] w fun e w' => e = .returned (.int .i64 z) ∧ Up w w' := by
  have HG := hide hg
  clear hg
  go_enter Tryz.func22, Tryz.ntmps22
  go_wp2_with fail
  go_at_call 43
  refine (As_missEW _ _ _ (HG.out.up ((Up.refl _).alloc _))).mono ?_
  rintro _ w1 ⟨rfl, hu1⟩
  have u1 : Hid (Up w w1) := ((Up.refl _).alloc _).trans hu1
  clear hu1
  go_wp2_with fail
  go_at_call 43
  refine (As_missEF _ _ _ (HG.out.up (u1.out.alloc _))).mono ?_
  rintro _ w2 ⟨rfl, hu2⟩
  have u2 : Hid (Up w w2) := (u1.out.alloc _).trans hu2
  clear hu2 u1
  go_wp2_with fail
  go_at_call 43
  refine (As_hitE z ⟨w2.heap.size, 0, none⟩ (.int .i64 0) _ (HG.out.up (u2.out.alloc _)) (by go_simp) (by go_simp)).mono ?_
  rintro _ w3 ⟨rfl, w4, hu4, hw3⟩
  have k0 : w3.cell? ⟨w2.heap.size, 0, none⟩ = some (.int .i64 z) := by
    rw [hw3]
    exact World.cell?_setCell_same _ _ _ (hu4.cell (v := .int .i64 0) (by go_simp))
  have u3 : Hid (Up w w3) := by rw [hw3]; exact ((u2.out.alloc _).trans hu4).setCell u2.out.size _
  clear hw3 hu4
  go_wp2
  go_ret
  exact ⟨rfl, u3.out⟩
/-- Of none. -/
theorem class_nil (w : World) : Calls Tryz.prog 22 #[.nilIface] w fun e w' => e = .returned (.int .i64 0) ∧ Up w w' := by
  go_enter Tryz.func22, Tryz.ntmps22
  go_wp2
  go_ret
  exact ⟨rfl, Up.refl _⟩

end Go.Proofs.YtnokokhbcfkifaaGreatDoor

namespace Go.Proofs.YtnokokhbcfkifaaGreatDoor
open Go.ChangeShapes Go.WideShapes Go.ChangeAt Go.RowKit
set_option linter.unusedVariables false
set_option maxRecDepth 100000
attribute [local go_sem ↓] Go.wp_at_zero Go.wp_at_succ

/-- A whole number as a value. -/
def numT (n : Int) : VT := (1, n, ⟨#[]⟩, 0)
theorem cmpV_num (a b : Int) : cmpV (numT a) (numT b) = cmpI a b := by
  have h1 : cmpI (numT a).1 (numT b).1 = 0 := rfl
  have h2 : cmpS (numT a).2.2.1 (numT b).2.2.1 = 0 := rfl
  have h3 : cmpN (numT a).2.2.2 (numT b).2.2.2 = 0 := by unfold numT; simp [cmpN]
  unfold cmpV
  rw [h1, h2, h3]
  unfold orI
  rw [if_pos rfl]
  show (if cmpI a b = 0 then if (0 : Int) = 0 then 0 else 0 else cmpI a b) = cmpI a b
  split
  · rename_i h; rw [h]; rfl
  · rfl
theorem rowsV_num (a b : Int) : rowsV [numT a] [numT b] = cmpI a b := by
  rw [rowsV, cmpV_num]
  split
  · rename_i h; rw [h]; rfl
  · rfl
theorem cxV_num0 (a b : Int) : cxV 0 [numT a] [numT b] = cmpI b a := by
  unfold cxV
  rw [if_pos rfl, rowsV_num]
  rcases cmpI_cases a b with ⟨e, h⟩ | ⟨e, h⟩ | ⟨e, h⟩
  · rw [e]; unfold cmpI; rw [if_neg (by omega), if_pos h]; exact wrap64_id _ (by decide)
  · rw [e, h]; unfold cmpI; simp; exact wrap64_id _ (by decide)
  · rw [e]; unfold cmpI; rw [if_pos h]; exact wrap64_id _ (by decide)
theorem cxV_num2 (a b : Int) : cxV 2 [numT a] [numT b] = cmpI a b := by
  unfold cxV
  rw [if_neg (by decide), if_neg (by decide), if_pos (by rfl), rowsV_num]
theorem cxV_num1 (a b : Int) : cxV 1 [numT a] [numT b] = cmpI a b := by
  unfold cxV
  rw [if_neg (by decide), if_pos rfl]
  exact rowsV_num a b

set_option maxHeartbeats 4000000 in
theorem num_calls (C : Nat → Prop) (n : Int) (w : World) (h1 : -9223372036854775808 ≤ n) (h2 : n ≤ 9223372036854775807) (hC : ∀ y, C y → y < w.heap.size) :
    Calls Tryz.prog 30 #[.int .i64 n] w fun e w' => ∃ a, e = .returned (.slice a 1 1) ∧ KeyC C w' a 1 1 [numT n] ∧ Up w w' := by
  have HF : Hid (∀ i, Fits (([numT n] : List VT).getD i zeroT)) := fun i => by
    cases i with
    | zero => exact ⟨show IntKind.i64.min ≤ (1 : Int) by decide, show (1 : Int) ≤ IntKind.i64.max by decide, show IntKind.i64.min ≤ n by simpa [IntKind.min, IntKind.bits, IntKind.signed] using h1, show n ≤ IntKind.i64.max by simpa [IntKind.max, IntKind.bits, IntKind.signed] using h2, by simp [numT, maxLen, ByteArray.size], by simp [numT, whole]⟩
    | succ i => simpa using fits_zero
  have HC := hide hC
  clear h1 h2 hC
  go_enter Tryz.func30, Tryz.ntmps30
  go_wp2
  go_ret
  refine ⟨_, rfl, ⟨⟨by decide, ⟨rfl, HF.out, .inr ⟨w.heap.size, 0, rfl, fun i hi => ?_⟩⟩, fun i => ?_⟩, fun g hg hc => ?_, fun g hg => by obtain ⟨o, ho⟩ := hg; cases ho; simp, Nat.le_refl _, by decide⟩, (Up.refl _).alloc _⟩
  · obtain rfl : i = 0 := by omega
    exact ⟨by go_simp; rfl, by go_simp; rfl, by go_simp; rfl, by go_simp; rfl⟩
  · cases i with
    | zero => simp [numT, ByteArray.size]
    | succ i => simp [zeroT]
  · obtain ⟨o, ho⟩ := hg
    cases ho
    have := HC.out _ hc
    omega
/-- One of the comparators that Hooks tells. -/
theorem pick_cpr {mp : Option Addr} {q B : Nat} {c t h s : Int} {w : World} {l : List Value} (hq : q < l.length) (hx : AllX 53 w mp B l) (tab : TabE w) (tabn : ¬ InM mp 0) (met : MetO w mp c t h s) (hB : ∀ g, InM mp g → g < B) : ∃ mx nx, l.getD q .nilFunc = cpF mx nx ∧ CpW mp q mx nx c t h s w := by
  obtain ⟨mx, nx, h1, h2, h3, h4, h5⟩ := hx q hq
  exact ⟨mx, nx, h1, tab, tabn, met, h2, h3, fun h => by have := hB _ h; omega, fun h => by have := hB _ h; omega⟩
theorem not_none (g : Nat) : ¬ InM none g := fun ⟨_, h, _⟩ => by cases h
theorem met_none (w : World) (c t h s : Int) : MetO w none c t h s := fun p hp => by cases hp
/-- Without a meter whatever is counted. -/
theorem IxW.any {Y : Nat → Prop} {q mx nx X T : Nat} {u : Bool} {L : List EP} {hh n : Nat} {c t h s : Int} {w : World} (i : IxW Y none q mx nx X T u L hh n c t h s w) : IxW Y none q mx nx X T u L hh n 0 0 0 0 w := i.met (Chg.refl _ _) (met_none _ _ _ _ _)
theorem spot_nil (q : Nat) (m : List VT) : Spot q [] m 0 0 := ⟨Nat.le_refl _, Nat.le_refl _, fun j hj => absurd hj (Nat.not_lt_zero _), fun j _ hj => absurd hj (Nat.not_lt_zero _), fun j _ hj => absurd hj (Nat.not_lt_zero _)⟩
theorem spot_all (q : Nat) (L : List EP) (m : List VT) (h : ∀ j, j < L.length → 0 < cxV q (L.getD j (zeroET, [])).2 m) : Spot q L m 0 0 := ⟨Nat.le_refl _, Nat.zero_le _, fun j hj => absurd hj (Nat.not_lt_zero _), fun j _ hj => absurd hj (Nat.not_lt_zero _), fun j _ hj => h j hj⟩
theorem spot_k1 (x : ET) : Spot 0 [(x, [numT 1])] [numT 2] 0 0 := spot_all _ _ _ (fun j hj => by
  obtain rfl : j = 0 := by simp at hj; omega
  show 0 < cxV 0 [numT 1] [numT 2]
  rw [cxV_num0]; decide)
theorem spot_k2 (x y : ET) : Spot 0 [(x, [numT 2]), (y, [numT 1])] [numT 2] 0 1 := ⟨by decide, by simp, fun j hj => absurd hj (Nat.not_lt_zero _), fun j _ hj => by
    obtain rfl : j = 0 := by omega
    show cxV 0 [numT 2] [numT 2] = 0
    rw [cxV_num0]; decide, fun j h1 hj => by
    obtain rfl : j = 1 := by simp at hj; omega
    show 0 < cxV 0 [numT 1] [numT 2]
    rw [cxV_num0]; decide⟩
theorem spot_k3 (x y : ET) : Spot 0 [(x, [numT 2]), (y, [numT 1])] [numT 5] 0 0 := spot_all _ _ _ (fun j hj => by
  match j, hj with
  | 0, _ => show 0 < cxV 0 [numT 2] [numT 5]; rw [cxV_num0]; decide
  | 1, _ => show 0 < cxV 0 [numT 1] [numT 5]; rw [cxV_num0]; decide)
theorem rank_same (L : List EP) (p : Nat) (id : Int) : RankAt L p p id p := ⟨Nat.le_refl _, Nat.le_refl _, fun j h1 h2 => by omega, fun j h1 h2 => by omega⟩
theorem field_hooks (u v : Value) (w : World) : (Instr.field 34 (.agg #[u, v]) 1).run Tryz.prog w = .ok v w := by kernel_rfl
set_option maxHeartbeats 8000000 in
theorem known12_calls (w : World) (hT : TabE w) : Calls Tryz.prog 8 #[] w fun e w' => e = .returned (.bool true) ∧ Up w w' := by
  have HT := hide hT
  have HHK := hide (phooksM_calls none w)
  clear hT
  go_enter Tryz.func8, Tryz.ntmps8
  go_wp2_with fail
  refine HHK.out.mono ?_
  rintro _ w1 ⟨a, c, l, a', c', l', rfl, -, hf, -, hx, -, -, hu1⟩
  obtain ⟨mx, nx, hl0, cw⟩ := pick_cpr (c := 0) (t := 0) (h := 0) (s := 0) (q := 0) (by rw [hf.1]; decide) hx (HT.out.up hu1) (not_none _) (met_none _ _ _ _ _) (fun g h => absurd h (not_none g))
  obtain ⟨gb, go, rfl, hcell⟩ := hf.fnH (i := 0) (by decide)
  rw [hl0, Nat.add_zero] at hcell
  have CW := hide cw
  have HU1 := hide hu1
  have hfl := field_hooks (.slice a 5 c) (.slice (some ⟨gb, go, none⟩) 3 c')
  unfold cpF at hcell
  clear hf hx hl0 cw hu1 HHK
  dsimp only
  go_wp2_with fail
  refine (onew_calls (fun _ => False) none 0 mx nx false 0 0 0 0 w1 CW.out (by decide) (fun g h => not_none g h) (fun g h => h.elim)).mono ?_
  rintro _ w2 ⟨X, T, rfl, ix2, hT2, hu2⟩
  have IX2 := hide ix2
  have HU2 := hide (HU1.out.trans hu2)
  have HTT : Hid (w.heap.size ≤ T) := Nat.le_trans HU1.out.size hT2
  clear ix2 hu2 hT2 CW HU1 hcell hfl
  dsimp only
  go_wp2_with fail
  refine (num_calls (InM none) 1 w2 (by decide) (by decide) (fun y hy => absurd hy (not_none y))).mono ?_
  rintro _ w3 ⟨a3, rfl, k3, hu3⟩
  have K3 := hide k3
  have IX3 := hide (IX2.out.up hu3)
  have HU3 := hide (HU2.out.trans hu3)
  clear k3 hu3 IX2 HU2
  dsimp only
  go_wp2_with fail
  refine (insert_ok (fun _ => False) none 0 mx nx X T false [] 0 0 0 0 0 0 a3 1 1 [numT 1] 1 0 0 0 w3 IX3.out (by decide) (by decide) (by decide) (by decide) (.inl rfl) K3.out (spot_nil _ _) (rank_same _ _ _) rfl rfl).mono ?_
  rintro _ w4 ⟨k4, hh4, n4, x4, hk4, rfl, ix4, hx4, hn4a, hn4b, hc4⟩
  have IX4 := hide ix4.any
  have HU4 : Hid (Up w w4) := ((Chg.of_up HU3.out).trans hc4 (fun _ _ h => h)).up (fun y hy h => by
    rcases h with h | h
    · have := HTT.out; omega
    · exact not_none _ h)
  have HN4 := hide hn4b
  have HX4 := hide hx4
  clear ix4 hk4 hx4 hn4a hn4b hc4 IX3 HU3 K3
  dsimp only
  go_wp2_with fail
  refine (num_calls (InM none) 2 w4 (by decide) (by decide) (fun y hy => absurd hy (not_none y))).mono ?_
  rintro _ w5 ⟨a5, rfl, k5, hu5⟩
  have K5 := hide k5
  have IX5 := hide (IX4.out.up hu5)
  have HU5 := hide (HU4.out.trans hu5)
  clear k5 hu5 IX4 HU4
  dsimp only
  go_wp2_with fail
  refine (insert_ok (fun _ => False) none 0 mx nx X T false [(x4, [numT 1])] hh4 n4 0 0 0 0 a5 1 1 [numT 2] 2 0 0 0 w5 IX5.out (by simp) (by have := HN4.out; omega) (by decide) (by decide) (.inl rfl) K5.out (spot_k1 _) (rank_same _ _ _) (by simp) rfl).mono ?_
  rintro _ w6 ⟨k6, hh6, n6, x6, hk6, rfl, ix6, hx6, hn6a, hn6b, hc6⟩
  have IX6 : Hid (IxW (fun _ => False) none 0 mx nx X T false [(x6, [numT 2]), (x4, [numT 1])] hh6 n6 0 0 0 0 w6) := ix6.any
  have HU6 : Hid (Up w w6) := ((Chg.of_up HU5.out).trans hc6 (fun _ _ h => h)).up (fun y hy h => by
    rcases h with h | h
    · have := HTT.out; omega
    · exact not_none _ h)
  clear ix6 hk6 hx6 hn6a hn6b hc6 IX5 HU5 K5
  dsimp only
  go_wp2_with fail
  refine (num_calls (InM none) 2 w6 (by decide) (by decide) (fun y hy => absurd hy (not_none y))).mono ?_
  rintro _ w7 ⟨a7, rfl, k7, hu7⟩
  have K7 := hide k7
  have IX7 := hide (IX6.out.up hu7)
  have HU7 := hide (HU6.out.trans hu7)
  clear k7 hu7 IX6 HU6
  dsimp only
  go_wp2_with fail
  refine (ofind_ok (fun _ => False) none 0 mx nx X T false _ hh6 n6 0 0 0 0 a7 1 1 [numT 2] 0 1 w7 IX7.out (by simp) (by decide) (by decide) (.inl rfl) K7.out (spot_k2 x6 x4)).mono ?_
  rintro _ w8 ⟨k8, hk8, rfl, hc8, hm8⟩
  have IX8 := hide (IX7.out.met hc8 hm8).any
  have HU8 : Hid (Up w w8) := ((Chg.of_up HU7.out).trans hc8 (fun _ _ h => h)).up (fun y hy h => not_none _ h)
  clear hk8 hc8 hm8 IX7 HU7 K7
  dsimp only
  go_wp2_with fail
  refine (num_calls (InM none) 5 w8 (by decide) (by decide) (fun y hy => absurd hy (not_none y))).mono ?_
  rintro _ w9 ⟨a9, rfl, k9, hu9⟩
  have K9 := hide k9
  have IX9 := hide (IX8.out.up hu9)
  have HU9 := hide (HU8.out.trans hu9)
  clear k9 hu9 IX8 HU8
  dsimp only
  go_wp2_with fail
  refine (oerase_not none 0 mx nx X T false [(x6, [numT 2]), (x4, [numT 1])] hh6 n6 0 0 0 0 a9 1 1 [numT 5] 2 0 0 0 w9 (spotOf_ok (fun _ => False) none 0 mx nx X T false _ hh6 n6 0 0 0 0 a9 1 1 [numT 5] 2 0 0 0 w9 IX9.out (by simp) (by decide) (by decide) (.inl rfl) K9.out (spot_k3 x6 x4) (rank_same _ _ _))).mono ?_
  rintro _ w10 ⟨k10, hk10, rfl, hc10, hm10⟩
  have HU10 : Hid (Up w w10) := ((Chg.of_up HU9.out).trans hc10 (fun _ _ h => h)).up (fun y hy h => not_none _ h)
  have HC := hide (fun (w' : World) (hu : Up w10 w') => class_num 71 w' (HT.out.up (HU10.out.trans hu)))
  clear hk10 hc10 hm10 IX9 HU9 K9
  dsimp only
  go_wp2_with fail
  refine (HC.out w10 (Up.refl _)).mono ?_
  rintro _ w11 ⟨rfl, hu11⟩
  have HU11 := hide (HU10.out.trans hu11)
  clear hu11 HC HU10
  dsimp only
  go_wp2
  go_ret
  exact ⟨rfl, HU11.out⟩
end Go.Proofs.YtnokokhbcfkifaaGreatDoor
