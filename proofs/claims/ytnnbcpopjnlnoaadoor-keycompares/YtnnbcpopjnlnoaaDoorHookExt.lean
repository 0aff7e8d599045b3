/-
  What package hook's Extract answers, as its text runs: user code by its own contract.
-/
import Derived.Test.YtnnbcpopjnlnoaaDoorHookExt0
namespace Go.Proofs.YtnnbcpopjnlnoaaDoor
open Go.ChangeShapes Go.WideShapes Go.ChangeAt Go.RowKit
set_option linter.unusedVariables false
attribute [local go_sem ↓] Go.wp_at_zero Go.wp_at_succ
attribute [local go_sem] run_store_float

set_option maxRecDepth 20000 in
set_option maxHeartbeats 16000000 in
theorem ext1_calls (U : FuncId) (ucap : Array Value) (fb vb : Nat) (a : Option Addr) (n c : Nat) (m : List VT) (k z : Int) (t : ByteArray) (f : Nat) (ev rv re : Value) (C : Nat → Prop) (S : World → World → Prop) (y : World) (hT : TabE y) (hC : ∀ b, C b → b < y.heap.size) (hn : n ≤ 12) (hv : Vals y a n m) (hsh : ∀ i, (m.getD i zeroT).2.2.1.size ≤ 200)
    (k0 : y.cell? ⟨fb, 0, none⟩ = some (.func (.func U) #[] ucap)) (k1 : y.cell? ⟨vb, 0, none⟩ = some (.slice a n c))
    (hres : (ev = .nilIface ∧ isB (k, z, t, f) = true ∧ rv = .agg #[.int .i64 k, .int .i64 z, .string t, .float .f64 f] ∧ re = .nilIface) ∨ (ev = .nilIface ∧ isB (k, z, t, f) = false ∧ rv = .agg #[.int .i64 0, .int .i64 0, .string ⟨#[]⟩, .float .f64 0] ∧ re = .iface 76 (.int .i64 10)) ∨ (∃ et e', ev = .iface et e' ∧ rv = .agg #[.int .i64 k, .int .i64 z, .string t, .float .f64 f] ∧ re = .iface et e'))
    (hE : ∀ v w', (callFunc U (#[v] ++ ucap)).run Tryd.prog w' = .ok (.enter U (#[v] ++ ucap)) w')
    (hU : ∀ x a', Up y x → Handed y.heap.size x a' n m → Calls Tryd.prog U (#[.slice a' n n] ++ ucap) x fun e x' => e = .returned (.tuple #[.agg #[.int .i64 k, .int .i64 z, .string t, .float .f64 f], ev]) ∧ Chg (fun b => C b ∨ RowB a' b) x x' ∧ TabE x' ∧ S x x') :
    Calls Tryd.prog 67 #[.pointer (some ⟨fb, 0, none⟩), .pointer (some ⟨vb, 0, none⟩)] y fun e y' => e = .returned (.tuple #[rv, re]) ∧ Chg C y y' ∧ TabE y' ∧ Left y S y' := by
  have HRES := hide hres
  clear hres
  have n1 := run_eql_fn Tryd.underlying70
  have hfb : fb < y.heap.size := World.block_lt_of_cell? y _ k0
  have hvb : vb < y.heap.size := World.block_lt_of_cell? y _ k1
  have HU := hide hU
  have HV := hide hv
  have HSH := hide hsh
  have HT := hide hT
  have HC := hide hC
  clear hU hv hsh hT hC
  go_enter Tryd.func67, Tryd.ntmps67
  go_wp2_with fail
  obtain ⟨Y, hY⟩ : ∃ Y, Y = y.alloc (.cells #[.int .i64 0, .int .i64 0, .string ⟨#[]⟩, .float .f64 0] 49) := ⟨_, rfl⟩
  have uY : Hid (Up y Y) := by rw [hY]; exact (Up.refl _).alloc _
  have hYs : Y.heap.size = y.heap.size + 1 := by rw [hY]; simp
  have l0 := uY.out.cell k0
  have l1 := uY.out.cell k1
  have HB : Hid (Box Y.drew y.heap.size (0, 0, ⟨#[]⟩, 0)) := by rw [hY]; exact (Box.new y (0, 0, ⟨#[]⟩, 0) _).up (Up.refl _).drew
  rw [← hY]
  clear hY k0 k1
  have HY := hide (HV.out.up (uY.out.drew))
  have uD : Hid (Up y Y.drew) := uY.out.drew
  go_region_law (first
    | (go_simp; go_at_call 62; refine (copied_calls a n c m _ hn ?_ HSH.out).mono ?_; (first | exact HY.out | exact HY.out.up ((Up.refl _).alloc _)); rintro _ x1 ⟨a', rfl, hr, hu1⟩;
       have U1 : Hid (Up Y.drew x1) := (by first | exact hu1 | exact ((Up.refl _).alloc _).trans hu1);
       have q0 := U1.out.cell (p := ⟨fb, 0, none⟩) (v := .func (.func U) #[] ucap) l0; have hf1 : fb < x1.heap.size := World.block_lt_of_cell? x1 ⟨fb, 0, none⟩ q0;
       have HR : Hid (Handed Y.heap.size x1 a' n m) := (by first | exact hr | exact Handed.mono hr (by simp));
       (first
         | (have HA : Hid (Box x1 (y.heap.size + 1) (0, 0, ⟨#[]⟩, 0) ∧ ¬ RowB a' (y.heap.size + 1)) := (by rw [← hYs]; exact ⟨Box.up (Box.new Y.drew (0, 0, ⟨#[]⟩, 0) 49) hu1, Handed.not hr (.inl (by simp))⟩))
         | skip);
       clear hr hu1; dsimp only)
    | (go_simp; refine (HU.out _ a' ?_ ?_).mono ?_; (first | exact uD.out.trans U1.out | exact (uD.out.trans U1.out).alloc _); (first | exact HR.out.mono uY.out.size | exact (HR.out.up ((Up.refl _).alloc _)).mono uY.out.size); rintro _ x2 ⟨rfl, hc2, ht2, hS2⟩;
       have HT2 := hide ht2;
       have HE : Hid (Box x2 y.heap.size (0, 0, ⟨#[]⟩, 0)) := (by have hz : Box x1 y.heap.size (0, 0, ⟨#[]⟩, 0) := HB.out.up U1.out; have hno : ¬ (C y.heap.size ∨ RowB a' y.heap.size) := (fun h => h.elim (fun h => by have := HC.out _ h; omega) (fun h => HR.out.not (.inl (by omega)) h)); first | exact hz.chg hc2 hno | exact (hz.up ((Up.refl _).alloc _)).chg hc2 hno);
       have HL2 : Hid (∃ x, Up y x ∧ x1.heap.size ≤ x.heap.size ∧ x.heap.size ≤ x2.heap.size ∧ S x x2) := (by first | exact ⟨x1, uD.out.trans U1.out, Nat.le_refl _, hc2.size, hS2⟩ | exact ⟨_, (uD.out.trans U1.out).alloc _, by simp, hc2.size, hS2⟩);
       have HC2 : Hid (Chg C y x2) := (by first | exact (Chg.of_up (uD.out.trans U1.out)).trans hc2 (fun b hb h => h.resolve_right (HR.out.not (.inl (by omega)))) | exact (Chg.of_up ((uD.out.trans U1.out).alloc _)).trans hc2 (fun b hb h => h.resolve_right (HR.out.not (.inl (by omega)))));
       (first
         | (have HLB : Hid (∃ x, Up y x ∧ x1.heap.size < x.heap.size ∧ x.heap.size ≤ x2.heap.size ∧ S x x2) := ⟨x1.alloc _, (uD.out.trans U1.out).alloc _, by simp, hc2.size, hS2⟩; have HVB : Hid (Box x2 x1.heap.size (0, 0, ⟨#[]⟩, 0) ∧ x1.heap.size < x2.heap.size) := ⟨Box.chg (Box.new x1 (0, 0, ⟨#[]⟩, 0) 49) hc2 (fun h => h.elim (fun h => by have := HC.out _ h; have := (uD.out.trans U1.out).size; omega) (fun h => HR.out.not (.inr (Nat.le_refl _)) h)), by have := hc2.size; simp at this; omega⟩; have HVBb : Hid (Box x2 x1.heap.size (0, 0, ⟨#[]⟩, 0)) := HVB.out.1; have v0 : x2.cell? ⟨x1.heap.size, 0, none⟩ = some (.int .i64 0) := HVBb.out.1.1; have vf0 : x2.frozen? ⟨x1.heap.size, 0, none⟩ = false := HVBb.out.2 0; have v1 : x2.cell? ⟨x1.heap.size, 1, none⟩ = some (.int .i64 0) := HVBb.out.1.2.1; have vf1 : x2.frozen? ⟨x1.heap.size, 1, none⟩ = false := HVBb.out.2 1; have v2 : x2.cell? ⟨x1.heap.size, 2, none⟩ = some (.string ⟨#[]⟩) := HVBb.out.1.2.2.1; have vf2 : x2.frozen? ⟨x1.heap.size, 2, none⟩ = false := HVBb.out.2 2; have v3 : x2.cell? ⟨x1.heap.size, 3, none⟩ = some (.float .f64 0) := HVBb.out.1.2.2.2; have vf3 : x2.frozen? ⟨x1.heap.size, 3, none⟩ = false := HVBb.out.2 3; )
         | (have HVA : Hid (Box x2 (y.heap.size + 1) (0, 0, ⟨#[]⟩, 0)) := Box.chg HA.out.1 hc2 (fun h => h.elim (fun h => by have := HC.out _ h; omega) (fun h => HA.out.2 h)); have v0 : x2.cell? ⟨y.heap.size + 1, 0, none⟩ = some (.int .i64 0) := HVA.out.1.1; have vf0 : x2.frozen? ⟨y.heap.size + 1, 0, none⟩ = false := HVA.out.2 0; have v1 : x2.cell? ⟨y.heap.size + 1, 1, none⟩ = some (.int .i64 0) := HVA.out.1.2.1; have vf1 : x2.frozen? ⟨y.heap.size + 1, 1, none⟩ = false := HVA.out.2 1; have v2 : x2.cell? ⟨y.heap.size + 1, 2, none⟩ = some (.string ⟨#[]⟩) := HVA.out.1.2.2.1; have vf2 : x2.frozen? ⟨y.heap.size + 1, 2, none⟩ = false := HVA.out.2 2; have v3 : x2.cell? ⟨y.heap.size + 1, 3, none⟩ = some (.float .f64 0) := HVA.out.1.2.2.2; have vf3 : x2.frozen? ⟨y.heap.size + 1, 3, none⟩ = false := HVA.out.2 3; )
         | skip);
       clear hc2 hS2 ht2; dsimp only))
  all_goals (
    have hys : y.heap.size + 1 ≤ x1.heap.size := by have := U1.out.size; have e : Y.drew.heap.size = Y.heap.size := rfl; omega
    first
      | (have HX : Hid (PX C S y (k, z, t, f) ((((x2.setCell ⟨x1.heap.size, 0, none⟩ (.int .i64 k)).setCell ⟨x1.heap.size, 1, none⟩ (.int .i64 z)).setCell ⟨x1.heap.size, 2, none⟩ (.string t)).setCell ⟨x1.heap.size, 3, none⟩ (.float .f64 f)) x1.heap.size) := PX.ofSet k z t f HT.out HVB.out.1 (by omega) HLB.out HE.out HC2.out HT2.out
         clear v0 v1 v2 v3 vf0 vf1 vf2 vf3 HVB HVBb HLB HL2 HE HC2 HT2 HU
         revert HX
         generalize (((x2.setCell ⟨x1.heap.size, 0, none⟩ (.int .i64 k)).setCell ⟨x1.heap.size, 1, none⟩ (.int .i64 z)).setCell ⟨x1.heap.size, 2, none⟩ (.string t)).setCell ⟨x1.heap.size, 3, none⟩ (.float .f64 f) = X
         generalize x1.heap.size = vk at *
         intro HX)
      | (have HX : Hid (PX C S y (k, z, t, f) ((((x2.setCell ⟨(y.heap.size + 1), 0, none⟩ (.int .i64 k)).setCell ⟨(y.heap.size + 1), 1, none⟩ (.int .i64 z)).setCell ⟨(y.heap.size + 1), 2, none⟩ (.string t)).setCell ⟨(y.heap.size + 1), 3, none⟩ (.float .f64 f)) (y.heap.size + 1)) := PX.ofSet k z t f HT.out HVA.out (by omega) (HL2.out.imp (fun x h => ⟨h.1, Nat.lt_of_lt_of_le (World.block_lt_of_cell? x1 ⟨y.heap.size + 1, 0, none⟩ HA.out.1.1.1) h.2.1, h.2.2⟩)) HE.out HC2.out HT2.out
         clear v0 v1 v2 v3 vf0 vf1 vf2 vf3 HVA HA HL2 HE HC2 HT2 HU
         revert HX
         generalize (((x2.setCell ⟨(y.heap.size + 1), 0, none⟩ (.int .i64 k)).setCell ⟨(y.heap.size + 1), 1, none⟩ (.int .i64 z)).setCell ⟨(y.heap.size + 1), 2, none⟩ (.string t)).setCell ⟨(y.heap.size + 1), 3, none⟩ (.float .f64 f) = X
         generalize hvk : y.heap.size + 1 = vk
         intro HX)
      | (have HX : Hid (PX C S y (k, z, t, f) (x2.alloc (.cells #[.int .i64 k, .int .i64 z, .string t, .float .f64 f] 49)) x2.heap.size) := PX.ofNew (k, z, t, f) 49 (HL2.out.imp (fun x h => ⟨h.1, by omega, h.2.2⟩)) HE.out HC2.out HT2.out
         clear HL2 HE HC2 HT2 HU
         revert HX
         generalize x2.alloc (.cells #[.int .i64 k, .int .i64 z, .string t, .float .f64 f] 49) = X
         generalize x2.heap.size = vk
         intro HX))
  all_goals (
    clear q0 hf1 HR U1 l0 l1 HB HY uD uY
    have ne1 : ¬ vk = y.heap.size := HX.out.ne
    have ne2 : ¬ y.heap.size = vk := fun e => ne1 e.symm
    have b0 : X.cell? ⟨vk, 0, none⟩ = some (.int .i64 k) := HX.out.box.1.1
    have b1 : X.cell? ⟨vk, 1, none⟩ = some (.int .i64 z) := HX.out.box.1.2.1
    have b2 : X.cell? ⟨vk, 2, none⟩ = some (.string t) := HX.out.box.1.2.2.1
    have b3 : X.cell? ⟨vk, 3, none⟩ = some (.float .f64 f) := HX.out.box.1.2.2.2
    rcases HRES.out with ⟨rfl, hi, rfl, rfl⟩ | ⟨rfl, hi, rfl, rfl⟩ | ⟨et, e', rfl, rfl, rfl⟩)
  all_goals (
    first
    | (have hk : isB (k, z, t, f) = true := hi
       go_wp2_with fail
       go_at_call 68
       refine (vis_calls k z t f _).mono ?_
       rintro _ x4 ⟨rfl, hu4⟩
       rw [hi]
       replace HX := hide (HX.out.up hu4)
       replace b0 := hu4.cell b0
       replace b1 := hu4.cell b1
       replace b2 := hu4.cell b2
       replace b3 := hu4.cell b3
       clear hu4
       have r0 : x4.cell? ⟨y.heap.size, 0, none⟩ = some (.int .i64 0) := HX.out.res.1.1
       have r1 : x4.cell? ⟨y.heap.size, 1, none⟩ = some (.int .i64 0) := HX.out.res.1.2.1
       have r2 : x4.cell? ⟨y.heap.size, 2, none⟩ = some (.string ⟨#[]⟩) := HX.out.res.1.2.2.1
       have r3 : x4.cell? ⟨y.heap.size, 3, none⟩ = some (.float .f64 0) := HX.out.res.1.2.2.2
       have rf0 := HX.out.res.2 0
       have rf1 := HX.out.res.2 1
       have rf2 := HX.out.res.2 2
       have rf3 := HX.out.res.2 3
       go_wp2_with fail
       refine bodyPost_ret (v := .tuple #[.agg #[.int .i64 k, .int .i64 z, .string t, .float .f64 f], .nilIface]) (by simp [results, Tryd.results67, go_sem, *]) rfl ?_
       exact ⟨rfl, HX.out.fin HT.out (.int .i64 k) (.int .i64 z) (.string t) (.float .f64 f)⟩
      )
    | (have hk : isB (k, z, t, f) = false := hi
       go_wp2_with fail
       go_at_call 68
       refine (vis_calls k z t f _).mono ?_
       rintro _ x4 ⟨rfl, hu4⟩
       rw [hi]
       replace HX := hide (HX.out.up hu4)
       replace b0 := hu4.cell b0
       replace b1 := hu4.cell b1
       replace b2 := hu4.cell b2
       replace b3 := hu4.cell b3
       clear hu4
       have r0 : x4.cell? ⟨y.heap.size, 0, none⟩ = some (.int .i64 0) := HX.out.res.1.1
       have r1 : x4.cell? ⟨y.heap.size, 1, none⟩ = some (.int .i64 0) := HX.out.res.1.2.1
       have r2 : x4.cell? ⟨y.heap.size, 2, none⟩ = some (.string ⟨#[]⟩) := HX.out.res.1.2.2.1
       have r3 : x4.cell? ⟨y.heap.size, 3, none⟩ = some (.float .f64 0) := HX.out.res.1.2.2.2
       have rf0 := HX.out.res.2 0
       have rf1 := HX.out.res.2 1
       have rf2 := HX.out.res.2 2
       have rf3 := HX.out.res.2 3
       go_wp2_with fail
       refine bodyPost_ret (v := .tuple #[.agg #[.int .i64 0, .int .i64 0, .string ⟨#[]⟩, .float .f64 0], .iface 76 (.int .i64 10)]) (by simp [results, Tryd.results67, go_sem, *]) rfl ?_
       exact ⟨rfl, HX.out.fin HT.out (.int .i64 0) (.int .i64 0) (.string ⟨#[]⟩) (.float .f64 0)⟩
      )
    | (have hk : et = et := rfl
       have r0 : X.cell? ⟨y.heap.size, 0, none⟩ = some (.int .i64 0) := HX.out.res.1.1
       have r1 : X.cell? ⟨y.heap.size, 1, none⟩ = some (.int .i64 0) := HX.out.res.1.2.1
       have r2 : X.cell? ⟨y.heap.size, 2, none⟩ = some (.string ⟨#[]⟩) := HX.out.res.1.2.2.1
       have r3 : X.cell? ⟨y.heap.size, 3, none⟩ = some (.float .f64 0) := HX.out.res.1.2.2.2
       have rf0 := HX.out.res.2 0
       have rf1 := HX.out.res.2 1
       have rf2 := HX.out.res.2 2
       have rf3 := HX.out.res.2 3
       go_wp2_with fail
       refine bodyPost_ret (v := .tuple #[.agg #[.int .i64 k, .int .i64 z, .string t, .float .f64 f], .iface et e']) (by simp [results, Tryd.results67, go_sem, *]) rfl ?_
       exact ⟨rfl, HX.out.fin HT.out (.int .i64 k) (.int .i64 z) (.string t) (.float .f64 f)⟩
      ))

end Go.Proofs.YtnnbcpopjnlnoaaDoor
