/-
  What the law's own known answers (package rialtolaw6), out of what Run does, as its text runs (a trial).
-/
import Derived.Test.YtmlfkjmondkfnaaDoorHookRun
import Derived.Test.YtmlfkjmondkfnaaDoorHookCode
namespace Go.Proofs.YtmlfkjmondkfnaaDoor
open Go.RowKit
attribute [local go_sem ↓] Go.wp_at_zero Go.wp_at_succ

theorem e_errI (v : Value) (xT : TypeId) (w : World) : (Instr.typeAssert (.iface 3 v) xT 27 true).run Tryd.prog w = .ok (.tuple #[.nilIface, .bool false]) w := run_typeAssert_lacksB Tryd.underlying27 (by kernel_rfl) (by kernel_rfl) v xT w
/-- A fault that a number made is no Twice. -/
theorem noTwice_int (b o : Nat) (s : ByteArray) (n : Int) (w : World) (hg : TabE w) (h : FaultAt w b o s .nilIface (.iface 3 (.int .i64 n))) (w' : World) (ta : Addr) (hu : Up w w') :
    Calls Tryd.prog 12 #[.iface 33 (.pointer (some ⟨b, o, none⟩)), .iface 120 (.pointer (some ta))] w' (Missed w') :=
  fault_oneW b o ta w' (hg.up hu) fun w2 h2 => unwrap_one b o s _ _ w2 (h.up (hu.trans h2)) (fun xT w => e_errI _ xT w)
theorem noTwice_num (b o : Nat) (s : ByteArray) (v pan : Value) (w : World) (hg : TabE w) (h : FaultAt w b o s (.iface 31 v) pan) (w' : World) (ta : Addr) (hu : Up w w') :
    Calls Tryd.prog 12 #[.iface 33 (.pointer (some ⟨b, o, none⟩)), .iface 120 (.pointer (some ta))] w' (Missed w') :=
  fault_twoW b o _ _ ta w' (hg.up hu) (fun w2 h2 => unwrap_err b o s _ _ pan w2 (h.up (hu.trans h2))) (fun tgt h0 h1 n w => as_missEW v tgt h0 h1 n w)

theorem known2_calls (w : World) : Calls Tryd.prog 36 #[] w fun e w' => e = .returned .nilIface ∧ w' = w := by
  go_enter Tryd.func36, Tryd.ntmps36
  go_wp2
  go_ret
  exact ⟨rfl, rfl⟩
theorem known2_enter (w : World) : (callFunc 36 #[]).run Tryd.prog w = .ok (.enter 36 #[]) w := by
  simp [go_sem]
theorem Keeps.refl (B : Nat) (w : World) : Keeps B w w := ⟨Nat.le_refl _, fun _ _ _ => rfl⟩
theorem Up.of_below {w w2 w' : World} (h : Up w w2) (hb : Below w.heap.size w2 w') : Up w w' := Below.trans h.below hb

set_option maxRecDepth 20000 in
set_option maxHeartbeats 4000000 in
theorem known_calls (w : World) (hg : TabE w) : Calls Tryd.prog 8 #[] w fun e w' => e = .returned (.bool true) ∧ Up w w' := by
  have HG := hide hg
  clear hg
  go_enter Tryd.func8, Tryd.ntmps8
  go_wp2_with fail
  go_at_call 9
  refine (run_panics _ 35 #[] 3 (.int .i64 5) (Up w) w (by decide) HG.out (fun x hx => HG.out.up hx) (by decide) known1_enter (fun w' hu => (known1_calls w').mono ?_)).mono ?_
  · rintro _ w2 ⟨rfl, rfl⟩
    exact ⟨rfl, Keeps.refl _ _, hu⟩
  rintro _ w1 ⟨w2, b, rfl, hf, hu2, hb⟩
  have u1 : Hid (Up w w1) := Up.of_below hu2 hb
  have HF := hide hf
  clear hf hu2 hb
  go_wp2_with fail
  go_at_call 33
  refine (class_fault b 0 _ _ _ w1 (HG.out.up u1.out) HF.out (noTwice_int b 0 _ _ w1 (HG.out.up u1.out) HF.out)).mono ?_
  rintro _ w3 ⟨rfl, hu3⟩
  replace HF := hide (HF.out.up hu3)
  replace u1 := hide (u1.out.trans hu3)
  clear hu3
  go_wp2_with fail
  go_at_call 34
  refine (where_fault b 0 _ _ _ w3 (HG.out.up u1.out) HF.out (noTwice_int b 0 _ _ w3 (HG.out.up u1.out) HF.out)).mono ?_
  rintro _ w4 ⟨rfl, hu4⟩
  replace HF := hide (HF.out.up hu4)
  replace u1 := hide (u1.out.trans hu4)
  clear hu4
  go_wp2_with fail
  go_at_call 15
  refine (struck_int b 0 _ _ w4 (HG.out.up u1.out) HF.out).mono ?_
  rintro _ w5 ⟨rfl, hu5⟩
  replace u1 := hide (u1.out.trans hu5)
  clear hu5 HF
  go_wp2_with fail
  go_at_call 9
  refine (run_ok _ 36 #[] (Up w5) w5 known2_enter (fun w' hu => (known2_calls w').mono ?_)).mono ?_
  · rintro _ w6 ⟨rfl, rfl⟩
    exact ⟨rfl, Keeps.refl _ _, hu⟩
  rintro _ w6 ⟨rfl, w7, hu7, hb7⟩
  replace u1 := hide (u1.out.trans (Up.of_below hu7 hb7))
  clear hu7 hb7
  go_wp2_with fail
  go_at_call 9
  refine (run_nil _ w6 (by decide) (HG.out.up u1.out)).mono ?_
  rintro _ w8 ⟨b2, rfl, hf8, hu8⟩
  replace u1 := hide (u1.out.trans hu8)
  have HF := hide hf8
  clear hu8 hf8
  go_wp2_with fail
  go_at_call 33
  refine (class_fault b2 0 _ _ _ w8 (HG.out.up u1.out) HF.out (noTwice_num b2 0 _ _ _ w8 (HG.out.up u1.out) HF.out)).mono ?_
  rintro _ w9 ⟨rfl, hu9⟩
  replace u1 := hide (u1.out.trans hu9)
  clear hu9 HF
  go_wp2
  go_ret
  exact ⟨rfl, u1.out⟩

end Go.Proofs.YtmlfkjmondkfnaaDoor
