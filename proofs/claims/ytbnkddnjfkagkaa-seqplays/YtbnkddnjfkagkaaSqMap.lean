/-
  A map from numbers to marks as it lies in memory: asked, written, struck. No function of the program.
-/
import Derived.Test.YtbnkddnjfkagkaaChgs
import Derived.Test.YtbnkddnjfkagkaaRows
import Derived.Maps.OwnSet
import Derived.ProofKit
namespace Go.Proofs.Ytbnkddnjfkagkaa
open Go.RowKit Go.Maps
set_option linter.unusedVariables false

theorem law64 : Keyed Try.prog 2 := int_keyed Try.underlying2
theorem zero_mark (w : World) : (zeroValue 89).run Try.prog w = .ok (.int .u64 0) w := by kernel_rfl
def wf64 (x : Int) : Prop := (Lit.int .i64 x).wf = true
theorem wf64_of {x : Int} (h1 : -9223372036854775808 ≤ x) (h2 : x ≤ 9223372036854775807) : wf64 x := WalkArith.wf_i64 ⟨by omega, by omega⟩
/-- A table with another answer at one number. -/
def upd {β : Type} (f : Int → Option β) (x : Int) (v : Option β) : Int → Option β := fun y => if y = x then v else f y
theorem upd_same {β : Type} (f : Int → Option β) (x : Int) (v : Option β) : upd f x v x = v := if_pos rfl
theorem upd_other {β : Type} (f : Int → Option β) {x y : Int} (v : Option β) (h : y ≠ x) : upd f x v y = f y := if_neg h

/-- Block M is a map of c entries that tells what f tells. -/
def MapU (w : World) (M : Nat) (f : Int → Option Nat) (c : Nat) : Prop :=
  ∃ D : DataW Unit, w.ownsMap Try.prog 2 (plainElem Try.prog 89) M c D ∧ Maps.size D = c ∧ ∀ x, Maps.has D (.int .i64 x) = (f x).isSome ∧ ∀ s, f x = some s → D.atKey (.int .i64 x) (.lit (.int .u64 0)) = .lit (.int .u64 s)

theorem MapU.made (w : World) : MapU (w.alloc (.map #[] 0)) w.heap.size (fun _ => none) 0 :=
  ⟨.map [], World.ownsMap_made _ _ _ _, rfl, fun x => ⟨rfl, fun s h => by cases h⟩⟩
theorem MapU.lt {w : World} {M c : Nat} {f : Int → Option Nat} (h : MapU w M f c) : M < w.heap.size := by obtain ⟨D, h, _⟩ := h; exact h.lt
theorem MapU.chg {C : Nat → Prop} {w w' : World} {M c : Nat} {f : Int → Option Nat} (h : MapU w M f c) (hc : Chg C w w') (hM : ¬ C M) : MapU w' M f c := by
  obtain ⟨D, ⟨es, clock, hb, hr⟩, h⟩ := h
  have hlt : M < w.heap.size := by
    rcases Nat.lt_or_ge M w.heap.size with h' | h'
    · exact h'
    · rw [Array.getElem?_eq_none h'] at hb; cases hb
  exact ⟨D, ⟨es, clock, (hc.2 M hlt hM).trans hb, hr⟩, h⟩
theorem MapU.up {w w' : World} {M c : Nat} {f : Int → Option Nat} (h : MapU w M f c) (hu : Up w w') : MapU w' M f c := h.chg (Chg.of_up (C := fun _ => False) hu) (fun h => h)
theorem chg_turned {w w' : World} {M : Nat} (h : w.mapTurned w' M) : Chg (fun x => x = M) w w' := by
  have hg := h.grown
  exact ⟨⟨hg.os, hg.tape, hg.output, hg.size, fun k hk => absurd hk (Nat.not_lt_zero k)⟩, fun y hy hn => hg.block y hy (fun e => hn (Option.some.inj e))⟩
theorem MapU.look_some {w : World} {M c s : Nat} {f : Int → Option Nat} (h : MapU w M f c) {x : Int} (hw : wf64 x) (hf : f x = some s) :
    (Instr.lookup 82 (.map (some M)) (.int .i64 x) true).run Try.prog w = .ok (.tuple #[.int .u64 s, .bool true]) w := by
  obtain ⟨D, ho, hs, ha⟩ := h
  obtain ⟨v, ps, hrun, hv⟩ := ho.look_ok law64 Try.underlying82 (zero_mark w) (zd := .lit (.int .u64 0)) (zp := []) (plainElem_int Try.underlying89 (by decide)) (keyOf_int_mk Try.underlying2 hw)
  rw [hrun, (ha x).1, hf]
  rw [(ha x).2 s hf] at hv
  obtain ⟨a, rfl, ha2, _⟩ := plainElem_int_inv Try.underlying89 hv
  simp only [Prod.mk.injEq, DataW.lit.injEq, Lit.int.injEq, true_and] at ha2
  rw [← ha2.1]
  rfl
theorem MapU.look_none {w : World} {M c : Nat} {f : Int → Option Nat} (h : MapU w M f c) {x : Int} (hw : wf64 x) (hf : f x = none) :
    (Instr.lookup 82 (.map (some M)) (.int .i64 x) true).run Try.prog w = .ok (.tuple #[.int .u64 0, .bool false]) w := by
  obtain ⟨D, ho, hs, ha⟩ := h
  obtain ⟨v, ps, hrun, hv⟩ := ho.look_ok law64 Try.underlying82 (zero_mark w) (zd := .lit (.int .u64 0)) (zp := []) (plainElem_int Try.underlying89 (by decide)) (keyOf_int_mk Try.underlying2 hw)
  have h0 := (ha x).1
  rw [hf] at h0
  rw [hrun, h0]
  rw [atKey_of_not_has h0] at hv
  obtain ⟨a, rfl, ha2, _⟩ := plainElem_int_inv Try.underlying89 hv
  simp only [Prod.mk.injEq, DataW.lit.injEq, Lit.int.injEq, true_and] at ha2
  rw [← ha2.1]
  rfl
theorem MapU.look_it {w : World} {M c s : Nat} {f : Int → Option Nat} (h : MapU w M f c) {x : Int} (hw : wf64 x) (hf : f x = some s) :
    (Instr.lookup 82 (.map (some M)) (.int .i64 x) false).run Try.prog w = .ok (.int .u64 s) w := by
  obtain ⟨D, ho, hs, ha⟩ := h
  obtain ⟨v, ps, hrun, hv⟩ := ho.lookup law64 Try.underlying82 (zero_mark w) (zd := .lit (.int .u64 0)) (zp := []) (plainElem_int Try.underlying89 (by decide)) (keyOf_int_mk Try.underlying2 hw)
  rw [hrun]
  rw [(ha x).2 s hf] at hv
  obtain ⟨a, rfl, ha2, _⟩ := plainElem_int_inv Try.underlying89 hv
  simp only [Prod.mk.injEq, DataW.lit.injEq, Lit.int.injEq, true_and] at ha2
  rw [← ha2.1]
theorem key_lit {x : Int} (hw : wf64 x) : WideAt.IsKeyLit (.int .i64 x) := law64.key (keyOf_int_mk Try.underlying2 hw)
theorem wf_mark {s : Nat} (h : s ≤ 18446744073709551615) : (Lit.int .u64 (s : Int)).wf = true := WalkArith.wf_u64 ⟨by omega, by omega⟩
/-- A number's mark is written; c' numbers have one then. -/
theorem MapU.store {w : World} {M c s : Nat} {f : Int → Option Nat} (h : MapU w M f c) {x : Int} (hw : wf64 x) (hws : s ≤ 18446744073709551615) (hc : c < 1000000) (c' : Nat) (hc' : c' = if (f x).isSome then c else c + 1) :
    ∃ w', (Instr.mapUpdate 82 (.map (some M)) (.int .i64 x) (.int .u64 s)).run Try.prog w = .ok () w' ∧ MapU w' M (upd f x (some s)) c' ∧ Chg (fun y => y = M) w w' := by
  obtain ⟨D, ho, hs, ha⟩ := h
  obtain ⟨w', hrun, ho', ht⟩ := ho.store law64 Try.underlying82 (by unfold maxLen; omega) (keyOf_int_mk Try.underlying2 hw) (plainElem_int Try.underlying89 (wf_mark hws))
  have h0 : Maps.has D (.int .i64 x) = (f x).isSome := (ha x).1
  have hsz : Maps.size (D.put (.int .i64 x) (.lit (.int .u64 s))) = c' := by
    rw [size_put (ho.tidy law64), h0, hs, hc']
  have ho2 : w'.ownsMap Try.prog 2 (plainElem Try.prog 89) M c' (D.put (.int .i64 x) (.lit (.int .u64 s))) := by
    obtain ⟨es, clock, hb, F, hle, e⟩ := ho'
    refine ⟨es, clock, hb, F, ?_, e⟩
    rw [← hsz, e]
    simp [Maps.size, length_sorted]
  refine ⟨w', hrun, ⟨_, ho2, hsz, fun y => ?_⟩, chg_turned ht⟩
  by_cases hy : y = x
  · subst hy
    rw [upd_same, has_put_same ho.isMap (key_lit hw)]
    refine ⟨rfl, fun s' e => ?_⟩
    cases e
    exact atKey_put_same ho.isMap (key_lit hw) _ _
  · have hne : Lit.int .i64 y ≠ Lit.int .i64 x := fun e => hy (by cases e; rfl)
    rw [upd_other _ _ hy, has_put_other hne, atKey_put_other hne]
    exact ha y
theorem MapU.drop {w : World} {M c s : Nat} {f : Int → Option Nat} (h : MapU w M f c) {x : Int} (hw : wf64 x) (hf : f x = some s) (ty : TypeId) :
    ∃ w', (Builtin.delete_ #[82, 2] ty #[.map (some M), .int .i64 x]).run Try.prog w = .ok (.tuple #[]) w' ∧ MapU w' M (upd f x none) (c - 1) ∧ Chg (fun y => y = M) w w' ∧ 0 < c := by
  obtain ⟨D, ho, hs, ha⟩ := h
  obtain ⟨w', hrun, ho', ht⟩ := ho.drop law64 Try.underlying82 (keyOf_int_mk Try.underlying2 hw) ty
  have h0 : Maps.has D (.int .i64 x) = true := by rw [(ha x).1, hf]; rfl
  have hdel := size_del (k := .int .i64 x) (ho.tidy law64)
  rw [h0, hs, if_pos rfl] at hdel
  have hsz : Maps.size (D.del (.int .i64 x)) = c - 1 := by omega
  have ho2 : w'.ownsMap Try.prog 2 (plainElem Try.prog 89) M (c - 1) (D.del (.int .i64 x)) := by
    obtain ⟨es, clock, hb, F, hle, e⟩ := ho'
    refine ⟨es, clock, hb, F, ?_, e⟩
    rw [← hsz, e]
    simp [Maps.size, length_sorted]
  refine ⟨w', hrun, ⟨_, ho2, hsz, fun y => ?_⟩, chg_turned ht, by omega⟩
  by_cases hy : y = x
  · subst hy
    rw [upd_same, has_del_same]
    exact ⟨rfl, fun s' e => by cases e⟩
  · have hne : Lit.int .i64 y ≠ Lit.int .i64 x := fun e => hy (by cases e; rfl)
    rw [upd_other _ _ hy, has_del_other hne, atKey_del_other hne]
    exact ha y

end Go.Proofs.Ytbnkddnjfkagkaa
