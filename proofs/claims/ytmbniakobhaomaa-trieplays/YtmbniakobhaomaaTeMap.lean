/-
  A map from bytes to nodes as it lies in memory: asked, written, struck. No function of the program.
-/
import Derived.Test.YtmbniakobhaomaaChgs
import Derived.Test.YtmbniakobhaomaaRows
import Derived.Test.YtmbniakobhaomaaTeMod
import Derived.Maps.OwnSet
import Derived.Maps.RangeWalk
import Derived.ProofKit
namespace Go.Proofs.Ytmbniakobhaomaa
open Go.RowKit Go.Maps Go.ChangeMaps
set_option linter.unusedVariables false
set_option maxRecDepth 100000

theorem lawB : Keyed Try.prog 5 := int_keyed Try.underlying5
theorem zero_nptr (w : World) : (zeroValue 54).run Try.prog w = .ok (.pointer none) w := by kernel_rfl
/-- A node's pointer. -/
def nP (q : Nat) : Value := .pointer (some ⟨q, 0, none⟩)
def oP : Option Nat → Value
  | some q => nP q
  | none => .pointer none
def npOf : Value → Option Nat
  | .pointer (some a) => some a.block
  | _ => none
/-- An element is told as it is. -/
def heldN (v : Value) : Option (DataW Value × List MemPlace) := match v with
  | .pointer none => some (.held v, [])
  | .pointer (some ⟨q, 0, none⟩) => some (.held v, [])
  | _ => none
theorem heldN_inv {v : Value} {z : DataW Value × List MemPlace} (h : heldN v = some z) : z = (.held v, []) ∧ v = oP (npOf v) := by
  unfold heldN at h
  split at h
  · cases h; exact ⟨rfl, rfl⟩
  · cases h; exact ⟨rfl, rfl⟩
  · cases h
theorem heldN_nP (q : Nat) : heldN (nP q) = some (.held (nP q), []) := rfl
/-- A byte as a key. -/
abbrev kB (b : UInt8) : Lit := .int .u8 (b.toNat : Int)
theorem wfB (b : UInt8) : (kB b).wf = true := WalkArith.wf_u8 ⟨by omega, by have := b.toNat_lt; omega⟩
theorem kB_inj {a b : UInt8} (h : kB a = kB b) : a = b := by
  injection h with _ h
  exact UInt8.toNat_inj.1 (by omega)

/-- Block M is a map of c entries that tells what f tells. -/
def MapB (w : World) (M : Nat) (f : UInt8 → Option Nat) (c : Nat) : Prop :=
  ∃ D : DataW Value, w.ownsMap Try.prog 5 heldN M c D ∧ Maps.size D = c ∧ ∀ x, Maps.has D (kB x) = (f x).isSome ∧ ∀ q, f x = some q → D.atKey (kB x) (.held (.pointer none)) = .held (nP q)

theorem MapB.made (w : World) : MapB (w.alloc (.map #[] 0)) w.heap.size (fun _ => none) 0 :=
  ⟨.map [], World.ownsMap_made _ _ _ _, rfl, fun x => ⟨rfl, fun s h => by cases h⟩⟩
theorem MapB.lt {w : World} {M c : Nat} {f : UInt8 → Option Nat} (h : MapB w M f c) : M < w.heap.size := by obtain ⟨D, h, _⟩ := h; exact h.lt
theorem MapB.block {w : World} {M c : Nat} {f : UInt8 → Option Nat} (h : MapB w M f c) : ∃ es clock, w.heap[M]? = some (.map es clock) := by
  obtain ⟨D, ⟨es, clock, hb, hr⟩, h⟩ := h
  exact ⟨es, clock, hb⟩
theorem MapB.chg {C : Nat → Prop} {w w' : World} {M c : Nat} {f : UInt8 → Option Nat} (h : MapB w M f c) (hc : Chg C w w') (hM : ¬ C M) : MapB w' M f c := by
  have hlt := h.lt
  obtain ⟨D, ⟨es, clock, hb, hr⟩, h⟩ := h
  exact ⟨D, ⟨es, clock, (hc.2 M hlt hM).trans hb, hr⟩, h⟩
theorem MapB.up {w w' : World} {M c : Nat} {f : UInt8 → Option Nat} (h : MapB w M f c) (hu : Up w w') : MapB w' M f c := h.chg (Chg.of_up (C := fun _ => False) hu) (fun h => h)
theorem chg_turned {w w' : World} {M : Nat} (h : w.mapTurned w' M) : Chg (fun x => x = M) w w' := by
  have hg := h.grown
  exact ⟨⟨hg.os, hg.tape, hg.output, hg.size, fun k hk => absurd hk (Nat.not_lt_zero k)⟩, fun y hy hn => hg.block y hy (fun e => hn (Option.some.inj e))⟩
/-- What is told of a byte. -/
def toldB (f : UInt8 → Option Nat) (x : UInt8) : Value := match f x with | some q => nP q | none => .pointer none
theorem toldB_some {f : UInt8 → Option Nat} {x : UInt8} {q : Nat} (h : f x = some q) : toldB f x = .pointer (some ⟨q, 0, none⟩) := by unfold toldB; rw [h]; rfl
theorem toldB_none {f : UInt8 → Option Nat} {x : UInt8} (h : f x = none) : toldB f x = .pointer none := by unfold toldB; rw [h]
theorem MapB.look {w : World} {M c : Nat} {f : UInt8 → Option Nat} (h : MapB w M f c) (x : UInt8) :
    (Instr.lookup 60 (.map (some M)) (.int .u8 (x.toNat : Int)) false).run Try.prog w = .ok (toldB f x) w := by
  obtain ⟨D, ho, hz, ha⟩ := h
  obtain ⟨v, ps, hrun, hv⟩ := ho.lookup lawB Try.underlying60 (zero_nptr w) (zd := .held (.pointer none)) (zp := []) rfl (keyOf_int_mk Try.underlying5 (wfB x))
  rw [hrun]
  have hv0 := hv
  cases hf : f x with
  | none =>
    have h0 := (ha x).1
    rw [hf] at h0
    rw [atKey_of_not_has h0] at hv
    obtain ⟨h1, _⟩ := heldN_inv hv
    simp only [Prod.mk.injEq] at h1
    have := h1.1
    injection this with this
    rw [← this, toldB_none hf]
  | some u =>
    rw [(ha x).2 u hf] at hv
    obtain ⟨h1, _⟩ := heldN_inv hv
    simp only [Prod.mk.injEq] at h1
    have := h1.1
    injection this with this
    rw [← this, toldB_some hf]
    rfl
theorem key_litB (x : UInt8) : WideAt.IsKeyLit (kB x) := lawB.key (keyOf_int_mk Try.underlying5 (wfB x))
theorem MapB.store {w : World} {M c : Nat} {f : UInt8 → Option Nat} (h : MapB w M f c) (x : UInt8) (q : Nat) (hc : c < 1000000) (c' : Nat) (hc' : c' = if (f x).isSome then c else c + 1) :
    ∃ w', (Instr.mapUpdate 60 (.map (some M)) (.int .u8 (x.toNat : Int)) (.pointer (some ⟨q, 0, none⟩))).run Try.prog w = .ok () w' ∧ MapB w' M (updK f x (some q)) c' ∧ Chg (fun y => y = M) w w' := by
  obtain ⟨D, ho, hz, ha⟩ := h
  obtain ⟨w', hrun, ho', ht⟩ := ho.store lawB Try.underlying60 (by unfold maxLen; omega) (keyOf_int_mk Try.underlying5 (wfB x)) (heldN_nP q)
  have hsz : Maps.size (D.put (kB x) (.held (nP q))) = c' := by
    rw [size_put (ho.tidy lawB), (ha _).1, hz, hc']
  have ho2 : w'.ownsMap Try.prog 5 heldN M c' (D.put (kB x) (.held (nP q))) := by
    obtain ⟨es, clock, hb, F, hle, e⟩ := ho'
    refine ⟨es, clock, hb, F, ?_, e⟩
    rw [← hsz, e]
    simp [Maps.size, length_sorted]
  refine ⟨w', hrun, ⟨_, ho2, hsz, fun y => ?_⟩, chg_turned ht⟩
  by_cases hy : y = x
  · subst hy
    rw [updK_same, has_put_same ho.isMap (key_litB y)]
    refine ⟨rfl, fun s' e => ?_⟩
    cases e
    exact atKey_put_same ho.isMap (key_litB y) _ _
  · have hne : kB y ≠ kB x := fun e => hy (kB_inj e)
    rw [updK_other _ _ hy, has_put_other hne, atKey_put_other hne]
    exact ha y
theorem MapB.drop {w : World} {M c : Nat} {f : UInt8 → Option Nat} (h : MapB w M f c) (x : UInt8) (hf : (f x).isSome = true) (ty : TypeId) :
    ∃ w', (Builtin.delete_ #[60, 5] ty #[.map (some M), .int .u8 (x.toNat : Int)]).run Try.prog w = .ok (.tuple #[]) w' ∧ MapB w' M (updK f x none) (c - 1) ∧ Chg (fun y => y = M) w w' ∧ 0 < c := by
  obtain ⟨D, ho, hz, ha⟩ := h
  obtain ⟨w', hrun, ho', ht⟩ := ho.drop lawB Try.underlying60 (keyOf_int_mk Try.underlying5 (wfB x)) ty
  have h0 : Maps.has D (kB x) = true := by rw [(ha _).1, hf]
  have hdel := size_del (k := kB x) (ho.tidy lawB)
  rw [h0, hz, if_pos rfl] at hdel
  have hsz : Maps.size (D.del (kB x)) = c - 1 := by omega
  have ho2 : w'.ownsMap Try.prog 5 heldN M (c - 1) (D.del (kB x)) := by
    obtain ⟨es, clock, hb, F, hle, e⟩ := ho'
    refine ⟨es, clock, hb, F, ?_, e⟩
    rw [← hsz, e]
    simp [Maps.size, length_sorted]
  refine ⟨w', hrun, ⟨_, ho2, hsz, fun y => ?_⟩, chg_turned ht, by omega⟩
  by_cases hy : y = x
  · subst hy
    rw [updK_same, has_del_same]
    exact ⟨rfl, fun s' e => by cases e⟩
  · have hne : kB y ≠ kB x := fun e => hy (kB_inj e)
    rw [updK_other _ _ hy, has_del_other hne, atKey_del_other hne]
    exact ha y
theorem MapB.len {w : World} {M c : Nat} {f : UInt8 → Option Nat} (h : MapB w M f c) (ty : TypeId) : (Builtin.len_ #[60] ty #[.map (some M)]).run Try.prog w = .ok (.int .i64 c) w := by
  obtain ⟨D, ho, hz, ha⟩ := h
  rw [ho.len Try.underlying60 ty, hz]

end Go.Proofs.Ytmbniakobhaomaa
