/-
  A map from bytes to groups as it lies in memory: asked, written, struck. No function of the program.
-/
import Derived.Test.YtofpakpbbpcalaaChgs
import Derived.Test.YtofpakpbbpcalaaRows
import Derived.Maps.OwnSet
import Derived.Maps.RangeWalk
import Derived.StringKeys
import Derived.ProofKit
namespace Go.Proofs.Ytofpakpbbpcalaa
open Go.RowKit Go.Maps Go.ChangeMaps
set_option maxRecDepth 100000

theorem lawS : Keyed Try.prog 9 := string_keyed Try.underlying9
def zeroG : Value := .agg #[.slice none 0 0, .slice none 0 0]
theorem zero_grp (w : World) : (zeroValue 64).run Try.prog w = .ok zeroG w := by kernel_rfl
/-- A group: two slices. -/
def isGrp : Value → Bool
  | .agg cs => match cs.toList with
    | [.slice _ _ _, .slice _ _ _] => true
    | _ => false
  | _ => false
/-- An element is told as it is. -/
def heldE (v : Value) : Option (DataW Value × List MemPlace) := if isGrp v then some (.held v, []) else none
theorem heldE_inv {v : Value} {z : DataW Value × List MemPlace} (h : heldE v = some z) : z = (.held v, []) ∧ isGrp v = true := by
  unfold heldE at h
  cases hg : isGrp v with
  | false => rw [hg] at h; cases h
  | true => rw [hg] at h; cases h; exact ⟨rfl, rfl⟩
/-- A table with another answer at one key. -/
def updS (f : List UInt8 → Option Value) (x : List UInt8) (v : Option Value) : List UInt8 → Option Value := fun y => if y = x then v else f y
theorem updS_same (f : List UInt8 → Option Value) (x : List UInt8) (v : Option Value) : updS f x v x = v := if_pos rfl
theorem updS_other (f : List UInt8 → Option Value) {x y : List UInt8} (v : Option Value) (h : y ≠ x) : updS f x v y = f y := if_neg h

/-- Block M is a map of c entries that tells what f tells. -/
def MapS (w : World) (M : Nat) (f : List UInt8 → Option Value) (c : Nat) : Prop :=
  ∃ D : DataW Value, w.ownsMap Try.prog 9 heldE M c D ∧ Maps.size D = c ∧ ∀ x, Maps.has D (.string x) = (f x).isSome ∧ ∀ v, f x = some v → D.atKey (.string x) (.held zeroG) = .held v

theorem MapS.made (w : World) : MapS (w.alloc (.map #[] 0)) w.heap.size (fun _ => none) 0 :=
  ⟨.map [], World.ownsMap_made _ _ _ _, rfl, fun x => ⟨rfl, fun s h => by cases h⟩⟩
theorem MapS.lt {w : World} {M c : Nat} {f : List UInt8 → Option Value} (h : MapS w M f c) : M < w.heap.size := by obtain ⟨D, h, _⟩ := h; exact h.lt
theorem MapS.chg {C : Nat → Prop} {w w' : World} {M c : Nat} {f : List UInt8 → Option Value} (h : MapS w M f c) (hc : Chg C w w') (hM : ¬ C M) : MapS w' M f c := by
  obtain ⟨D, ⟨es, clock, hb, hr⟩, h⟩ := h
  have hlt : M < w.heap.size := by
    rcases Nat.lt_or_ge M w.heap.size with h' | h'
    · exact h'
    · rw [Array.getElem?_eq_none h'] at hb; cases hb
  exact ⟨D, ⟨es, clock, (hc.2 M hlt hM).trans hb, hr⟩, h⟩
theorem MapS.up {w w' : World} {M c : Nat} {f : List UInt8 → Option Value} (h : MapS w M f c) (hu : Up w w') : MapS w' M f c := h.chg (Chg.of_up (C := fun _ => False) hu) (fun h => h)
theorem chg_turned {w w' : World} {M : Nat} (h : w.mapTurned w' M) : Chg (fun x => x = M) w w' := by
  have hg := h.grown
  exact ⟨⟨hg.os, hg.tape, hg.output, hg.size, fun k hk => absurd hk (Nat.not_lt_zero k)⟩, fun y hy hn => hg.block y hy (fun e => hn (Option.some.inj e))⟩
/-- What is told of a key: its element, or the zero. -/
def toldS (f : List UInt8 → Option Value) (x : List UInt8) : Value := (f x).getD zeroG
theorem MapS.look_ok {w : World} {M c : Nat} {f : List UInt8 → Option Value} (h : MapS w M f c) {s : ByteArray} (hs : s.size ≤ maxLen) :
    (Instr.lookup 59 (.map (some M)) (.string s) true).run Try.prog w = .ok (.tuple #[toldS f s.data.toList, .bool (f s.data.toList).isSome]) w := by
  obtain ⟨D, ho, hz, ha⟩ := h
  obtain ⟨v, ps, hrun, hv⟩ := ho.look_ok lawS Try.underlying59 (zero_grp w) (zd := .held zeroG) (zp := []) rfl (WideMaps.keyOf_string_mk Try.underlying9 hs)
  rw [hrun, (ha _).1]
  replace hv := (heldE_inv hv).1
  simp only [Prod.mk.injEq] at hv
  cases hf : f s.data.toList with
  | none =>
    have h0 := (ha s.data.toList).1
    rw [hf] at h0
    rw [atKey_of_not_has h0] at hv
    have := hv.1
    injection this with this
    rw [← this, toldS, hf]
    rfl
  | some u =>
    rw [(ha _).2 u hf] at hv
    have := hv.1
    injection this with this
    rw [← this, toldS, hf]
    rfl
theorem MapS.look {w : World} {M c : Nat} {f : List UInt8 → Option Value} (h : MapS w M f c) {s : ByteArray} (hs : s.size ≤ maxLen) :
    (Instr.lookup 59 (.map (some M)) (.string s) false).run Try.prog w = .ok (toldS f s.data.toList) w := by
  obtain ⟨D, ho, hz, ha⟩ := h
  obtain ⟨v, ps, hrun, hv⟩ := ho.lookup lawS Try.underlying59 (zero_grp w) (zd := .held zeroG) (zp := []) rfl (WideMaps.keyOf_string_mk Try.underlying9 hs)
  rw [hrun]
  replace hv := (heldE_inv hv).1
  simp only [Prod.mk.injEq] at hv
  cases hf : f s.data.toList with
  | none =>
    have h0 := (ha s.data.toList).1
    rw [hf] at h0
    rw [atKey_of_not_has h0] at hv
    have := hv.1
    injection this with this
    rw [← this, toldS, hf]
    rfl
  | some u =>
    rw [(ha _).2 u hf] at hv
    have := hv.1
    injection this with this
    rw [← this, toldS, hf]
    rfl
theorem key_litS {s : ByteArray} (hs : s.size ≤ maxLen) : WideAt.IsKeyLit (.string s.data.toList) := lawS.key (WideMaps.keyOf_string_mk Try.underlying9 hs)
theorem MapS.store {w : World} {M c : Nat} {f : List UInt8 → Option Value} (h : MapS w M f c) {s : ByteArray} (hs : s.size ≤ maxLen) (v : Value) (hv : heldE v = some (.held v, [])) (hc : c < 1000000) :
    ∃ w' c', (Instr.mapUpdate 59 (.map (some M)) (.string s) v).run Try.prog w = .ok () w' ∧ MapS w' M (updS f s.data.toList (some v)) c' ∧ c' = (if (f s.data.toList).isSome then c else c + 1) ∧ Chg (fun y => y = M) w w' := by
  obtain ⟨D, ho, hz, ha⟩ := h
  obtain ⟨w', hrun, ho', ht⟩ := ho.store lawS Try.underlying59 (by unfold maxLen; omega) (WideMaps.keyOf_string_mk Try.underlying9 hs) hv
  have hsz : Maps.size (D.put (.string s.data.toList) (.held v)) = (if (f s.data.toList).isSome then c else c + 1) := by
    rw [size_put (ho.tidy lawS), (ha _).1, hz]
  have ho2 : w'.ownsMap Try.prog 9 heldE M (if (f s.data.toList).isSome then c else c + 1) (D.put (.string s.data.toList) (.held v)) := by
    obtain ⟨es, clock, hb, F, hle, e⟩ := ho'
    refine ⟨es, clock, hb, F, ?_, e⟩
    rw [← hsz, e]
    simp [Maps.size, length_sorted]
  refine ⟨w', _, hrun, ⟨_, ho2, hsz, fun y => ?_⟩, rfl, chg_turned ht⟩
  by_cases hy : y = s.data.toList
  · subst hy
    rw [updS_same, has_put_same ho.isMap (key_litS hs)]
    refine ⟨rfl, fun s' e => ?_⟩
    cases e
    exact atKey_put_same ho.isMap (key_litS hs) _ _
  · have hne : Lit.string y ≠ Lit.string s.data.toList := fun e => hy (by cases e; rfl)
    rw [updS_other _ _ hy, has_put_other hne, atKey_put_other hne]
    exact ha y
theorem MapS.drop {w : World} {M c : Nat} {f : List UInt8 → Option Value} (h : MapS w M f c) {s : ByteArray} (hs : s.size ≤ maxLen) (hf : (f s.data.toList).isSome = true) (ty : TypeId) :
    ∃ w', (Builtin.delete_ #[59, 9] ty #[.map (some M), .string s]).run Try.prog w = .ok (.tuple #[]) w' ∧ MapS w' M (updS f s.data.toList none) (c - 1) ∧ Chg (fun y => y = M) w w' ∧ 0 < c := by
  obtain ⟨D, ho, hz, ha⟩ := h
  obtain ⟨w', hrun, ho', ht⟩ := ho.drop lawS Try.underlying59 (WideMaps.keyOf_string_mk Try.underlying9 hs) ty
  have h0 : Maps.has D (.string s.data.toList) = true := by rw [(ha _).1, hf]
  have hdel := size_del (k := .string s.data.toList) (ho.tidy lawS)
  rw [h0, hz, if_pos rfl] at hdel
  have hsz : Maps.size (D.del (.string s.data.toList)) = c - 1 := by omega
  have ho2 : w'.ownsMap Try.prog 9 heldE M (c - 1) (D.del (.string s.data.toList)) := by
    obtain ⟨es, clock, hb, F, hle, e⟩ := ho'
    refine ⟨es, clock, hb, F, ?_, e⟩
    rw [← hsz, e]
    simp [Maps.size, length_sorted]
  refine ⟨w', hrun, ⟨_, ho2, hsz, fun y => ?_⟩, chg_turned ht, by omega⟩
  by_cases hy : y = s.data.toList
  · subst hy
    rw [updS_same, has_del_same]
    exact ⟨rfl, fun s' e => by cases e⟩
  · have hne : Lit.string y ≠ Lit.string s.data.toList := fun e => hy (by cases e; rfl)
    rw [updS_other _ _ hy, has_del_other hne, atKey_del_other hne]
    exact ha y

end Go.Proofs.Ytofpakpbbpcalaa
