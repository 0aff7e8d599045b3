/-
  hasTwice of seqidx, as its text runs: it tells whether a row has a number twice.
-/
import Derived.Test.YtbnkddnjfkagkaaSqMov
namespace Go.Proofs.Ytbnkddnjfkagkaa
open Go.ChangeShapes Go.WideShapes Go.ChangeAt Go.RowKit Go.Maps
set_option linter.unusedVariables false
set_option maxRecDepth 100000
attribute [local go_sem ↓] Go.wp_at_zero Go.wp_at_succ

def isUnit : Value → Bool
  | .agg cs => cs.size == 0
  | _ => false
def unitE (v : Value) : Option (DataW Value × List MemPlace) := if isUnit v then some (.held v, []) else none
theorem unitE_unit : unitE (.agg #[]) = some (.held (.agg #[]), []) := rfl
/-- Block M is a map that has just the numbers of zs, c of them. -/
def MapE (w : World) (M : Nat) (zs : List Int) (c : Nat) : Prop :=
  ∃ D : DataW Value, w.ownsMap Try.prog 2 unitE M c D ∧ Maps.size D = c ∧ ∀ x, Maps.has D (.int .i64 x) = decide (x ∈ zs)
theorem MapE.made (w : World) : MapE (w.alloc (.map #[] 0)) w.heap.size [] 0 :=
  ⟨.map [], World.ownsMap_made _ _ _ _, rfl, fun x => by simp; rfl⟩
theorem MapE.store {w : World} {M c : Nat} {zs : List Int} (h : MapE w M zs c) {x : Int} (hw : wf64 x) (hc : c < 1000000) (c' : Nat) (hc' : c' = if x ∈ zs then c else c + 1) :
    ∃ w', (Instr.mapUpdate 86 (.map (some M)) (.int .i64 x) (.agg #[])).run Try.prog w = .ok () w' ∧ MapE w' M (zs ++ [x]) c' ∧ Chg (fun y => y = M) w w' := by
  obtain ⟨D, ho, hs, ha⟩ := h
  obtain ⟨w', hrun, ho', ht⟩ := ho.store law64 Try.underlying86 (by unfold maxLen; omega) (keyOf_int_mk Try.underlying2 hw) unitE_unit
  have h0 := ha x
  have hsz : Maps.size (D.put (.int .i64 x) (.held (.agg #[]))) = c' := by
    rw [size_put (ho.tidy law64), h0, hs, hc']
    by_cases hx : x ∈ zs <;> simp [hx]
  have ho2 : w'.ownsMap Try.prog 2 unitE M c' (D.put (.int .i64 x) (.held (.agg #[]))) := by
    obtain ⟨es, clock, hb, F, hle, e⟩ := ho'
    refine ⟨es, clock, hb, F, ?_, e⟩
    rw [← hsz, e]
    simp [Maps.size, length_sorted]
  refine ⟨w', hrun, ⟨_, ho2, hsz, fun y => ?_⟩, chg_turned ht⟩
  by_cases hy : y = x
  · subst hy
    rw [has_put_same ho.isMap (key_lit hw)]
    simp
  · have hne : Lit.int .i64 y ≠ Lit.int .i64 x := fun e => hy (by cases e; rfl)
    rw [has_put_other hne, ha y]
    simp [hy]
theorem MapE.len {w : World} {M c : Nat} {zs : List Int} (h : MapE w M zs c) (ty : TypeId) : (Builtin.len_ #[86] ty #[.map (some M)]).run Try.prog w = .ok (.int .i64 c) w := by
  obtain ⟨D, ho, hs, ha⟩ := h
  rw [ho.len Try.underlying86 ty, hs]
/-- How many of them are unlike one another, told by whether none is there twice. -/
def CntE (zs : List Int) (c : Nat) : Prop := c ≤ zs.length ∧ (c = zs.length ↔ zs.Nodup)
theorem CntE.step {zs : List Int} {c : Nat} (h : CntE zs c) (x : Int) : CntE (zs ++ [x]) (if x ∈ zs then c else c + 1) := by
  obtain ⟨h1, h2⟩ := h
  by_cases hx : x ∈ zs
  · rw [if_pos hx]
    refine ⟨by simp; omega, fun e => by simp at e; omega, fun e => ?_⟩
    rw [List.nodup_append] at e
    exact absurd rfl (e.2.2 x hx x (by simp))
  · rw [if_neg hx]
    refine ⟨by simp; omega, fun e => ?_, fun e => ?_⟩
    · have e1 : c = zs.length := by simpa using e
      rw [List.nodup_append]
      exact ⟨h2.1 e1, by simp, fun a ha b hb => by simp at hb; subst hb; exact fun e => hx (e ▸ ha)⟩
    · rw [List.nodup_append] at e
      simp [h2.2 e.1]
set_option maxHeartbeats 2000000 in
theorem hasTwice_calls (v : Value) (zs : List Int) (w : World) (h : Rd (Value.int .i64) (fun _ => False) w v zs) (hwf : ∀ z ∈ zs, wf64 z) (hx : zs.length ≤ 1000) (b : Bool) (hb : b = decide (¬ zs.Nodup)) :
    Calls Try.prog 49 #[v] w fun e w' => e = .returned (.bool b) ∧ Up w w' := by
  obtain ⟨a, n, c, rfl, hn, -⟩ := h.sliceN
  have H := hide h
  have HN := hide hn.out
  have HW := hide hwf
  have HB := hide hb
  have hn6 : n ≤ 1000 := by rw [HN.out]; exact hx
  obtain ⟨W, hW⟩ : ∃ W, W = w.alloc (.map #[] 0) := ⟨_, rfl⟩
  have HU : Hid (Up w W) := by rw [hW]; exact (Up.refl _).alloc _
  have HM : Hid (MapE W w.heap.size [] 0) := by rw [hW]; exact MapE.made w
  have hW' := hW.symm
  clear h hn hwf hb hx hW
  have hmm := @run_makeMap Try.prog
  go_enter Try.func49, Try.ntmps49
  go_wp2_with fail
  clear hmm hW'
  go_loopw [9] (fun iv wr => ∃ k c : Nat, k ≤ n ∧ iv = .int .i64 k ∧ Hid (MapE wr w.heap.size (zs.take k) c) ∧ Hid (CntE (zs.take k) c) ∧ Hid (Up w wr)) (fun iv _ => n - (intOf iv).toNat)
  case atStart => exact ⟨0, 0, Nat.zero_le _, rfl, by simpa using HM, by simp [CntE, Hid], HU⟩
  case round =>
    obtain ⟨k, m, hk, rfl, hme, hcn, hu⟩ := hrel
    by_cases hkn : k < n
    · have k0 : (0 : Int) ≤ (k : Int) := by omega
      have k1 : (k : Int) < (n : Int) := by omega
      have hkx : k < zs.length := by rw [← HN.out]; exact hkn
      obtain ⟨g, o, rfl, y0⟩ := (H.out.up hu.out).get (i := k) hkx
      obtain ⟨x, hxe⟩ : ∃ x, x = zs[k] := ⟨_, rfl⟩
      have hwx := HW.out x (by rw [hxe]; exact List.getElem_mem hkx)
      have htk : zs.take (k + 1) = zs.take k ++ [x] := by rw [List.take_add_one, List.getElem?_eq_getElem hkx, hxe]; rfl
      have hml : m < 1000000 := by
        have := hcn.out.1
        rw [List.length_take] at this
        omega
      obtain ⟨w6, hrun, hme', hch⟩ := hme.out.store hwx hml _ rfl
      have HME : Hid (MapE w6 w.heap.size (zs.take (k + 1)) (if x ∈ zs.take k then m else m + 1)) := by rw [htk]; exact hme'
      have HCN : Hid (CntE (zs.take (k + 1)) (if x ∈ zs.take k then m else m + 1)) := by rw [htk]; exact hcn.out.step x
      have HU6 : Hid (Up w w6) := (Chg.of_up (C := fun y => y = w.heap.size) hu.out |>.trans hch (fun _ _ h => h)).up (fun y hy e => by omega)
      rw [← hxe] at y0
      clear hxe hwx htk hml hme' hch hkx
      go_wp2
      go_roundw
      case rel => exact ⟨k + 1, _, by omega, by simp, HME, HCN, HU6⟩
      case measure => simp [intOf]; omega
    · obtain rfl : k = n := by omega
      have k1 : ¬ (k : Int) < (k : Int) := by omega
      have hlen := fun ty => hme.out.len ty
      have hfin : decide (m < k) = b := by
        rw [HB.out]
        have := hcn.out
        rw [show zs.take k = zs by rw [HN.out, List.take_length]] at this
        obtain ⟨h1, h2⟩ := this
        rw [← HN.out] at h1 h2
        by_cases hd : zs.Nodup
        · rw [decide_eq_false (by have := h2.2 hd; omega), decide_eq_false (fun e => e hd)]
        · have : m ≠ k := fun e => hd (h2.1 e)
          rw [decide_eq_true (by omega), decide_eq_true hd]
      have HF := hide hfin
      clear hfin
      go_wp2
      go_ret
      exact ⟨by rw [← HF.out]; rfl, hu.out⟩
end Go.Proofs.Ytbnkddnjfkagkaa
