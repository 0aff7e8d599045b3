/-
  An entry of a map from numbers to marks that is there: taken, then written (a pair of stores at once). No function of the program.
-/
import Derived.Test.YtbnkddnjfkagkaaSqMap
import Derived.WideKeyEntry
import Derived.Deep.Draws
import Derived.Maps.RangeWalk
namespace Go.Proofs.Ytbnkddnjfkagkaa
open Go.RowKit Go.Maps Go.MapKept
set_option linter.unusedVariables false

theorem MapU.entry {w : World} {M c s s' : Nat} {f : Int → Option Nat} (h : MapU w M f c) {x : Int} (hw : wf64 x) (hf : f x = some s) (hs' : s' ≤ 18446744073709551615) (hc : c < 1000000) :
    ∃ (v0 : Value) (st : Int) (w' : World), (∀ q, (Instr.mapEntry 82 (.map (some M)) (.int .i64 x)).run Try.prog (w.drewN q) = .ok (.tuple #[v0, .int .i64 st]) (w.drewN q)) ∧
      (∀ q, (Instr.entryStore 82 (.map (some M)) (.int .i64 st) (.int .u64 s')).run Try.prog (w.drewN q) = .ok () (w'.drewN q)) ∧ MapU w' M (upd f x (some s')) c ∧ Chg (fun y => y = M) w w' := by
  have hlook := h.look_some hw hf
  obtain ⟨w', hrun, hm, hch⟩ := h.store hw hs' hc c (by rw [hf]; rfl)
  obtain ⟨D, ⟨es, clock, hb, F, hle, e⟩, hs, ha⟩ := h
  have hks : ∀ y ∈ es.toList, IsKey (.int .i64) y.key := by
    intro y hy
    obtain ⟨z, hz⟩ := F.reads y hy
    have hk := Go.WideElems.rd_key hz
    obtain ⟨v, hv, _⟩ := Maps.keyOf_int_inv Try.underlying2 hk
    rw [hv]
    rfl
  have hk : IsKey (.int .i64) (.int .i64 x) := rfl
  have hm1 : Try.prog.underlying 82 = some (.map 2 89) := Try.underlying82
  have hd : Try.prog.underlying 2 = some (.int .i64) := Try.underlying2
  rcases findNow_spec hk es.toList 0 hks with ⟨h1, h2⟩ | ⟨j, e0, h1, h2, h3⟩
  · exfalso
    simp [Instr.lookup, run_underlying hm1, Go.MapKept.run_getObj_map hb, run_checkKey hd hk, run_findKey hd h1, Result.andThen] at hlook
  · rw [Nat.zero_add] at h1
    obtain ⟨s1, s2, s3⟩ := F.stamped
    have hj : es[j]? = some e0 := by simpa using h2
    have hsame : es.modify j (fun e => { e with key := .int .i64 x }) = es := by
      apply Array.ext'
      rw [Array.toList_modify, Go.ChangeMaps.modify_eq_set _ _ _ _ h2]
      have : ({ e0 with key := .int .i64 x } : MapEntry) = e0 := by rw [← h3]
      rw [this]
      exact Go.WideElems.set_self _ _ _ h2
    have hself : w.heap.setIfInBounds M (.map es clock) = w.heap := by
      have hlt : M < w.heap.size := (Array.getElem?_eq_some_iff.1 hb).1
      have hv := (Array.getElem?_eq_some_iff.1 hb).2
      apply Array.ext (by simp)
      intro i h1 h2
      by_cases hi : M = i
      · subst hi; simp [hv]
      · rw [Array.getElem_setIfInBounds_ne _ (h := hi)]
    have hidx : es.findIdx? (fun e => ((e.born : Nat) : Int) == ((e0.born : Nat) : Int)) = some j := by
      rw [Go.WideElems.findIdx_arr]
      exact Go.WideElems.findIdx_born s2 h2
    have hmod : es.modify j (fun e' => { e' with key := .int .i64 x, val := .int .u64 s' }) = es.modify j (fun e => { e with val := .int .u64 s' }) := by
      apply Array.ext'
      rw [Array.toList_modify, Array.toList_modify, Go.ChangeMaps.modify_eq_set _ _ _ _ h2, Go.ChangeMaps.modify_eq_set _ _ _ _ h2, ← h3]
    have hw' : w' = { w with heap := w.heap.setIfInBounds M (.map (es.modify j (fun e => { e with val := .int .u64 s' })) clock) } := by
      simp [Instr.mapUpdate, run_underlying hm1, Go.MapKept.run_getObj_map hb, run_checkKey hd hk, run_findKey hd h1, hj, h3, run_keyThatStays hk, hmod, Go.MapKept.run_setObj_map _ hb, Result.andThen] at hrun
      exact hrun.symm
    refine ⟨e0.val, (e0.born : Int), w', fun q => ?_, fun q => ?_, hm, hch⟩
    · have hbq : (w.drewN q).heap[M]? = some (.map es clock) := hb
      simp [Instr.mapEntry, run_underlying hm1, Go.MapKept.run_getObj_map hbq, run_checkKey hd hk, run_findKey hd h1, hj, h3, run_keyThatStays hk, hsame, Go.MapKept.run_setObj_map _ hbq, Result.andThen, goInt]
      rw [hself]
      rfl
    · have hbq : (w.drewN q).heap[M]? = some (.map es clock) := hb
      rw [hw']
      simp [Instr.entryStore, Go.MapKept.run_getObj_map hbq, asInt, asIntOf, hidx, Go.MapKept.run_setObj_map _ hbq, Result.andThen]
      rfl
end Go.Proofs.Ytbnkddnjfkagkaa
