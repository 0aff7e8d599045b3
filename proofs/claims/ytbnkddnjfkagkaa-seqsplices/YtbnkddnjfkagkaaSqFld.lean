/-
  What a row is when numbers of it are moved, from the last one on, each right ahead of the one that was moved before: plain.
-/
import Derived.Test.YtbnkddnjfkagkaaSqMov
namespace Go.Proofs.Ytbnkddnjfkagkaa
set_option linter.unusedVariables false

theorem insL_mid (v : Int) (X Y : List Int) : insL v (X ++ Y) X.length = X ++ v :: Y := by unfold insL; rw [List.take_left, List.drop_left]
theorem delL_mid (z : Int) (X Y : List Int) : delL (X ++ z :: Y) X.length = X ++ Y := by
  unfold delL
  rw [List.take_left, List.drop_append]
  simp
/-- One move: the number z of the row A ++ S goes right ahead of S. -/
theorem shL_split {A S : List Int} {z : Int} {a : Nat} (hn : (A ++ S).Nodup) (ha : (A ++ S)[a]? = some z) :
    shL (A ++ S) a A.length = A.erase z ++ z :: S.erase z ∧ shN a A.length = (A.erase z).length := by
  obtain ⟨hl, hz⟩ := List.getElem?_eq_some_iff.1 ha
  have hd := List.nodup_append.1 hn
  have hxs : (A ++ S).getD a 0 = z := by rw [List.getD_eq_getElem?_getD, ha]; rfl
  by_cases h : a < A.length
  · have haz : A[a]? = some z := by rw [← ha, List.getElem?_append_left h]
    have hzA : z ∈ A := List.mem_of_getElem? haz
    have hzS : z ∉ S := fun e => hd.2.2 z hzA z e rfl
    obtain ⟨P, Q, rfl, hP⟩ : ∃ P Q, A = P ++ z :: Q ∧ P.length = a := by
      refine ⟨A.take a, A.drop (a + 1), ?_, by rw [List.length_take]; omega⟩
      have : A[a] = z := (List.getElem?_eq_some_iff.1 haz).2
      rw [← this, List.getElem_cons_drop, List.take_append_drop]
    have hzP : z ∉ P := fun e => (List.nodup_append.1 hd.1).2.2 z e z (by simp) rfl
    have e1 : (P ++ z :: Q).erase z = P ++ Q := by rw [List.erase_append_right _ hzP]; simp
    have e2 : S.erase z = S := List.erase_of_not_mem hzS
    have hs : shN a (P ++ z :: Q).length = (P ++ Q).length := by
      unfold shN; rw [if_pos h]; simp
    rw [e1, e2]
    refine ⟨?_, hs⟩
    have hdl : delL (P ++ z :: Q ++ S) a = P ++ Q ++ S := by
      rw [← hP, show P ++ z :: Q ++ S = P ++ z :: (Q ++ S) by simp, delL_mid]
      simp
    unfold shL
    rw [hxs, hs, hdl]
    split
    · rename_i hq
      have : Q = [] := by
        have : (P ++ Q).length = P.length := by rw [hq, hP]
        simpa using this
      subst this
      simp
    · rw [insL_mid]
  · have hla : a - A.length < S.length := by
      rw [List.length_append] at hl; omega
    have haz : S[a - A.length]? = some z := by rw [← ha, List.getElem?_append_right (by omega)]
    have hzS : z ∈ S := List.mem_of_getElem? haz
    have hzA : z ∉ A := fun e => hd.2.2 z e z hzS rfl
    obtain ⟨P, Q, rfl, hP⟩ : ∃ P Q, S = P ++ z :: Q ∧ P.length = a - A.length := by
      refine ⟨S.take (a - A.length), S.drop (a - A.length + 1), ?_, by rw [List.length_take]; omega⟩
      have : S[a - A.length] = z := (List.getElem?_eq_some_iff.1 haz).2
      rw [← this, List.getElem_cons_drop, List.take_append_drop]
    have hzP : z ∉ P := fun e => (List.nodup_append.1 hd.2.1).2.2 z e z (by simp) rfl
    have e1 : (P ++ z :: Q).erase z = P ++ Q := by rw [List.erase_append_right _ hzP]; simp
    have e2 : A.erase z = A := List.erase_of_not_mem hzA
    have hs : shN a A.length = A.length := by unfold shN; rw [if_neg h]
    rw [e1, e2]
    refine ⟨?_, hs⟩
    have hdl : delL (A ++ (P ++ z :: Q)) a = A ++ (P ++ Q) := by
      have : a = (A ++ P).length := by rw [List.length_append]; omega
      rw [this, show A ++ (P ++ z :: Q) = (A ++ P) ++ z :: Q by simp, delL_mid]
      simp
    unfold shL
    rw [hxs, hs, hdl]
    split
    · rename_i hq
      have : P = [] := by
        have : P.length = 0 := by omega
        exact List.length_eq_zero_iff.1 this
      subst this
      simp
    · rw [insL_mid]
/-- The row and the place behind one move. -/
def stp (s : List Int × Nat) (z : Int) : List Int × Nat := (shL s.1 (s.1.idxOf z) s.2, shN (s.1.idxOf z) s.2)
def offL (zs A : List Int) : List Int := A.filter (fun x => decide (x ∉ zs))
theorem offL_mem {zs A : List Int} {x : Int} : x ∈ offL zs A ↔ x ∈ A ∧ x ∉ zs := by unfold offL; rw [List.mem_filter]; simp
theorem offL_cons {zs A : List Int} {z : Int} (hn : A.Nodup) : (offL zs A).erase z = offL (z :: zs) A := by
  have h1 : (offL zs A).Nodup := hn.filter _
  rw [h1.erase_eq_filter]
  unfold offL
  rw [List.filter_filter]
  congr 1
  funext x
  by_cases h2 : x = z <;> by_cases h3 : x ∈ zs <;> simp [h2, h3]
theorem stp_all {A S zs : List Int} (hn : (A ++ S).Nodup) (hz : zs.Nodup) (hin : ∀ z ∈ zs, z ∈ A ++ S) :
    zs.reverse.foldl stp (A ++ S, A.length) = (offL zs A ++ (zs ++ offL zs S), (offL zs A).length) := by
  have hd := List.nodup_append.1 hn
  induction zs with
  | nil =>
    have e : ∀ l : List Int, offL [] l = l := fun l => by unfold offL; simp
    simp [e]
  | cons z zs ih =>
    have hz' := List.nodup_cons.1 hz
    rw [List.reverse_cons, List.foldl_append, ih hz'.2 (fun y hy => hin y (List.mem_cons_of_mem _ hy))]
    have hn2 : (offL zs A ++ (zs ++ offL zs S)).Nodup := by
      rw [List.nodup_append, List.nodup_append]
      refine ⟨hd.1.filter _, ⟨hz'.2, hd.2.1.filter _, fun a ha b hb e => ?_⟩, fun a ha b hb e => ?_⟩
      · subst e; exact (offL_mem.1 hb).2 ha
      · subst e
        rcases List.mem_append.1 hb with h | h
        · exact (offL_mem.1 ha).2 h
        · exact hd.2.2 a (offL_mem.1 ha).1 a (offL_mem.1 h).1 rfl
    have hzm : z ∈ offL zs A ++ (zs ++ offL zs S) := by
      rcases List.mem_append.1 (hin z (by simp)) with h | h
      · exact List.mem_append_left _ (offL_mem.2 ⟨h, hz'.1⟩)
      · exact List.mem_append_right _ (List.mem_append_right _ (offL_mem.2 ⟨h, hz'.1⟩))
    have hlt := List.idxOf_lt_length_of_mem hzm
    obtain ⟨h1, h2⟩ := shL_split hn2 (a := (offL zs A ++ (zs ++ offL zs S)).idxOf z) (z := z) (by rw [List.getElem?_eq_getElem hlt, List.getElem_idxOf])
    show stp _ z = _
    unfold stp
    dsimp only
    rw [h1, h2, offL_cons hd.1, List.erase_append_right _ hz'.1, offL_cons hd.2.1]
    simp
end Go.Proofs.Ytbnkddnjfkagkaa
