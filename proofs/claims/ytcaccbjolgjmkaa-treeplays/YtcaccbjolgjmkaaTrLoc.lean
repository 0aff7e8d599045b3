/-
  What is done to a list at a place: one more, one less, another one; plain facts, no function of the program.
-/
import Derived.Test.YtcaccbjolgjmkaaTrNd
namespace Go.Proofs.Ytcaccbjolgjmkaa

def insL {α : Type} (v : α) (l : List α) (j : Nat) : List α := l.take j ++ v :: l.drop j
def delL {α : Type} (l : List α) (j : Nat) : List α := l.take j ++ l.drop (j + 1)
def setL {α : Type} (v : α) (l : List α) (j : Nat) : List α := l.set j v
theorem insL_len {α : Type} (v : α) (l : List α) (j : Nat) (h : j ≤ l.length) : (insL v l j).length = l.length + 1 := by
  unfold insL; rw [List.length_append, List.length_take, List.length_cons, List.length_drop]; omega
theorem delL_len {α : Type} (l : List α) (j : Nat) (h : j < l.length) : (delL l j).length + 1 = l.length := by
  unfold delL; rw [List.length_append, List.length_take, List.length_drop]; omega
theorem setL_len {α : Type} (v : α) (l : List α) (j : Nat) : (setL v l j).length = l.length := by
  unfold setL; rw [List.length_set]
theorem take_mid {α : Type} (a es b : List α) (j : Nat) (h : j ≤ es.length) : (a ++ (es ++ b)).take (a.length + j) = a ++ es.take j := by
  rw [List.take_length_add_append, List.take_append_of_le_length h]
theorem drop_mid {α : Type} (a es b : List α) (j : Nat) (h : j ≤ es.length) : (a ++ (es ++ b)).drop (a.length + j) = es.drop j ++ b := by
  rw [← List.drop_drop, List.drop_left, List.drop_append_of_le_length h]
theorem local_ins {α : Type} (v : α) : Local false (insL v) where
  part := fun a es b j h => by
    unfold insL
    rw [take_mid a es b j h.1, drop_mid a es b j h.1]
    simp
  more := fun es j h => by rw [insL_len v es j h.1]; exact Nat.le_refl _
  less := fun es j h => by rw [insL_len v es j h.1]; omega
theorem local_del {α : Type} : Local true (delL (α := α)) where
  part := fun a es b j h => by
    have := h.2 rfl
    unfold delL
    rw [take_mid a es b j h.1, Nat.add_assoc, drop_mid a es b (j + 1) this]
    simp
  more := fun es j h => by have := delL_len es j (h.2 rfl); omega
  less := fun es j h => by have := delL_len es j (h.2 rfl); omega
theorem local_set {α : Type} (v : α) : Local true (setL v) where
  part := fun a es b j h => by
    have := h.2 rfl
    unfold setL
    rw [List.set_append_right _ _ (by omega), show a.length + j - a.length = j by omega, List.set_append_left _ _ this]
  more := fun es j h => by rw [setL_len]; omega
  less := fun es j h => by rw [setL_len]; omega
theorem get_mid {α : Type} (z : α) (a es b : List α) (j : Nat) (h : j < es.length) : (a ++ (es ++ b)).getD (a.length + j) z = es.getD j z := by
  simp only [List.getD_eq_getElem?_getD]
  rw [List.getElem?_append_right (by omega), show a.length + j - a.length = j by omega, List.getElem?_append_left h]
end Go.Proofs.Ytcaccbjolgjmkaa
