/-
  Definitions of indexes, plainly: which part, which kind with how many parts, which comparator may be; what Def answers; no function of the program.
-/
import Derived.Test.YteigjboelhcaiaaSchModel
namespace Go.Proofs.Yteigjboelhcaiaa
open Go.RowKit

/-- A part that may be: what an extractor tells, or a field. -/
abbrev PartOk (l : List FT) (k : Int) (E : List Bool) (p : PT) : Prop :=
  (p.1 = -1 ∧ 0 ≤ p.2 ∧ p.2 < E.length ∧ E.getD p.2.toNat false = true) ∨ (0 ≤ p.1 ∧ p.1 < l.length ∧ p.2 = 0 ∧ (k = 7 → (l.getD p.1.toNat zeroF).2 = 3))
/-- So many parts as a kind may have. -/
abbrev ManyOk (k : Int) (n : Nat) : Prop := (1 ≤ k ∧ k ≤ 4 ∧ 1 ≤ n ∧ n ≤ 3) ∨ ((k = 5 ∨ k = 6) ∧ n = 0) ∨ (k = 7 ∧ n = 1)
/-- A comparator that may be. -/
abbrev CmpOk (k c : Int) (C : List Bool) : Prop := c = -1 ∨ ((k = 3 ∨ k = 4) ∧ 0 ≤ c ∧ c < C.length ∧ C.getD c.toNat false = true)
/-- A definition of an index. -/
abbrev DefOk (l : List FT) (s : ByteArray) (k : Int) (P : List PT) (c : Int) (E C : List Bool) : Prop :=
  nameB s = true ∧ ManyOk k P.length ∧ CmpOk k c C ∧ ∀ i, i < P.length → PartOk l k E (P.getD i zeroP)
/-- What Def answers. -/
def defN (l : List FT) (s : ByteArray) (k : Int) (P : List PT) (c : Int) (E C : List Bool) : Int :=
  if isF l = true then if DefOk l s k P c E C then 0 else 82 else 40
theorem defN_schema {l : List FT} {s : ByteArray} {k : Int} {P : List PT} {c : Int} {E C : List Bool} (h : isF l = false) : defN l s k P c E C = 40 := by
  unfold defN; rw [h]; rfl
theorem defN_good {l : List FT} {s : ByteArray} {k : Int} {P : List PT} {c : Int} {E C : List Bool} (h : isF l = true) (hd : DefOk l s k P c E C) : defN l s k P c E C = 0 := by
  unfold defN; rw [if_pos h, if_pos hd]
theorem defN_bad {l : List FT} {s : ByteArray} {k : Int} {P : List PT} {c : Int} {E C : List Bool} (h : isF l = true) (hd : ¬ DefOk l s k P c E C) : defN l s k P c E C = 82 := by
  unfold defN; rw [if_pos h, if_neg hd]
theorem defN_name {l : List FT} {s : ByteArray} {k : Int} {P : List PT} {c : Int} {E C : List Bool} (h : isF l = true) (hd : nameB s = false) : defN l s k P c E C = 82 :=
  defN_bad h fun g => Bool.false_ne_true (hd.symm.trans g.1)
theorem defN_many {l : List FT} {s : ByteArray} {k : Int} {P : List PT} {c : Int} {E C : List Bool} (h : isF l = true) (hd : ¬ ManyOk k P.length) : defN l s k P c E C = 82 := defN_bad h fun g => hd g.2.1
theorem defN_cmp {l : List FT} {s : ByteArray} {k : Int} {P : List PT} {c : Int} {E C : List Bool} (h : isF l = true) (hd : ¬ CmpOk k c C) : defN l s k P c E C = 82 := defN_bad h fun g => hd g.2.2.1
theorem defN_part {l : List FT} {s : ByteArray} {k : Int} {P : List PT} {c : Int} {E C : List Bool} (h : isF l = true) {i : Nat} (hi : i < P.length) (hd : ¬ PartOk l k E (P.getD i zeroP)) : defN l s k P c E C = 82 :=
  defN_bad h fun g => hd (g.2.2.2 i hi)

def manyB (k : Int) (n : Nat) : Bool := decide (ManyOk k n)
theorem manyB_iff {k : Int} {n : Nat} : manyB k n = true ↔ ManyOk k n := decide_eq_true_iff
def partB (l : List FT) (k : Int) (E : List Bool) (p : PT) : Bool := decide (PartOk l k E p)
theorem partB_iff {l : List FT} {k : Int} {E : List Bool} {p : PT} : partB l k E p = true ↔ PartOk l k E p := decide_eq_true_iff
def cmpOkB (k c : Int) (C : List Bool) : Bool := decide (CmpOk k c C)
theorem cmpOkB_iff {k c : Int} {C : List Bool} : cmpOkB k c C = true ↔ CmpOk k c C := decide_eq_true_iff
def strB (l : List FT) (p : Int) : Bool := decide (p = -1 ∨ (l.getD p.toNat zeroF).2 = 3)
theorem strB_iff {l : List FT} {p : Int} : strB l p = true ↔ p = -1 ∨ (l.getD p.toNat zeroF).2 = 3 := decide_eq_true_iff

end Go.Proofs.Yteigjboelhcaiaa
