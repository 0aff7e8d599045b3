/-
  Values as bytes, told in plain words: what a row is written as, what bytes are read as. No program is named here.
-/
import Derived.Test.YtofpakpbbpcalaaVals
namespace Go.Proofs.Ytofpakpbbpcalaa

/-- A number's byte above so many. -/
def byteOf (x d : Nat) : UInt8 := UInt8.ofNat (x / d)
theorem byteOf_int (x d : Nat) : (x : Int) / (d : Int) % 256 = ((byteOf x d).toNat : Int) := by
  unfold byteOf
  rw [UInt8.toNat_ofNat']
  omega
/-- A number's eight bytes, the highest first. -/
def wordL (x : Nat) : List UInt8 := [byteOf x 72057594037927936, byteOf x 281474976710656, byteOf x 1099511627776, byteOf x 4294967296, byteOf x 16777216, byteOf x 65536, byteOf x 256, byteOf x 1]

/-- A text's bytes: a nought is followed by 255. -/
def escL : List UInt8 → List UInt8
  | [] => []
  | c :: l => if c = 0 then 0 :: 255 :: escL l else c :: escL l
theorem escL_append (l m : List UInt8) : escL (l ++ m) = escL l ++ escL m := by
  induction l with
  | nil => rfl
  | cons c l ih =>
    by_cases h : c = 0
    · simp [escL, h, ih]
    · simp [escL, h, ih]
theorem escL_length (l : List UInt8) : (escL l).length ≤ 2 * l.length := by
  induction l with
  | nil => simp [escL]
  | cons c l ih =>
    by_cases h : c = 0
    · simp [escL, h]; omega
    · simp [escL, h]; omega
def strL (s : ByteArray) : List UInt8 := escL s.data.toList ++ [0, 1]

/-- An Int as a number that isn't below nought. -/
def upI (n : Int) : Nat := (n + 9223372036854775808).toNat

/-- What a value is written as behind its kind. -/
def bodyV (v : VT) : List UInt8 :=
  if v.1 = 1 then wordL (upI v.2.1) else if v.1 = 2 then [UInt8.ofNat v.2.1.toNat] else if v.1 = 5 then wordL (ordN v.2.2.2) else strL v.2.2.1
def putV (v : VT) : List UInt8 := UInt8.ofNat v.1.toNat :: bodyV v
def putL : List VT → List UInt8
  | [] => []
  | v :: l => putV v ++ putL l
theorem putL_append (l m : List VT) : putL (l ++ m) = putL l ++ putL m := by
  induction l with
  | nil => rfl
  | cons v l ih => simp [putL, ih]
theorem putL_take (l : List VT) (k : Nat) (h : k < l.length) : putL (l.take (k + 1)) = putL (l.take k) ++ putV (l.getD k zeroT) := by
  rw [List.take_add_one, putL_append, List.getElem?_eq_getElem h, List.getD_eq_getElem?_getD, List.getElem?_eq_getElem h]
  simp [putL]

/-- A text out of its bytes, and what is behind it. -/
def unescL : List UInt8 → Option (List UInt8 × List UInt8)
  | [] => none
  | c :: r =>
    if c = 0 then
      match r with
      | [] => none
      | d :: r => if d = 1 then some ([], r) else if d = 255 then (unescL r).map fun p => (0 :: p.1, p.2) else none
    else (unescL r).map fun p => (c :: p.1, p.2)
theorem unescL_nil : unescL [] = none := by simp [unescL]
theorem unescL_char {c : UInt8} {r : List UInt8} (h : ¬ c = 0) : unescL (c :: r) = (unescL r).map fun p => (c :: p.1, p.2) := by
  conv => lhs; unfold unescL
  simp [h]
theorem unescL_end {r : List UInt8} : unescL (0 :: 1 :: r) = some ([], r) := by
  conv => lhs; unfold unescL
  simp
theorem unescL_zero {r : List UInt8} : unescL (0 :: 255 :: r) = (unescL r).map fun p => (0 :: p.1, p.2) := by
  conv => lhs; unfold unescL
  simp
theorem unescL_last : unescL [0] = none := by
  conv => lhs; unfold unescL
  simp
theorem unescL_bad {d : UInt8} {r : List UInt8} (h : ¬ d = 1) (h' : ¬ d = 255) : unescL (0 :: d :: r) = none := by
  conv => lhs; unfold unescL
  simp [h, h']

end Go.Proofs.Ytofpakpbbpcalaa
