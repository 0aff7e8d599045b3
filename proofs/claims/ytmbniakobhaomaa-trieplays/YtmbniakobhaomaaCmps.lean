/-
  What the library's and the program's comparisons of whole numbers, strings and values answer, for every argument, as their text runs: contracts, from the leaves up.
-/
import Derived.Test.YtmbniakobhaomaaRefs
import Derived.Deep.RegionHeld3
import Derived.Deep.DrawnRows
import Derived.Lib.Bytealg
namespace Go.Proofs.Ytmbniakobhaomaa
open Go.ChangeShapes Go.WideShapes Go.ChangeAt Go.RowKit
attribute [local go_sem ↓] Go.wp_at_zero Go.wp_at_succ

/-- How two whole numbers stand. -/
def cmpI (x y : Int) : Int := if x < y then -1 else if y < x then 1 else 0
/-- How two strings stand, byte by byte. -/
def cmpS (s t : ByteArray) : Int := Lib.compareBytes s.data.toList t.data.toList
/-- The first that isn't nought. -/
def orI (a b c d : Int) : Int := if a = 0 then if b = 0 then if c = 0 then d else c else b else a

end Go.Proofs.Ytmbniakobhaomaa
