/-
  What value.Compare and value.Same answer, for every two values and whatever is none, as their text runs; nothing that was there is written.
-/
import Derived.Test.YtmbniakobhaomaaCmps
import Derived.Test.YtmbniakobhaomaaUps
namespace Go.Proofs.Ytmbniakobhaomaa
open Go.ChangeShapes Go.WideShapes Go.ChangeAt Go.RowKit
attribute [local go_sem ↓] Go.wp_at_zero Go.wp_at_succ

/-- A value's four fields. -/
abbrev VT := Int × Int × ByteArray × Nat
/-- How two values stand. -/
def cmpV (a b : VT) : Int := orI (cmpI a.1 b.1) (cmpI a.2.1 b.2.1) (cmpS a.2.2.1 b.2.2.1) (cmpN a.2.2.2 b.2.2.2)

end Go.Proofs.Ytmbniakobhaomaa
