/-
  No cell of these rows narrows 'for every input' (looked for: loops, veiled, ifaces, maps, wideKeys, modest, calm, conditions, laid).
  DERIVED. THE GIVEN ROWS OF THIS SEAT. 5 by the template 'for every input the law returns true; each argument reads behind the call as it read before'; 0 by the template 'total and deterministic' (their statements: YtaodekbpjkcpeaaTotals.lean).
  GIVEN WITH THE SEED: the statements are not yours to turn. If you find one false, say at which input.
  Laid BY PROGRAM, IN A SANDBOX (cutbox-rows.mjs): the forced cells as the released guide's own fill.sh prints them over the translation 9b0e7e3c69afc02e… (all of the seat's roots in one cut). By AI agents, Wed Nov 11 2026. No macro, syntax, notation, axiom, sorry.
-/
import Derived.Test.YtaodekbpjkcpeaaChecked
import GoSem.Claim
import GoSem.ClaimJoined
import GoSem.ClaimMapViews
import Derived.JoinedTies
import Derived.KernelRfl
namespace Go.Proofs.Ytaodekbpjkcpeaa
/- THE CELL 'sum', in the pinned program and in every row, IS THE sha256 OF THE DUMP (.gsa) THAT YtaodekbpjkcpeaaProg.lean LOADS. Nothing in Lean hashes anything: it is a label: what it is worth is what the hold of that sum in a sandbox is worth. -/
noncomputable def Try.pinned : Pinned := { name := "ytaodekbpjkcpeaa", sum := "9b0e7e3c69afc02eb40ef1e5ce08c358034787a267842898e6e156ae97eb08f2", checked := Try.checked }
namespace Rows
def none {H : Type} : Left H := { results := [], args := [] }

/-- 'rialtolaw9.RowCopies': WHATEVER THE INPUT: true; the input reads as it did. -/
def rowCopiesSpec : ChangeSpec := { name := "rowCopies", fn := fun _ => fun
  | [d1, d2] => { results := [.lit (.bool true)], args := [d1, d2] }
  | _ => none }
def rowCopiesRow : OpenClaim := { program := "ytaodekbpjkcpeaa", sum := "9b0e7e3c69afc02eb40ef1e5ce08c358034787a267842898e6e156ae97eb08f2", func := "rialto/rialtolaw9.RowCopies", spec := "rowCopies", inPlace := ["math.Float64bits"], unfollowed := true, recurses := true, apart := false }
def RowCopiesSaid : Prop := rowCopiesRow.holds Try.pinned (OpenSpec.ofChange rowCopiesSpec)

/-- ITS FALSE NEIGHBOUR: 'it returns false'. Refute it at one input. -/
def rowCopiesWrong : ChangeSpec := { name := "rowCopies", fn := fun _ => fun
  | [d1, d2] => { results := [.lit (.bool false)], args := [d1, d2] }
  | _ => none }
def RowCopiesWrongFalsely : Prop := rowCopiesRow.holds Try.pinned (OpenSpec.ofChange rowCopiesWrong)

/-- 'rialtolaw9.RowPlays': WHATEVER THE INPUT: true; the input reads as it did. -/
def rowPlaysSpec : ChangeSpec := { name := "rowPlays", fn := fun _ => fun
  | [d1, d2] => { results := [.lit (.bool true)], args := [d1, d2] }
  | _ => none }
def rowPlaysRow : OpenClaim := { program := "ytaodekbpjkcpeaa", sum := "9b0e7e3c69afc02eb40ef1e5ce08c358034787a267842898e6e156ae97eb08f2", func := "rialto/rialtolaw9.RowPlays", spec := "rowPlays", inPlace := ["math.Float64bits"], unfollowed := true, recurses := true, apart := false }
def RowPlaysSaid : Prop := rowPlaysRow.holds Try.pinned (OpenSpec.ofChange rowPlaysSpec)

/-- ITS FALSE NEIGHBOUR: 'it returns false'. Refute it at one input. -/
def rowPlaysWrong : ChangeSpec := { name := "rowPlays", fn := fun _ => fun
  | [d1, d2] => { results := [.lit (.bool false)], args := [d1, d2] }
  | _ => none }
def RowPlaysWrongFalsely : Prop := rowPlaysRow.holds Try.pinned (OpenSpec.ofChange rowPlaysWrong)

/-- 'rialtolaw9.RowNumbers': WHATEVER THE INPUT: true; the input reads as it did. -/
def rowNumbersSpec : ChangeSpec := { name := "rowNumbers", fn := fun _ => fun
  | [d] => { results := [.lit (.bool true)], args := [d] }
  | _ => none }
def rowNumbersRow : OpenClaim := { program := "ytaodekbpjkcpeaa", sum := "9b0e7e3c69afc02eb40ef1e5ce08c358034787a267842898e6e156ae97eb08f2", func := "rialto/rialtolaw9.RowNumbers", spec := "rowNumbers", unfollowed := true, recurses := true, apart := false }
def RowNumbersSaid : Prop := rowNumbersRow.holds Try.pinned (OpenSpec.ofChange rowNumbersSpec)

/-- ITS FALSE NEIGHBOUR: 'it returns false'. Refute it at one input. -/
def rowNumbersWrong : ChangeSpec := { name := "rowNumbers", fn := fun _ => fun
  | [d] => { results := [.lit (.bool false)], args := [d] }
  | _ => none }
def RowNumbersWrongFalsely : Prop := rowNumbersRow.holds Try.pinned (OpenSpec.ofChange rowNumbersWrong)

/-- 'rialtolaw9.RowRoom': WHATEVER THE INPUT: true; the input reads as it did. -/
def rowRoomSpec : ChangeSpec := { name := "rowRoom", fn := fun _ => fun
  | [d1, d2] => { results := [.lit (.bool true)], args := [d1, d2] }
  | _ => none }
def rowRoomRow : OpenClaim := { program := "ytaodekbpjkcpeaa", sum := "9b0e7e3c69afc02eb40ef1e5ce08c358034787a267842898e6e156ae97eb08f2", func := "rialto/rialtolaw9.RowRoom", spec := "rowRoom", unfollowed := true, recurses := true, apart := false }
def RowRoomSaid : Prop := rowRoomRow.holds Try.pinned (OpenSpec.ofChange rowRoomSpec)

/-- ITS FALSE NEIGHBOUR: 'it returns false'. Refute it at one input. -/
def rowRoomWrong : ChangeSpec := { name := "rowRoom", fn := fun _ => fun
  | [d1, d2] => { results := [.lit (.bool false)], args := [d1, d2] }
  | _ => none }
def RowRoomWrongFalsely : Prop := rowRoomRow.holds Try.pinned (OpenSpec.ofChange rowRoomWrong)

/-- 'rialtolaw9.RowBack': WHATEVER THE INPUT: true; the input reads as it did. -/
def rowBackSpec : ChangeSpec := { name := "rowBack", fn := fun _ => fun
  | [d1, d2] => { results := [.lit (.bool true)], args := [d1, d2] }
  | _ => none }
def rowBackRow : OpenClaim := { program := "ytaodekbpjkcpeaa", sum := "9b0e7e3c69afc02eb40ef1e5ce08c358034787a267842898e6e156ae97eb08f2", func := "rialto/rialtolaw9.RowBack", spec := "rowBack", unfollowed := true, recurses := true, apart := false }
def RowBackSaid : Prop := rowBackRow.holds Try.pinned (OpenSpec.ofChange rowBackSpec)

/-- ITS FALSE NEIGHBOUR: 'it returns false'. Refute it at one input. -/
def rowBackWrong : ChangeSpec := { name := "rowBack", fn := fun _ => fun
  | [d1, d2] => { results := [.lit (.bool false)], args := [d1, d2] }
  | _ => none }
def RowBackWrongFalsely : Prop := rowBackRow.holds Try.pinned (OpenSpec.ofChange rowBackWrong)

/- THE SECOND FORM. 'bulk': how many values and letters a reading holds, each counted each time it is reached (what is shared counts as often as it is met; a slice's spare places count too). A statement '..UptoSaid' is the law's where the arguments, and the package variables that the reading takes, are together of bulk at most 1048576: NARROWER than '..Said'. Prove '..Said' where nothing that the law and all that it calls make is longer than what came in: it says more and counts as full. Else prove '..UptoSaid'. A law counts once. -/
mutual
def uptoBulk {H : Type} : DataW H → Nat
  | .lit (.string bytes) => bytes.length + 1
  | .lit _ => 1
  | .nil => 1
  | .ptr d => uptoBulk d + 1
  | .slice elems spare => uptoBulkAll elems + uptoBulkAll spare + 1
  | .agg parts => uptoBulkAll parts + 1
  | .iface _ d => uptoBulk d + 1
  | .map entries => uptoBulkEntries entries + 1
  | .held _ => 1
def uptoBulkAll {H : Type} : List (DataW H) → Nat
  | [] => 0
  | d :: r => uptoBulk d + uptoBulkAll r
def uptoBulkEntries {H : Type} : List (Lit × DataW H) → Nat
  | [] => 0
  | x :: r => uptoBulkEntry x + uptoBulkEntries r
def uptoBulkEntry {H : Type} : Lit × DataW H → Nat
  | (.string bytes, d) => bytes.length + uptoBulk d + 1
  | (_, d) => uptoBulk d + 1
 end
def uptoSmall : (H : Type) → List (DataW H) → Bool := fun _ ds => decide (uptoBulkAll ds ≤ 1048576)
def OpenSpec.upto (s : _root_.Go.ChangeSpec) : _root_.Go.OpenSpec := { _root_.Go.OpenSpec.ofChange s with cond := some uptoSmall }

/-- 'rialtolaw9.RowCopies', WHERE WHAT IT READS IS OF BULK AT MOST 1048576: true; the input reads as it did. -/
def rowCopiesUptoRow : OpenClaim := { program := "ytaodekbpjkcpeaa", sum := "9b0e7e3c69afc02eb40ef1e5ce08c358034787a267842898e6e156ae97eb08f2", func := "rialto/rialtolaw9.RowCopies", spec := "rowCopies", inPlace := ["math.Float64bits"], unfollowed := true, recurses := true, apart := false, narrowed := true }
def RowCopiesUptoSaid : Prop := rowCopiesUptoRow.holds Try.pinned (OpenSpec.upto rowCopiesSpec)

/-- 'rialtolaw9.RowPlays', WHERE WHAT IT READS IS OF BULK AT MOST 1048576: true; the input reads as it did. -/
def rowPlaysUptoRow : OpenClaim := { program := "ytaodekbpjkcpeaa", sum := "9b0e7e3c69afc02eb40ef1e5ce08c358034787a267842898e6e156ae97eb08f2", func := "rialto/rialtolaw9.RowPlays", spec := "rowPlays", inPlace := ["math.Float64bits"], unfollowed := true, recurses := true, apart := false, narrowed := true }
def RowPlaysUptoSaid : Prop := rowPlaysUptoRow.holds Try.pinned (OpenSpec.upto rowPlaysSpec)

/-- 'rialtolaw9.RowNumbers', WHERE WHAT IT READS IS OF BULK AT MOST 1048576: true; the input reads as it did. -/
def rowNumbersUptoRow : OpenClaim := { program := "ytaodekbpjkcpeaa", sum := "9b0e7e3c69afc02eb40ef1e5ce08c358034787a267842898e6e156ae97eb08f2", func := "rialto/rialtolaw9.RowNumbers", spec := "rowNumbers", unfollowed := true, recurses := true, apart := false, narrowed := true }
def RowNumbersUptoSaid : Prop := rowNumbersUptoRow.holds Try.pinned (OpenSpec.upto rowNumbersSpec)

/-- 'rialtolaw9.RowRoom', WHERE WHAT IT READS IS OF BULK AT MOST 1048576: true; the input reads as it did. -/
def rowRoomUptoRow : OpenClaim := { program := "ytaodekbpjkcpeaa", sum := "9b0e7e3c69afc02eb40ef1e5ce08c358034787a267842898e6e156ae97eb08f2", func := "rialto/rialtolaw9.RowRoom", spec := "rowRoom", unfollowed := true, recurses := true, apart := false, narrowed := true }
def RowRoomUptoSaid : Prop := rowRoomUptoRow.holds Try.pinned (OpenSpec.upto rowRoomSpec)

/-- 'rialtolaw9.RowBack', WHERE WHAT IT READS IS OF BULK AT MOST 1048576: true; the input reads as it did. -/
def rowBackUptoRow : OpenClaim := { program := "ytaodekbpjkcpeaa", sum := "9b0e7e3c69afc02eb40ef1e5ce08c358034787a267842898e6e156ae97eb08f2", func := "rialto/rialtolaw9.RowBack", spec := "rowBack", unfollowed := true, recurses := true, apart := false, narrowed := true }
def RowBackUptoSaid : Prop := rowBackUptoRow.holds Try.pinned (OpenSpec.upto rowBackSpec)

end Rows
end Go.Proofs.Ytaodekbpjkcpeaa
