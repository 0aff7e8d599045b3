/-
  No cell of these rows narrows 'for every input' (looked for: loops, veiled, ifaces, maps, wideKeys, modest, calm, conditions, laid).
  DERIVED. THE GIVEN ROWS OF THIS SEAT. 6 by the template 'for every input the law returns true; each argument reads behind the call as it read before'; 0 by the template 'total and deterministic' (their statements: YtcaccbjolgjmkaaTotals.lean).
  GIVEN WITH THE SEED: the statements are not yours to turn. If you find one false, say at which input.
  Laid BY PROGRAM, IN A SANDBOX (cutbox-rows.mjs): the forced cells as the released guide's own fill.sh prints them over the translation 6fc64dbb0ab65055… (all of the seat's roots in one cut). By AI agents, Wed Nov 11 2026. No macro, syntax, notation, axiom, sorry.
-/
import Derived.Test.YtcaccbjolgjmkaaChecked
import GoSem.Claim
import GoSem.ClaimJoined
import GoSem.ClaimMapViews
import Derived.JoinedTies
import Derived.KernelRfl
namespace Go.Proofs.Ytcaccbjolgjmkaa
/- THE CELL 'sum', in the pinned program and in every row, IS THE sha256 OF THE DUMP (.gsa) THAT YtcaccbjolgjmkaaProg.lean LOADS. Nothing in Lean hashes anything: it is a label: what it is worth is what the hold of that sum in a sandbox is worth. -/
noncomputable def Try.pinned : Pinned := { name := "ytcaccbjolgjmkaa", sum := "6fc64dbb0ab6505569ecde0430d3691d1b46054cf03d7785bdf85ce9def62361", checked := Try.checked }
namespace Rows
def none {H : Type} : Left H := { results := [], args := [] }

/-- 'rialtolaw11.TreePlays': WHATEVER THE INPUT: true; the input reads as it did. -/
def treePlaysSpec : ChangeSpec := { name := "treePlays", fn := fun _ => fun
  | [d] => { results := [.lit (.bool true)], args := [d] }
  | _ => none }
def treePlaysRow : OpenClaim := { program := "ytcaccbjolgjmkaa", sum := "6fc64dbb0ab6505569ecde0430d3691d1b46054cf03d7785bdf85ce9def62361", func := "rialto/rialtolaw11.TreePlays", spec := "treePlays", inPlace := ["slices.overlaps[int]"], unfollowed := true, recurses := true, apart := false }
def TreePlaysSaid : Prop := treePlaysRow.holds Try.pinned (OpenSpec.ofChange treePlaysSpec)

/-- ITS FALSE NEIGHBOUR: 'it returns false'. Refute it at one input. -/
def treePlaysWrong : ChangeSpec := { name := "treePlays", fn := fun _ => fun
  | [d] => { results := [.lit (.bool false)], args := [d] }
  | _ => none }
def TreePlaysWrongFalsely : Prop := treePlaysRow.holds Try.pinned (OpenSpec.ofChange treePlaysWrong)

/-- 'rialtolaw11.TreeSearch': WHATEVER THE INPUT: true; the input reads as it did. -/
def treeSearchSpec : ChangeSpec := { name := "treeSearch", fn := fun _ => fun
  | [d1, d2] => { results := [.lit (.bool true)], args := [d1, d2] }
  | _ => none }
def treeSearchRow : OpenClaim := { program := "ytcaccbjolgjmkaa", sum := "6fc64dbb0ab6505569ecde0430d3691d1b46054cf03d7785bdf85ce9def62361", func := "rialto/rialtolaw11.TreeSearch", spec := "treeSearch", inPlace := ["slices.overlaps[int]"], unfollowed := true, recurses := true, apart := false }
def TreeSearchSaid : Prop := treeSearchRow.holds Try.pinned (OpenSpec.ofChange treeSearchSpec)

/-- ITS FALSE NEIGHBOUR: 'it returns false'. Refute it at one input. -/
def treeSearchWrong : ChangeSpec := { name := "treeSearch", fn := fun _ => fun
  | [d1, d2] => { results := [.lit (.bool false)], args := [d1, d2] }
  | _ => none }
def TreeSearchWrongFalsely : Prop := treeSearchRow.holds Try.pinned (OpenSpec.ofChange treeSearchWrong)

/-- 'rialtolaw11.TreeCosts': WHATEVER THE INPUT: true; the input reads as it did. -/
def treeCostsSpec : ChangeSpec := { name := "treeCosts", fn := fun _ => fun
  | [d1, d2, d3] => { results := [.lit (.bool true)], args := [d1, d2, d3] }
  | _ => none }
def treeCostsRow : OpenClaim := { program := "ytcaccbjolgjmkaa", sum := "6fc64dbb0ab6505569ecde0430d3691d1b46054cf03d7785bdf85ce9def62361", func := "rialto/rialtolaw11.TreeCosts", spec := "treeCosts", inPlace := ["slices.overlaps[int]"], unfollowed := true, recurses := true, apart := false }
def TreeCostsSaid : Prop := treeCostsRow.holds Try.pinned (OpenSpec.ofChange treeCostsSpec)

/-- ITS FALSE NEIGHBOUR: 'it returns false'. Refute it at one input. -/
def treeCostsWrong : ChangeSpec := { name := "treeCosts", fn := fun _ => fun
  | [d1, d2, d3] => { results := [.lit (.bool false)], args := [d1, d2, d3] }
  | _ => none }
def TreeCostsWrongFalsely : Prop := treeCostsRow.holds Try.pinned (OpenSpec.ofChange treeCostsWrong)

/-- 'rialtolaw11.TreeTypes': WHATEVER THE INPUT: true; the input reads as it did. -/
def treeTypesSpec : ChangeSpec := { name := "treeTypes", fn := fun _ => fun
  | [d1, d2] => { results := [.lit (.bool true)], args := [d1, d2] }
  | _ => none }
def treeTypesRow : OpenClaim := { program := "ytcaccbjolgjmkaa", sum := "6fc64dbb0ab6505569ecde0430d3691d1b46054cf03d7785bdf85ce9def62361", func := "rialto/rialtolaw11.TreeTypes", spec := "treeTypes", inPlace := ["slices.overlaps[int]", "slices.overlaps[string]"], unfollowed := true, recurses := true, apart := false }
def TreeTypesSaid : Prop := treeTypesRow.holds Try.pinned (OpenSpec.ofChange treeTypesSpec)

/-- ITS FALSE NEIGHBOUR: 'it returns false'. Refute it at one input. -/
def treeTypesWrong : ChangeSpec := { name := "treeTypes", fn := fun _ => fun
  | [d1, d2] => { results := [.lit (.bool false)], args := [d1, d2] }
  | _ => none }
def TreeTypesWrongFalsely : Prop := treeTypesRow.holds Try.pinned (OpenSpec.ofChange treeTypesWrong)

/-- 'rialtolaw11.TreeSorted': WHATEVER THE INPUT: true; the input reads as it did. -/
def treeSortedSpec : ChangeSpec := { name := "treeSorted", fn := fun _ => fun
  | [d] => { results := [.lit (.bool true)], args := [d] }
  | _ => none }
def treeSortedRow : OpenClaim := { program := "ytcaccbjolgjmkaa", sum := "6fc64dbb0ab6505569ecde0430d3691d1b46054cf03d7785bdf85ce9def62361", func := "rialto/rialtolaw11.TreeSorted", spec := "treeSorted", inPlace := ["slices.overlaps[int]"], unfollowed := true, recurses := true, apart := false }
def TreeSortedSaid : Prop := treeSortedRow.holds Try.pinned (OpenSpec.ofChange treeSortedSpec)

/-- ITS FALSE NEIGHBOUR: 'it returns false'. Refute it at one input. -/
def treeSortedWrong : ChangeSpec := { name := "treeSorted", fn := fun _ => fun
  | [d] => { results := [.lit (.bool false)], args := [d] }
  | _ => none }
def TreeSortedWrongFalsely : Prop := treeSortedRow.holds Try.pinned (OpenSpec.ofChange treeSortedWrong)

/-- 'rialtolaw11.TreeParts': WHATEVER THE INPUT: true; the input reads as it did. -/
def treePartsSpec : ChangeSpec := { name := "treeParts", fn := fun _ => fun
  | [d1, d2] => { results := [.lit (.bool true)], args := [d1, d2] }
  | _ => none }
def treePartsRow : OpenClaim := { program := "ytcaccbjolgjmkaa", sum := "6fc64dbb0ab6505569ecde0430d3691d1b46054cf03d7785bdf85ce9def62361", func := "rialto/rialtolaw11.TreeParts", spec := "treeParts", inPlace := ["slices.overlaps[int]"], unfollowed := true, recurses := true, apart := false }
def TreePartsSaid : Prop := treePartsRow.holds Try.pinned (OpenSpec.ofChange treePartsSpec)

/-- ITS FALSE NEIGHBOUR: 'it returns false'. Refute it at one input. -/
def treePartsWrong : ChangeSpec := { name := "treeParts", fn := fun _ => fun
  | [d1, d2] => { results := [.lit (.bool false)], args := [d1, d2] }
  | _ => none }
def TreePartsWrongFalsely : Prop := treePartsRow.holds Try.pinned (OpenSpec.ofChange treePartsWrong)

/- THE SECOND FORM. 'bulk': how many values and letters a reading holds, each counted each time it is reached (what is shared counts as often as it is met; a slice's spare places count too). A statement '..UptoSaid' is the law's where the arguments, and the package variables that the reading takes, are together of bulk at most 1048576: NARROWER than '..Said'. Prove '..Said' where nothing that the law and all that it calls make is longer than what came in: it says more and counts as full. Else prove '..UptoSaid'. A law counts once. -/
mutual
def uptoBulk {H : Type} : DataW H → Nat
  | .lit (.string bytes) => bytes.length + 1
  | .lit _ => 1
  | .nil => 1
  | .ptr d => uptoBulk d + 1
  | .slice elems spare => uptoBulkAll elems + uptoBulkAll spare + 1
  | .agg parts => uptoBulkAll parts + 1
  | .iface _ d => uptoBulk d + 1
  | .map entries => uptoBulkEntries entries + 1
  | .held _ => 1
def uptoBulkAll {H : Type} : List (DataW H) → Nat
  | [] => 0
  | d :: r => uptoBulk d + uptoBulkAll r
def uptoBulkEntries {H : Type} : List (Lit × DataW H) → Nat
  | [] => 0
  | x :: r => uptoBulkEntry x + uptoBulkEntries r
def uptoBulkEntry {H : Type} : Lit × DataW H → Nat
  | (.string bytes, d) => bytes.length + uptoBulk d + 1
  | (_, d) => uptoBulk d + 1
 end
def uptoSmall : (H : Type) → List (DataW H) → Bool := fun _ ds => decide (uptoBulkAll ds ≤ 1048576)
def OpenSpec.upto (s : _root_.Go.ChangeSpec) : _root_.Go.OpenSpec := { _root_.Go.OpenSpec.ofChange s with cond := some uptoSmall }

/-- 'rialtolaw11.TreePlays', WHERE WHAT IT READS IS OF BULK AT MOST 1048576: true; the input reads as it did. -/
def treePlaysUptoRow : OpenClaim := { program := "ytcaccbjolgjmkaa", sum := "6fc64dbb0ab6505569ecde0430d3691d1b46054cf03d7785bdf85ce9def62361", func := "rialto/rialtolaw11.TreePlays", spec := "treePlays", inPlace := ["slices.overlaps[int]"], unfollowed := true, recurses := true, apart := false, narrowed := true }
def TreePlaysUptoSaid : Prop := treePlaysUptoRow.holds Try.pinned (OpenSpec.upto treePlaysSpec)

/-- 'rialtolaw11.TreeSearch', WHERE WHAT IT READS IS OF BULK AT MOST 1048576: true; the input reads as it did. -/
def treeSearchUptoRow : OpenClaim := { program := "ytcaccbjolgjmkaa", sum := "6fc64dbb0ab6505569ecde0430d3691d1b46054cf03d7785bdf85ce9def62361", func := "rialto/rialtolaw11.TreeSearch", spec := "treeSearch", inPlace := ["slices.overlaps[int]"], unfollowed := true, recurses := true, apart := false, narrowed := true }
def TreeSearchUptoSaid : Prop := treeSearchUptoRow.holds Try.pinned (OpenSpec.upto treeSearchSpec)

/-- 'rialtolaw11.TreeCosts', WHERE WHAT IT READS IS OF BULK AT MOST 1048576: true; the input reads as it did. -/
def treeCostsUptoRow : OpenClaim := { program := "ytcaccbjolgjmkaa", sum := "6fc64dbb0ab6505569ecde0430d3691d1b46054cf03d7785bdf85ce9def62361", func := "rialto/rialtolaw11.TreeCosts", spec := "treeCosts", inPlace := ["slices.overlaps[int]"], unfollowed := true, recurses := true, apart := false, narrowed := true }
def TreeCostsUptoSaid : Prop := treeCostsUptoRow.holds Try.pinned (OpenSpec.upto treeCostsSpec)

/-- 'rialtolaw11.TreeTypes', WHERE WHAT IT READS IS OF BULK AT MOST 1048576: true; the input reads as it did. -/
def treeTypesUptoRow : OpenClaim := { program := "ytcaccbjolgjmkaa", sum := "6fc64dbb0ab6505569ecde0430d3691d1b46054cf03d7785bdf85ce9def62361", func := "rialto/rialtolaw11.TreeTypes", spec := "treeTypes", inPlace := ["slices.overlaps[int]", "slices.overlaps[string]"], unfollowed := true, recurses := true, apart := false, narrowed := true }
def TreeTypesUptoSaid : Prop := treeTypesUptoRow.holds Try.pinned (OpenSpec.upto treeTypesSpec)

/-- 'rialtolaw11.TreeSorted', WHERE WHAT IT READS IS OF BULK AT MOST 1048576: true; the input reads as it did. -/
def treeSortedUptoRow : OpenClaim := { program := "ytcaccbjolgjmkaa", sum := "6fc64dbb0ab6505569ecde0430d3691d1b46054cf03d7785bdf85ce9def62361", func := "rialto/rialtolaw11.TreeSorted", spec := "treeSorted", inPlace := ["slices.overlaps[int]"], unfollowed := true, recurses := true, apart := false, narrowed := true }
def TreeSortedUptoSaid : Prop := treeSortedUptoRow.holds Try.pinned (OpenSpec.upto treeSortedSpec)

/-- 'rialtolaw11.TreeParts', WHERE WHAT IT READS IS OF BULK AT MOST 1048576: true; the input reads as it did. -/
def treePartsUptoRow : OpenClaim := { program := "ytcaccbjolgjmkaa", sum := "6fc64dbb0ab6505569ecde0430d3691d1b46054cf03d7785bdf85ce9def62361", func := "rialto/rialtolaw11.TreeParts", spec := "treeParts", inPlace := ["slices.overlaps[int]"], unfollowed := true, recurses := true, apart := false, narrowed := true }
def TreePartsUptoSaid : Prop := treePartsUptoRow.holds Try.pinned (OpenSpec.upto treePartsSpec)

end Rows
end Go.Proofs.Ytcaccbjolgjmkaa
