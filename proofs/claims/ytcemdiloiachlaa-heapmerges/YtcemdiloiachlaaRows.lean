/-
  No cell of these rows narrows 'for every input' (looked for: loops, veiled, ifaces, maps, wideKeys, modest, calm, conditions, laid).
  DERIVED. THE GIVEN ROWS OF THIS SEAT. 5 by the template 'for every input the law returns true; each argument reads behind the call as it read before'; 0 by the template 'total and deterministic' (their statements: YtcemdiloiachlaaTotals.lean).
  GIVEN WITH THE SEED: the statements are not yours to turn. If you find one false, say at which input.
  Laid BY PROGRAM, IN A SANDBOX (cutbox-rows.mjs): the forced cells as the released guide's own fill.sh prints them over the translation 17c063279efd7858… (all of the seat's roots in one cut). By AI agents, Wed Nov 11 2026. No macro, syntax, notation, axiom, sorry.
-/
import Derived.Test.YtcemdiloiachlaaChecked
import GoSem.Claim
import GoSem.ClaimJoined
import GoSem.ClaimMapViews
import Derived.JoinedTies
import Derived.KernelRfl
namespace Go.Proofs.Ytcemdiloiachlaa
/- THE CELL 'sum', in the pinned program and in every row, IS THE sha256 OF THE DUMP (.gsa) THAT YtcemdiloiachlaaProg.lean LOADS. Nothing in Lean hashes anything: it is a label: what it is worth is what the hold of that sum in a sandbox is worth. -/
noncomputable def Try.pinned : Pinned := { name := "ytcemdiloiachlaa", sum := "17c063279efd7858d2b33dd1b803f757e6134f17c058a86432b3977e3649ecfb", checked := Try.checked }
namespace Rows
def none {H : Type} : Left H := { results := [], args := [] }

/-- 'rialtolaw8.HeapSorts': WHATEVER THE INPUT: true; the input reads as it did. -/
def heapSortsSpec : ChangeSpec := { name := "heapSorts", fn := fun _ => fun
  | [d1, d2] => { results := [.lit (.bool true)], args := [d1, d2] }
  | _ => none }
def heapSortsRow : OpenClaim := { program := "ytcemdiloiachlaa", sum := "17c063279efd7858d2b33dd1b803f757e6134f17c058a86432b3977e3649ecfb", func := "rialto/rialtolaw8.HeapSorts", spec := "heapSorts", unfollowed := true, recurses := true, apart := false }
def HeapSortsSaid : Prop := heapSortsRow.holds Try.pinned (OpenSpec.ofChange heapSortsSpec)

/-- ITS FALSE NEIGHBOUR: 'it returns false'. Refute it at one input. -/
def heapSortsWrong : ChangeSpec := { name := "heapSorts", fn := fun _ => fun
  | [d1, d2] => { results := [.lit (.bool false)], args := [d1, d2] }
  | _ => none }
def HeapSortsWrongFalsely : Prop := heapSortsRow.holds Try.pinned (OpenSpec.ofChange heapSortsWrong)

/-- 'rialtolaw8.HeapMerges': WHATEVER THE INPUT: true; the input reads as it did. -/
def heapMergesSpec : ChangeSpec := { name := "heapMerges", fn := fun _ => fun
  | [d1, d2] => { results := [.lit (.bool true)], args := [d1, d2] }
  | _ => none }
def heapMergesRow : OpenClaim := { program := "ytcemdiloiachlaa", sum := "17c063279efd7858d2b33dd1b803f757e6134f17c058a86432b3977e3649ecfb", func := "rialto/rialtolaw8.HeapMerges", spec := "heapMerges", unfollowed := true, recurses := true, apart := false }
def HeapMergesSaid : Prop := heapMergesRow.holds Try.pinned (OpenSpec.ofChange heapMergesSpec)

/-- ITS FALSE NEIGHBOUR: 'it returns false'. Refute it at one input. -/
def heapMergesWrong : ChangeSpec := { name := "heapMerges", fn := fun _ => fun
  | [d1, d2] => { results := [.lit (.bool false)], args := [d1, d2] }
  | _ => none }
def HeapMergesWrongFalsely : Prop := heapMergesRow.holds Try.pinned (OpenSpec.ofChange heapMergesWrong)

/-- 'rialtolaw8.HeapFree': WHATEVER THE INPUT: true; the input reads as it did. -/
def heapFreeSpec : ChangeSpec := { name := "heapFree", fn := fun _ => fun
  | [d] => { results := [.lit (.bool true)], args := [d] }
  | _ => none }
def heapFreeRow : OpenClaim := { program := "ytcemdiloiachlaa", sum := "17c063279efd7858d2b33dd1b803f757e6134f17c058a86432b3977e3649ecfb", func := "rialto/rialtolaw8.HeapFree", spec := "heapFree", unfollowed := true, recurses := true, apart := false }
def HeapFreeSaid : Prop := heapFreeRow.holds Try.pinned (OpenSpec.ofChange heapFreeSpec)

/-- ITS FALSE NEIGHBOUR: 'it returns false'. Refute it at one input. -/
def heapFreeWrong : ChangeSpec := { name := "heapFree", fn := fun _ => fun
  | [d] => { results := [.lit (.bool false)], args := [d] }
  | _ => none }
def HeapFreeWrongFalsely : Prop := heapFreeRow.holds Try.pinned (OpenSpec.ofChange heapFreeWrong)

/-- 'rialtolaw8.HeapTypes': WHATEVER THE INPUT: true; the input reads as it did. -/
def heapTypesSpec : ChangeSpec := { name := "heapTypes", fn := fun _ => fun
  | [d1, d2] => { results := [.lit (.bool true)], args := [d1, d2] }
  | _ => none }
def heapTypesRow : OpenClaim := { program := "ytcemdiloiachlaa", sum := "17c063279efd7858d2b33dd1b803f757e6134f17c058a86432b3977e3649ecfb", func := "rialto/rialtolaw8.HeapTypes", spec := "heapTypes", unfollowed := true, recurses := true, apart := false }
def HeapTypesSaid : Prop := heapTypesRow.holds Try.pinned (OpenSpec.ofChange heapTypesSpec)

/-- ITS FALSE NEIGHBOUR: 'it returns false'. Refute it at one input. -/
def heapTypesWrong : ChangeSpec := { name := "heapTypes", fn := fun _ => fun
  | [d1, d2] => { results := [.lit (.bool false)], args := [d1, d2] }
  | _ => none }
def HeapTypesWrongFalsely : Prop := heapTypesRow.holds Try.pinned (OpenSpec.ofChange heapTypesWrong)

/-- 'rialtolaw8.HeapHalves': WHATEVER THE INPUT: true; the input reads as it did. -/
def heapHalvesSpec : ChangeSpec := { name := "heapHalves", fn := fun _ => fun
  | [d1, d2] => { results := [.lit (.bool true)], args := [d1, d2] }
  | _ => none }
def heapHalvesRow : OpenClaim := { program := "ytcemdiloiachlaa", sum := "17c063279efd7858d2b33dd1b803f757e6134f17c058a86432b3977e3649ecfb", func := "rialto/rialtolaw8.HeapHalves", spec := "heapHalves", unfollowed := true, recurses := true, apart := false }
def HeapHalvesSaid : Prop := heapHalvesRow.holds Try.pinned (OpenSpec.ofChange heapHalvesSpec)

/-- ITS FALSE NEIGHBOUR: 'it returns false'. Refute it at one input. -/
def heapHalvesWrong : ChangeSpec := { name := "heapHalves", fn := fun _ => fun
  | [d1, d2] => { results := [.lit (.bool false)], args := [d1, d2] }
  | _ => none }
def HeapHalvesWrongFalsely : Prop := heapHalvesRow.holds Try.pinned (OpenSpec.ofChange heapHalvesWrong)

/- THE SECOND FORM. 'bulk': how many values and letters a reading holds, each counted each time it is reached (what is shared counts as often as it is met; a slice's spare places count too). A statement '..UptoSaid' is the law's where the arguments, and the package variables that the reading takes, are together of bulk at most 1048576: NARROWER than '..Said'. Prove '..Said' where nothing that the law and all that it calls make is longer than what came in: it says more and counts as full. Else prove '..UptoSaid'. A law counts once. -/
mutual
def uptoBulk {H : Type} : DataW H → Nat
  | .lit (.string bytes) => bytes.length + 1
  | .lit _ => 1
  | .nil => 1
  | .ptr d => uptoBulk d + 1
  | .slice elems spare => uptoBulkAll elems + uptoBulkAll spare + 1
  | .agg parts => uptoBulkAll parts + 1
  | .iface _ d => uptoBulk d + 1
  | .map entries => uptoBulkEntries entries + 1
  | .held _ => 1
def uptoBulkAll {H : Type} : List (DataW H) → Nat
  | [] => 0
  | d :: r => uptoBulk d + uptoBulkAll r
def uptoBulkEntries {H : Type} : List (Lit × DataW H) → Nat
  | [] => 0
  | x :: r => uptoBulkEntry x + uptoBulkEntries r
def uptoBulkEntry {H : Type} : Lit × DataW H → Nat
  | (.string bytes, d) => bytes.length + uptoBulk d + 1
  | (_, d) => uptoBulk d + 1
 end
def uptoSmall : (H : Type) → List (DataW H) → Bool := fun _ ds => decide (uptoBulkAll ds ≤ 1048576)
def OpenSpec.upto (s : _root_.Go.ChangeSpec) : _root_.Go.OpenSpec := { _root_.Go.OpenSpec.ofChange s with cond := some uptoSmall }

/-- 'rialtolaw8.HeapSorts', WHERE WHAT IT READS IS OF BULK AT MOST 1048576: true; the input reads as it did. -/
def heapSortsUptoRow : OpenClaim := { program := "ytcemdiloiachlaa", sum := "17c063279efd7858d2b33dd1b803f757e6134f17c058a86432b3977e3649ecfb", func := "rialto/rialtolaw8.HeapSorts", spec := "heapSorts", unfollowed := true, recurses := true, apart := false, narrowed := true }
def HeapSortsUptoSaid : Prop := heapSortsUptoRow.holds Try.pinned (OpenSpec.upto heapSortsSpec)

/-- 'rialtolaw8.HeapMerges', WHERE WHAT IT READS IS OF BULK AT MOST 1048576: true; the input reads as it did. -/
def heapMergesUptoRow : OpenClaim := { program := "ytcemdiloiachlaa", sum := "17c063279efd7858d2b33dd1b803f757e6134f17c058a86432b3977e3649ecfb", func := "rialto/rialtolaw8.HeapMerges", spec := "heapMerges", unfollowed := true, recurses := true, apart := false, narrowed := true }
def HeapMergesUptoSaid : Prop := heapMergesUptoRow.holds Try.pinned (OpenSpec.upto heapMergesSpec)

/-- 'rialtolaw8.HeapFree', WHERE WHAT IT READS IS OF BULK AT MOST 1048576: true; the input reads as it did. -/
def heapFreeUptoRow : OpenClaim := { program := "ytcemdiloiachlaa", sum := "17c063279efd7858d2b33dd1b803f757e6134f17c058a86432b3977e3649ecfb", func := "rialto/rialtolaw8.HeapFree", spec := "heapFree", unfollowed := true, recurses := true, apart := false, narrowed := true }
def HeapFreeUptoSaid : Prop := heapFreeUptoRow.holds Try.pinned (OpenSpec.upto heapFreeSpec)

/-- 'rialtolaw8.HeapTypes', WHERE WHAT IT READS IS OF BULK AT MOST 1048576: true; the input reads as it did. -/
def heapTypesUptoRow : OpenClaim := { program := "ytcemdiloiachlaa", sum := "17c063279efd7858d2b33dd1b803f757e6134f17c058a86432b3977e3649ecfb", func := "rialto/rialtolaw8.HeapTypes", spec := "heapTypes", unfollowed := true, recurses := true, apart := false, narrowed := true }
def HeapTypesUptoSaid : Prop := heapTypesUptoRow.holds Try.pinned (OpenSpec.upto heapTypesSpec)

/-- 'rialtolaw8.HeapHalves', WHERE WHAT IT READS IS OF BULK AT MOST 1048576: true; the input reads as it did. -/
def heapHalvesUptoRow : OpenClaim := { program := "ytcemdiloiachlaa", sum := "17c063279efd7858d2b33dd1b803f757e6134f17c058a86432b3977e3649ecfb", func := "rialto/rialtolaw8.HeapHalves", spec := "heapHalves", unfollowed := true, recurses := true, apart := false, narrowed := true }
def HeapHalvesUptoSaid : Prop := heapHalvesUptoRow.holds Try.pinned (OpenSpec.upto heapHalvesSpec)

end Rows
end Go.Proofs.Ytcemdiloiachlaa
