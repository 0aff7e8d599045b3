/-
  DERIVED. GIVEN WITH THE SEED: THE CARDS: each row of YtmlfkjmondkfnaaDoorRows.lean that lists a variable, with what it lists TIED to the program's text (the seventh form; the later family's looks); each row that meets fmt, with fmt's text TOLD by the authors' own Lean function (tested against real Go, not proved from fmt's source: count such statements apart). THE CARD IS WHAT COUNTS. Prove the row's statement (the work); the ties are given (YtmlfkjmondkfnaaDoorTie.lean); close each card by the builder's one call (the guide's Derived/Test/ToyasCard.lean, 'card_holds'). Laid BY PROGRAM, IN A SANDBOX (cutbox-door.mjs). By AI agents, Wed Nov 11 2026. No macro, syntax, notation, axiom, sorry.
-/
import Derived.Test.YtmlfkjmondkfnaaDoorRows
import GoSem.ClaimSeven
namespace Go.Proofs.YtmlfkjmondkfnaaDoor
namespace Rows

/-- THE TIED CARD OF 'rialtolaw6.HookRuns'. -/
def hookRunsCard : Claim7 := { stood := { row := hookRunsRow, standIns := [], harness := (true, "a82471f54290446357e4817b6a9abcdc45b71f9189815a95c11bfdf2ef926a01"), looks := true }, kinds := [], alts := [], laidByText := true, laidKinds := [.handle], laidTests := true, laidLooks := .later }
def HookRunsCardSaid : Prop := Claim7.holds Tryd.pinned (.plain (OpenSpec.ofChange hookRunsSpec)) hookRunsCard

/-- THE TIED CARD OF 'rialtolaw6.HookCalls'. -/
def hookCallsCard : Claim7 := { stood := { row := hookCallsRow, standIns := [], harness := (true, "a82471f54290446357e4817b6a9abcdc45b71f9189815a95c11bfdf2ef926a01"), looks := true }, kinds := [], alts := [], laidByText := true, laidKinds := [.handle], laidTests := true, laidLooks := .later }
def HookCallsCardSaid : Prop := Claim7.holds Tryd.pinned (.plain (OpenSpec.ofChange hookCallsSpec)) hookCallsCard

/-- THE TIED CARD OF 'rialtolaw6.HookObserves'. -/
def hookObservesCard : Claim7 := { stood := { row := hookObservesRow, standIns := [], harness := (true, "a82471f54290446357e4817b6a9abcdc45b71f9189815a95c11bfdf2ef926a01"), looks := true }, kinds := [], alts := [], laidByText := true, laidKinds := [.handle], laidTests := true, laidLooks := .later }
def HookObservesCardSaid : Prop := Claim7.holds Tryd.pinned (.plain (OpenSpec.ofChange hookObservesSpec)) hookObservesCard

/-- THE TIED CARD OF 'rialtolaw6.HookNests'. -/
def hookNestsCard : Claim7 := { stood := { row := hookNestsRow, standIns := [], harness := (true, "a82471f54290446357e4817b6a9abcdc45b71f9189815a95c11bfdf2ef926a01"), looks := true }, kinds := [], alts := [], laidByText := true, laidKinds := [.handle], laidTests := true, laidLooks := .later }
def HookNestsCardSaid : Prop := Claim7.holds Tryd.pinned (.plain (OpenSpec.ofChange hookNestsSpec)) hookNestsCard

/-- THE TIED CARD OF 'rialtolaw6.HookValues'. -/
def hookValuesCard : Claim7 := { stood := { row := hookValuesRow, standIns := [], harness := (true, "a82471f54290446357e4817b6a9abcdc45b71f9189815a95c11bfdf2ef926a01"), looks := true }, kinds := [], alts := [], laidByText := true, laidKinds := [.handle], laidTests := true, laidLooks := .later }
def HookValuesCardSaid : Prop := Claim7.holds Tryd.pinned (.plain (OpenSpec.ofChange hookValuesSpec)) hookValuesCard

/-- THE SECOND FORM's CARD OF 'rialtolaw6.HookRuns'. -/
def hookRunsUptoCard : Claim7 := { stood := { row := hookRunsUptoRow, standIns := [], harness := (true, "a82471f54290446357e4817b6a9abcdc45b71f9189815a95c11bfdf2ef926a01"), looks := true }, kinds := [], alts := [], laidByText := true, laidKinds := [.handle], laidTests := true, laidLooks := .later }
def HookRunsUptoCardSaid : Prop := Claim7.holds Tryd.pinned (.plain (OpenSpec.upto hookRunsSpec)) hookRunsUptoCard

/-- THE SECOND FORM's CARD OF 'rialtolaw6.HookCalls'. -/
def hookCallsUptoCard : Claim7 := { stood := { row := hookCallsUptoRow, standIns := [], harness := (true, "a82471f54290446357e4817b6a9abcdc45b71f9189815a95c11bfdf2ef926a01"), looks := true }, kinds := [], alts := [], laidByText := true, laidKinds := [.handle], laidTests := true, laidLooks := .later }
def HookCallsUptoCardSaid : Prop := Claim7.holds Tryd.pinned (.plain (OpenSpec.upto hookCallsSpec)) hookCallsUptoCard

/-- THE SECOND FORM's CARD OF 'rialtolaw6.HookObserves'. -/
def hookObservesUptoCard : Claim7 := { stood := { row := hookObservesUptoRow, standIns := [], harness := (true, "a82471f54290446357e4817b6a9abcdc45b71f9189815a95c11bfdf2ef926a01"), looks := true }, kinds := [], alts := [], laidByText := true, laidKinds := [.handle], laidTests := true, laidLooks := .later }
def HookObservesUptoCardSaid : Prop := Claim7.holds Tryd.pinned (.plain (OpenSpec.upto hookObservesSpec)) hookObservesUptoCard

/-- THE SECOND FORM's CARD OF 'rialtolaw6.HookNests'. -/
def hookNestsUptoCard : Claim7 := { stood := { row := hookNestsUptoRow, standIns := [], harness := (true, "a82471f54290446357e4817b6a9abcdc45b71f9189815a95c11bfdf2ef926a01"), looks := true }, kinds := [], alts := [], laidByText := true, laidKinds := [.handle], laidTests := true, laidLooks := .later }
def HookNestsUptoCardSaid : Prop := Claim7.holds Tryd.pinned (.plain (OpenSpec.upto hookNestsSpec)) hookNestsUptoCard

/-- THE SECOND FORM's CARD OF 'rialtolaw6.HookValues'. -/
def hookValuesUptoCard : Claim7 := { stood := { row := hookValuesUptoRow, standIns := [], harness := (true, "a82471f54290446357e4817b6a9abcdc45b71f9189815a95c11bfdf2ef926a01"), looks := true }, kinds := [], alts := [], laidByText := true, laidKinds := [.handle], laidTests := true, laidLooks := .later }
def HookValuesUptoCardSaid : Prop := Claim7.holds Tryd.pinned (.plain (OpenSpec.upto hookValuesSpec)) hookValuesUptoCard
end Rows
end Go.Proofs.YtmlfkjmondkfnaaDoor
