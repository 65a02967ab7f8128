/-
  DERIVED. GIVEN WITH THE SEED: THE CARDS: each row of YtedjimkpmmacoaaGreatDoorRows.lean that lists a variable, with what it lists TIED to the program's text (the seventh form; the later family's looks); each row that meets fmt, with fmt's text TOLD by the authors' own Lean function (tested against real Go, not proved from fmt's source: count such statements apart). THE CARD IS WHAT COUNTS. Prove the row's statement (the work); the ties are given (YtedjimkpmmacoaaGreatDoorTie.lean); close each card by the builder's one call (the guide's Derived/Test/ToyasCard.lean, 'card_holds'). Laid BY PROGRAM, IN A SANDBOX (cutbox-door.mjs). By AI agents, Wed Nov 11 2026. No macro, syntax, notation, axiom, sorry.
-/
import Derived.Test.YtedjimkpmmacoaaGreatDoorRows
import GoSem.ClaimSeven
namespace Go.Proofs.YtedjimkpmmacoaaGreatDoor
namespace Rows

/-- THE TIED CARD OF 'tendrillaw25.ScriptRuns'. -/
def scriptRunsCard : Claim7 := { stood := { row := scriptRunsRow, standIns := [], harness := (true, "1f7e0c77fc746318b8aff3129ac086deead4fbb19d5be21371de33caad283076"), looks := true }, kinds := [], alts := [], laidByText := true, laidKinds := [.data, .data, .data], laidTests := true, laidLooks := .later }
def ScriptRunsCardSaid : Prop := Claim7.holds Tryz.pinned (.plain (OpenSpec.ofChange scriptRunsSpec)) scriptRunsCard

/-- THE TIED CARD OF 'tendrillaw16.CheckRuns'. -/
def checkRunsCard : Claim7 := { stood := { row := checkRunsRow, standIns := [], harness := (true, "1f7e0c77fc746318b8aff3129ac086deead4fbb19d5be21371de33caad283076"), looks := true }, kinds := [], alts := [], laidByText := true, laidKinds := [.data, .data, .data], laidTests := true, laidLooks := .later }
def CheckRunsCardSaid : Prop := Claim7.holds Tryz.pinned (.plain (OpenSpec.ofChange checkRunsSpec)) checkRunsCard

/-- THE TIED CARD OF 'tendrillaw25.ScriptTerms'. -/
def scriptTermsCard : Claim7 := { stood := { row := scriptTermsRow, standIns := [], harness := (true, "1f7e0c77fc746318b8aff3129ac086deead4fbb19d5be21371de33caad283076"), looks := true }, kinds := [], alts := [], laidByText := true, laidKinds := [.data, .data, .data], laidTests := true, laidLooks := .later }
def ScriptTermsCardSaid : Prop := Claim7.holds Tryz.pinned (.plain (OpenSpec.ofChange scriptTermsSpec)) scriptTermsCard

/-- THE TIED CARD OF 'tendrillaw25.ScriptPicks'. -/
def scriptPicksCard : Claim7 := { stood := { row := scriptPicksRow, standIns := [], harness := (true, "1f7e0c77fc746318b8aff3129ac086deead4fbb19d5be21371de33caad283076"), looks := true }, kinds := [], alts := [], laidByText := true, laidKinds := [.data, .data, .data], laidTests := true, laidLooks := .later }
def ScriptPicksCardSaid : Prop := Claim7.holds Tryz.pinned (.plain (OpenSpec.ofChange scriptPicksSpec)) scriptPicksCard

/-- THE TIED CARD OF 'tendrillaw25.ScriptLines'. -/
def scriptLinesCard : Claim7 := { stood := { row := scriptLinesRow, standIns := [], harness := (true, "1f7e0c77fc746318b8aff3129ac086deead4fbb19d5be21371de33caad283076"), looks := true }, kinds := [], alts := [], laidByText := true, laidKinds := [.data, .data, .data], laidTests := true, laidLooks := .later }
def ScriptLinesCardSaid : Prop := Claim7.holds Tryz.pinned (.plain (OpenSpec.ofChange scriptLinesSpec)) scriptLinesCard

/-- THE SECOND FORM's CARD OF 'tendrillaw25.ScriptRuns'. -/
def scriptRunsUptoCard : Claim7 := { stood := { row := scriptRunsUptoRow, standIns := [], harness := (true, "1f7e0c77fc746318b8aff3129ac086deead4fbb19d5be21371de33caad283076"), looks := true }, kinds := [], alts := [], laidByText := true, laidKinds := [.data, .data, .data], laidTests := true, laidLooks := .later }
def ScriptRunsUptoCardSaid : Prop := Claim7.holds Tryz.pinned (.plain (OpenSpec.upto scriptRunsSpec)) scriptRunsUptoCard

/-- THE SECOND FORM's CARD OF 'tendrillaw16.CheckRuns'. -/
def checkRunsUptoCard : Claim7 := { stood := { row := checkRunsUptoRow, standIns := [], harness := (true, "1f7e0c77fc746318b8aff3129ac086deead4fbb19d5be21371de33caad283076"), looks := true }, kinds := [], alts := [], laidByText := true, laidKinds := [.data, .data, .data], laidTests := true, laidLooks := .later }
def CheckRunsUptoCardSaid : Prop := Claim7.holds Tryz.pinned (.plain (OpenSpec.upto checkRunsSpec)) checkRunsUptoCard

/-- THE SECOND FORM's CARD OF 'tendrillaw25.ScriptTerms'. -/
def scriptTermsUptoCard : Claim7 := { stood := { row := scriptTermsUptoRow, standIns := [], harness := (true, "1f7e0c77fc746318b8aff3129ac086deead4fbb19d5be21371de33caad283076"), looks := true }, kinds := [], alts := [], laidByText := true, laidKinds := [.data, .data, .data], laidTests := true, laidLooks := .later }
def ScriptTermsUptoCardSaid : Prop := Claim7.holds Tryz.pinned (.plain (OpenSpec.upto scriptTermsSpec)) scriptTermsUptoCard

/-- THE SECOND FORM's CARD OF 'tendrillaw25.ScriptPicks'. -/
def scriptPicksUptoCard : Claim7 := { stood := { row := scriptPicksUptoRow, standIns := [], harness := (true, "1f7e0c77fc746318b8aff3129ac086deead4fbb19d5be21371de33caad283076"), looks := true }, kinds := [], alts := [], laidByText := true, laidKinds := [.data, .data, .data], laidTests := true, laidLooks := .later }
def ScriptPicksUptoCardSaid : Prop := Claim7.holds Tryz.pinned (.plain (OpenSpec.upto scriptPicksSpec)) scriptPicksUptoCard

/-- THE SECOND FORM's CARD OF 'tendrillaw25.ScriptLines'. -/
def scriptLinesUptoCard : Claim7 := { stood := { row := scriptLinesUptoRow, standIns := [], harness := (true, "1f7e0c77fc746318b8aff3129ac086deead4fbb19d5be21371de33caad283076"), looks := true }, kinds := [], alts := [], laidByText := true, laidKinds := [.data, .data, .data], laidTests := true, laidLooks := .later }
def ScriptLinesUptoCardSaid : Prop := Claim7.holds Tryz.pinned (.plain (OpenSpec.upto scriptLinesSpec)) scriptLinesUptoCard
end Rows
end Go.Proofs.YtedjimkpmmacoaaGreatDoor
