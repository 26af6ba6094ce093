/-
  DERIVED. GIVEN WITH THE SEED: THE CARDS: each row of YtdncjhffniepbaaGreatDoorRows.lean that lists a variable, with what it lists TIED to the program's text (the seventh form; the later family's looks); each row that meets fmt, with fmt's text TOLD by the authors' own Lean function (tested against real Go, not proved from fmt's source: count such statements apart). THE CARD IS WHAT COUNTS. Prove the row's statement (the work); the ties are given (YtdncjhffniepbaaGreatDoorTie.lean); close each card by the builder's one call (the guide's Derived/Test/ToyasCard.lean, 'card_holds'). Laid BY PROGRAM, IN A SANDBOX (cutbox-door.mjs). By AI agents, Wed Nov 11 2026. No macro, syntax, notation, axiom, sorry.
-/
import Derived.Test.YtdncjhffniepbaaGreatDoorRows
import GoSem.ClaimSeven
namespace Go.Proofs.YtdncjhffniepbaaGreatDoor
namespace Rows

/-- THE TIED CARD OF 'jobmuxlaw05.LexerTokens'. -/
def lexerTokensCard : Claim7 := { stood := { row := lexerTokensRow, standIns := [], harness := (true, "f7f78f61beac6b5266e979ddf40af1e309e2301a885732f2649a0750d70bb6d9"), looks := true }, kinds := [], alts := [], laidByText := true, laidKinds := [.data, .data, .data, .handle, .sentinel, .sentinel], laidTests := true, laidLooks := .later }
def LexerTokensCardSaid : Prop := Claim7.holds Tryz.pinned (.plain (OpenSpec.ofChange lexerTokensSpec)) lexerTokensCard

/-- THE TIED CARD OF 'jobmuxlaw05.LexerPlaces'. -/
def lexerPlacesCard : Claim7 := { stood := { row := lexerPlacesRow, standIns := [], harness := (true, "f7f78f61beac6b5266e979ddf40af1e309e2301a885732f2649a0750d70bb6d9"), looks := true }, kinds := [], alts := [], laidByText := true, laidKinds := [.data, .data, .data, .handle, .sentinel, .sentinel], laidTests := true, laidLooks := .later }
def LexerPlacesCardSaid : Prop := Claim7.holds Tryz.pinned (.plain (OpenSpec.ofChange lexerPlacesSpec)) lexerPlacesCard

/-- THE TIED CARD OF 'jobmuxlaw05.LexerJoins'. -/
def lexerJoinsCard : Claim7 := { stood := { row := lexerJoinsRow, standIns := [], harness := (true, "f7f78f61beac6b5266e979ddf40af1e309e2301a885732f2649a0750d70bb6d9"), looks := true }, kinds := [], alts := [], laidByText := true, laidKinds := [.data, .data, .data, .handle, .sentinel, .sentinel], laidTests := true, laidLooks := .later }
def LexerJoinsCardSaid : Prop := Claim7.holds Tryz.pinned (.plain (OpenSpec.ofChange lexerJoinsSpec)) lexerJoinsCard

/-- THE TIED CARD OF 'jobmuxlaw06.GrammarParses'. -/
def grammarParsesCard : Claim7 := { stood := { row := grammarParsesRow, standIns := [], harness := (true, "f7f78f61beac6b5266e979ddf40af1e309e2301a885732f2649a0750d70bb6d9"), looks := true }, kinds := [], alts := [], laidByText := true, laidKinds := [.data, .data, .data, .handle, .sentinel, .sentinel], laidTests := true, laidLooks := .later }
def GrammarParsesCardSaid : Prop := Claim7.holds Tryz.pinned (.plain (OpenSpec.ofChange grammarParsesSpec)) grammarParsesCard

/-- THE TIED CARD OF 'jobmuxlaw06.GrammarItems'. -/
def grammarItemsCard : Claim7 := { stood := { row := grammarItemsRow, standIns := [], harness := (true, "f7f78f61beac6b5266e979ddf40af1e309e2301a885732f2649a0750d70bb6d9"), looks := true }, kinds := [], alts := [], laidByText := true, laidKinds := [.data, .data, .data, .handle, .sentinel, .sentinel], laidTests := true, laidLooks := .later }
def GrammarItemsCardSaid : Prop := Claim7.holds Tryz.pinned (.plain (OpenSpec.ofChange grammarItemsSpec)) grammarItemsCard

/-- THE TIED CARD OF 'jobmuxlaw06.GrammarLimits'. -/
def grammarLimitsCard : Claim7 := { stood := { row := grammarLimitsRow, standIns := [], harness := (true, "f7f78f61beac6b5266e979ddf40af1e309e2301a885732f2649a0750d70bb6d9"), looks := true }, kinds := [], alts := [], laidByText := true, laidKinds := [.data, .data, .data, .handle, .sentinel, .sentinel], laidTests := true, laidLooks := .later }
def GrammarLimitsCardSaid : Prop := Claim7.holds Tryz.pinned (.plain (OpenSpec.ofChange grammarLimitsSpec)) grammarLimitsCard

/-- THE TIED CARD OF 'jobmuxlaw06.GrammarSignals'. -/
def grammarSignalsCard : Claim7 := { stood := { row := grammarSignalsRow, standIns := [], harness := (true, "f7f78f61beac6b5266e979ddf40af1e309e2301a885732f2649a0750d70bb6d9"), looks := true }, kinds := [], alts := [], laidByText := true, laidKinds := [.data, .data, .data, .handle, .sentinel, .sentinel], laidTests := true, laidLooks := .later }
def GrammarSignalsCardSaid : Prop := Claim7.holds Tryz.pinned (.plain (OpenSpec.ofChange grammarSignalsSpec)) grammarSignalsCard

/-- THE TIED CARD OF 'jobmuxlaw06.GrammarBlanks'. -/
def grammarBlanksCard : Claim7 := { stood := { row := grammarBlanksRow, standIns := [], harness := (true, "f7f78f61beac6b5266e979ddf40af1e309e2301a885732f2649a0750d70bb6d9"), looks := true }, kinds := [], alts := [], laidByText := true, laidKinds := [.data, .data, .data, .handle, .sentinel, .sentinel], laidTests := true, laidLooks := .later }
def GrammarBlanksCardSaid : Prop := Claim7.holds Tryz.pinned (.plain (OpenSpec.ofChange grammarBlanksSpec)) grammarBlanksCard

/-- THE TIED CARD OF 'jobmuxlaw06.GrammarJoins'. -/
def grammarJoinsCard : Claim7 := { stood := { row := grammarJoinsRow, standIns := [], harness := (true, "f7f78f61beac6b5266e979ddf40af1e309e2301a885732f2649a0750d70bb6d9"), looks := true }, kinds := [], alts := [], laidByText := true, laidKinds := [.data, .data, .data, .handle, .sentinel, .sentinel], laidTests := true, laidLooks := .later }
def GrammarJoinsCardSaid : Prop := Claim7.holds Tryz.pinned (.plain (OpenSpec.ofChange grammarJoinsSpec)) grammarJoinsCard

/-- THE SECOND FORM's CARD OF 'jobmuxlaw05.LexerTokens'. -/
def lexerTokensUptoCard : Claim7 := { stood := { row := lexerTokensUptoRow, standIns := [], harness := (true, "f7f78f61beac6b5266e979ddf40af1e309e2301a885732f2649a0750d70bb6d9"), looks := true }, kinds := [], alts := [], laidByText := true, laidKinds := [.data, .data, .data, .handle, .sentinel, .sentinel], laidTests := true, laidLooks := .later }
def LexerTokensUptoCardSaid : Prop := Claim7.holds Tryz.pinned (.plain (OpenSpec.upto lexerTokensSpec)) lexerTokensUptoCard

/-- THE SECOND FORM's CARD OF 'jobmuxlaw05.LexerPlaces'. -/
def lexerPlacesUptoCard : Claim7 := { stood := { row := lexerPlacesUptoRow, standIns := [], harness := (true, "f7f78f61beac6b5266e979ddf40af1e309e2301a885732f2649a0750d70bb6d9"), looks := true }, kinds := [], alts := [], laidByText := true, laidKinds := [.data, .data, .data, .handle, .sentinel, .sentinel], laidTests := true, laidLooks := .later }
def LexerPlacesUptoCardSaid : Prop := Claim7.holds Tryz.pinned (.plain (OpenSpec.upto lexerPlacesSpec)) lexerPlacesUptoCard

/-- THE SECOND FORM's CARD OF 'jobmuxlaw05.LexerJoins'. -/
def lexerJoinsUptoCard : Claim7 := { stood := { row := lexerJoinsUptoRow, standIns := [], harness := (true, "f7f78f61beac6b5266e979ddf40af1e309e2301a885732f2649a0750d70bb6d9"), looks := true }, kinds := [], alts := [], laidByText := true, laidKinds := [.data, .data, .data, .handle, .sentinel, .sentinel], laidTests := true, laidLooks := .later }
def LexerJoinsUptoCardSaid : Prop := Claim7.holds Tryz.pinned (.plain (OpenSpec.upto lexerJoinsSpec)) lexerJoinsUptoCard

/-- THE SECOND FORM's CARD OF 'jobmuxlaw06.GrammarParses'. -/
def grammarParsesUptoCard : Claim7 := { stood := { row := grammarParsesUptoRow, standIns := [], harness := (true, "f7f78f61beac6b5266e979ddf40af1e309e2301a885732f2649a0750d70bb6d9"), looks := true }, kinds := [], alts := [], laidByText := true, laidKinds := [.data, .data, .data, .handle, .sentinel, .sentinel], laidTests := true, laidLooks := .later }
def GrammarParsesUptoCardSaid : Prop := Claim7.holds Tryz.pinned (.plain (OpenSpec.upto grammarParsesSpec)) grammarParsesUptoCard

/-- THE SECOND FORM's CARD OF 'jobmuxlaw06.GrammarItems'. -/
def grammarItemsUptoCard : Claim7 := { stood := { row := grammarItemsUptoRow, standIns := [], harness := (true, "f7f78f61beac6b5266e979ddf40af1e309e2301a885732f2649a0750d70bb6d9"), looks := true }, kinds := [], alts := [], laidByText := true, laidKinds := [.data, .data, .data, .handle, .sentinel, .sentinel], laidTests := true, laidLooks := .later }
def GrammarItemsUptoCardSaid : Prop := Claim7.holds Tryz.pinned (.plain (OpenSpec.upto grammarItemsSpec)) grammarItemsUptoCard

/-- THE SECOND FORM's CARD OF 'jobmuxlaw06.GrammarLimits'. -/
def grammarLimitsUptoCard : Claim7 := { stood := { row := grammarLimitsUptoRow, standIns := [], harness := (true, "f7f78f61beac6b5266e979ddf40af1e309e2301a885732f2649a0750d70bb6d9"), looks := true }, kinds := [], alts := [], laidByText := true, laidKinds := [.data, .data, .data, .handle, .sentinel, .sentinel], laidTests := true, laidLooks := .later }
def GrammarLimitsUptoCardSaid : Prop := Claim7.holds Tryz.pinned (.plain (OpenSpec.upto grammarLimitsSpec)) grammarLimitsUptoCard

/-- THE SECOND FORM's CARD OF 'jobmuxlaw06.GrammarSignals'. -/
def grammarSignalsUptoCard : Claim7 := { stood := { row := grammarSignalsUptoRow, standIns := [], harness := (true, "f7f78f61beac6b5266e979ddf40af1e309e2301a885732f2649a0750d70bb6d9"), looks := true }, kinds := [], alts := [], laidByText := true, laidKinds := [.data, .data, .data, .handle, .sentinel, .sentinel], laidTests := true, laidLooks := .later }
def GrammarSignalsUptoCardSaid : Prop := Claim7.holds Tryz.pinned (.plain (OpenSpec.upto grammarSignalsSpec)) grammarSignalsUptoCard

/-- THE SECOND FORM's CARD OF 'jobmuxlaw06.GrammarBlanks'. -/
def grammarBlanksUptoCard : Claim7 := { stood := { row := grammarBlanksUptoRow, standIns := [], harness := (true, "f7f78f61beac6b5266e979ddf40af1e309e2301a885732f2649a0750d70bb6d9"), looks := true }, kinds := [], alts := [], laidByText := true, laidKinds := [.data, .data, .data, .handle, .sentinel, .sentinel], laidTests := true, laidLooks := .later }
def GrammarBlanksUptoCardSaid : Prop := Claim7.holds Tryz.pinned (.plain (OpenSpec.upto grammarBlanksSpec)) grammarBlanksUptoCard

/-- THE SECOND FORM's CARD OF 'jobmuxlaw06.GrammarJoins'. -/
def grammarJoinsUptoCard : Claim7 := { stood := { row := grammarJoinsUptoRow, standIns := [], harness := (true, "f7f78f61beac6b5266e979ddf40af1e309e2301a885732f2649a0750d70bb6d9"), looks := true }, kinds := [], alts := [], laidByText := true, laidKinds := [.data, .data, .data, .handle, .sentinel, .sentinel], laidTests := true, laidLooks := .later }
def GrammarJoinsUptoCardSaid : Prop := Claim7.holds Tryz.pinned (.plain (OpenSpec.upto grammarJoinsSpec)) grammarJoinsUptoCard
end Rows
end Go.Proofs.YtdncjhffniepbaaGreatDoor
