/-
  DERIVED. GIVEN WITH THE SEED: THE CARDS: each row of YtdmjlmlmdllhgaaDoorRows.lean that lists a variable, with what it lists TIED to the program's text (the seventh form; the later family's looks); each row that meets fmt, with fmt's text TOLD by the authors' own Lean function (tested against real Go, not proved from fmt's source: count such statements apart). THE CARD IS WHAT COUNTS. Prove the row's statement (the work); the ties are given (YtdmjlmlmdllhgaaDoorTie.lean); close each card by the builder's one call (the guide's Derived/Test/ToyasCard.lean, 'card_holds'). Laid BY PROGRAM, IN A SANDBOX (cutbox-door.mjs). By AI agents, Wed Nov 11 2026. No macro, syntax, notation, axiom, sorry.
-/
import Derived.Test.YtdmjlmlmdllhgaaDoorRows
import GoSem.ClaimSeven
namespace Go.Proofs.YtdmjlmlmdllhgaaDoor
namespace Rows

/-- THE TIED CARD OF 'plexuslaw15.LexerWords'. -/
def lexerWordsCard : Claim7 := { stood := { row := lexerWordsRow, standIns := [], harness := (true, "3f272864c857f8c9818f6f1294cf6807eec2255a59e40d6f22064098f93a4e37"), looks := true }, kinds := [], alts := [], laidByText := true, laidKinds := [.data, .data, .data, .sentinel, .sentinel, .data, .data], laidTests := true, laidLooks := .later }
def LexerWordsCardSaid : Prop := Claim7.holds Tryd.pinned (.plain (OpenSpec.ofChange lexerWordsSpec)) lexerWordsCard

/-- THE TIED CARD OF 'plexuslaw15.LexerNext'. -/
def lexerNextCard : Claim7 := { stood := { row := lexerNextRow, standIns := [], harness := (true, "3f272864c857f8c9818f6f1294cf6807eec2255a59e40d6f22064098f93a4e37"), looks := true }, kinds := [], alts := [], laidByText := true, laidKinds := [.data, .data, .data, .sentinel, .sentinel, .data, .data], laidTests := true, laidLooks := .later }
def LexerNextCardSaid : Prop := Claim7.holds Tryd.pinned (.plain (OpenSpec.ofChange lexerNextSpec)) lexerNextCard

/-- THE TIED CARD OF 'plexuslaw15.LexerLex'. -/
def lexerLexCard : Claim7 := { stood := { row := lexerLexRow, standIns := [], harness := (true, "3f272864c857f8c9818f6f1294cf6807eec2255a59e40d6f22064098f93a4e37"), looks := true }, kinds := [], alts := [], laidByText := true, laidKinds := [.data, .data, .data, .sentinel, .sentinel, .data, .data], laidTests := true, laidLooks := .later }
def LexerLexCardSaid : Prop := Claim7.holds Tryd.pinned (.plain (OpenSpec.ofChange lexerLexSpec)) lexerLexCard

/-- THE TIED CARD OF 'plexuslaw15.LexerSteps'. -/
def lexerStepsCard : Claim7 := { stood := { row := lexerStepsRow, standIns := [], harness := (true, "3f272864c857f8c9818f6f1294cf6807eec2255a59e40d6f22064098f93a4e37"), looks := true }, kinds := [], alts := [], laidByText := true, laidKinds := [.data, .data, .data, .sentinel, .sentinel, .data, .data], laidTests := true, laidLooks := .later }
def LexerStepsCardSaid : Prop := Claim7.holds Tryd.pinned (.plain (OpenSpec.ofChange lexerStepsSpec)) lexerStepsCard

/-- THE TIED CARD OF 'plexuslaw15.LexerTexts'. -/
def lexerTextsCard : Claim7 := { stood := { row := lexerTextsRow, standIns := [], harness := (true, "3f272864c857f8c9818f6f1294cf6807eec2255a59e40d6f22064098f93a4e37"), looks := true }, kinds := [], alts := [], laidByText := true, laidKinds := [.data, .data, .data, .sentinel, .sentinel, .data, .data], laidTests := true, laidLooks := .later }
def LexerTextsCardSaid : Prop := Claim7.holds Tryd.pinned (.plain (OpenSpec.ofChange lexerTextsSpec)) lexerTextsCard

/-- THE TIED CARD OF 'plexuslaw15.LexerAgain'. -/
def lexerAgainCard : Claim7 := { stood := { row := lexerAgainRow, standIns := [], harness := (true, "3f272864c857f8c9818f6f1294cf6807eec2255a59e40d6f22064098f93a4e37"), looks := true }, kinds := [], alts := [], laidByText := true, laidKinds := [.data, .data, .data, .sentinel, .sentinel, .data, .data], laidTests := true, laidLooks := .later }
def LexerAgainCardSaid : Prop := Claim7.holds Tryd.pinned (.plain (OpenSpec.ofChange lexerAgainSpec)) lexerAgainCard

/-- THE TIED CARD OF 'plexuslaw15.LexerBlanks'. -/
def lexerBlanksCard : Claim7 := { stood := { row := lexerBlanksRow, standIns := [], harness := (true, "3f272864c857f8c9818f6f1294cf6807eec2255a59e40d6f22064098f93a4e37"), looks := true }, kinds := [], alts := [], laidByText := true, laidKinds := [.data, .data, .data, .sentinel, .sentinel, .data, .data], laidTests := true, laidLooks := .later }
def LexerBlanksCardSaid : Prop := Claim7.holds Tryd.pinned (.plain (OpenSpec.ofChange lexerBlanksSpec)) lexerBlanksCard

/-- THE TIED CARD OF 'plexuslaw15.LexerSpells'. -/
def lexerSpellsCard : Claim7 := { stood := { row := lexerSpellsRow, standIns := [], harness := (true, "3f272864c857f8c9818f6f1294cf6807eec2255a59e40d6f22064098f93a4e37"), looks := true }, kinds := [], alts := [], laidByText := true, laidKinds := [.data, .data, .data, .sentinel, .sentinel, .data, .data], laidTests := true, laidLooks := .later }
def LexerSpellsCardSaid : Prop := Claim7.holds Tryd.pinned (.plain (OpenSpec.ofChange lexerSpellsSpec)) lexerSpellsCard

/-- THE TIED CARD OF 'plexuslaw15.LexerFaults'. -/
def lexerFaultsCard : Claim7 := { stood := { row := lexerFaultsRow, standIns := [], harness := (true, "3f272864c857f8c9818f6f1294cf6807eec2255a59e40d6f22064098f93a4e37"), looks := true }, kinds := [], alts := [], laidByText := true, laidKinds := [.data, .data, .data, .sentinel, .sentinel, .data, .data], laidTests := true, laidLooks := .later }
def LexerFaultsCardSaid : Prop := Claim7.holds Tryd.pinned (.plain (OpenSpec.ofChange lexerFaultsSpec)) lexerFaultsCard

/-- THE TIED CARD OF 'plexuslaw15.LexerLimits'. -/
def lexerLimitsCard : Claim7 := { stood := { row := lexerLimitsRow, standIns := [], harness := (true, "3f272864c857f8c9818f6f1294cf6807eec2255a59e40d6f22064098f93a4e37"), looks := true }, kinds := [], alts := [], laidByText := true, laidKinds := [.data, .data, .data, .sentinel, .sentinel, .data, .data], laidTests := true, laidLooks := .later }
def LexerLimitsCardSaid : Prop := Claim7.holds Tryd.pinned (.plain (OpenSpec.ofChange lexerLimitsSpec)) lexerLimitsCard

/-- THE TIED CARD OF 'plexuslaw15.LexerPlaces'. -/
def lexerPlacesCard : Claim7 := { stood := { row := lexerPlacesRow, standIns := [], harness := (true, "3f272864c857f8c9818f6f1294cf6807eec2255a59e40d6f22064098f93a4e37"), looks := true }, kinds := [], alts := [], laidByText := true, laidKinds := [.data, .data, .data, .sentinel, .sentinel, .data, .data], laidTests := true, laidLooks := .later }
def LexerPlacesCardSaid : Prop := Claim7.holds Tryd.pinned (.plain (OpenSpec.ofChange lexerPlacesSpec)) lexerPlacesCard

/-- THE SECOND FORM's CARD OF 'plexuslaw15.LexerWords'. -/
def lexerWordsUptoCard : Claim7 := { stood := { row := lexerWordsUptoRow, standIns := [], harness := (true, "3f272864c857f8c9818f6f1294cf6807eec2255a59e40d6f22064098f93a4e37"), looks := true }, kinds := [], alts := [], laidByText := true, laidKinds := [.data, .data, .data, .sentinel, .sentinel, .data, .data], laidTests := true, laidLooks := .later }
def LexerWordsUptoCardSaid : Prop := Claim7.holds Tryd.pinned (.plain (OpenSpec.upto lexerWordsSpec)) lexerWordsUptoCard

/-- THE SECOND FORM's CARD OF 'plexuslaw15.LexerNext'. -/
def lexerNextUptoCard : Claim7 := { stood := { row := lexerNextUptoRow, standIns := [], harness := (true, "3f272864c857f8c9818f6f1294cf6807eec2255a59e40d6f22064098f93a4e37"), looks := true }, kinds := [], alts := [], laidByText := true, laidKinds := [.data, .data, .data, .sentinel, .sentinel, .data, .data], laidTests := true, laidLooks := .later }
def LexerNextUptoCardSaid : Prop := Claim7.holds Tryd.pinned (.plain (OpenSpec.upto lexerNextSpec)) lexerNextUptoCard

/-- THE SECOND FORM's CARD OF 'plexuslaw15.LexerLex'. -/
def lexerLexUptoCard : Claim7 := { stood := { row := lexerLexUptoRow, standIns := [], harness := (true, "3f272864c857f8c9818f6f1294cf6807eec2255a59e40d6f22064098f93a4e37"), looks := true }, kinds := [], alts := [], laidByText := true, laidKinds := [.data, .data, .data, .sentinel, .sentinel, .data, .data], laidTests := true, laidLooks := .later }
def LexerLexUptoCardSaid : Prop := Claim7.holds Tryd.pinned (.plain (OpenSpec.upto lexerLexSpec)) lexerLexUptoCard

/-- THE SECOND FORM's CARD OF 'plexuslaw15.LexerSteps'. -/
def lexerStepsUptoCard : Claim7 := { stood := { row := lexerStepsUptoRow, standIns := [], harness := (true, "3f272864c857f8c9818f6f1294cf6807eec2255a59e40d6f22064098f93a4e37"), looks := true }, kinds := [], alts := [], laidByText := true, laidKinds := [.data, .data, .data, .sentinel, .sentinel, .data, .data], laidTests := true, laidLooks := .later }
def LexerStepsUptoCardSaid : Prop := Claim7.holds Tryd.pinned (.plain (OpenSpec.upto lexerStepsSpec)) lexerStepsUptoCard

/-- THE SECOND FORM's CARD OF 'plexuslaw15.LexerTexts'. -/
def lexerTextsUptoCard : Claim7 := { stood := { row := lexerTextsUptoRow, standIns := [], harness := (true, "3f272864c857f8c9818f6f1294cf6807eec2255a59e40d6f22064098f93a4e37"), looks := true }, kinds := [], alts := [], laidByText := true, laidKinds := [.data, .data, .data, .sentinel, .sentinel, .data, .data], laidTests := true, laidLooks := .later }
def LexerTextsUptoCardSaid : Prop := Claim7.holds Tryd.pinned (.plain (OpenSpec.upto lexerTextsSpec)) lexerTextsUptoCard

/-- THE SECOND FORM's CARD OF 'plexuslaw15.LexerAgain'. -/
def lexerAgainUptoCard : Claim7 := { stood := { row := lexerAgainUptoRow, standIns := [], harness := (true, "3f272864c857f8c9818f6f1294cf6807eec2255a59e40d6f22064098f93a4e37"), looks := true }, kinds := [], alts := [], laidByText := true, laidKinds := [.data, .data, .data, .sentinel, .sentinel, .data, .data], laidTests := true, laidLooks := .later }
def LexerAgainUptoCardSaid : Prop := Claim7.holds Tryd.pinned (.plain (OpenSpec.upto lexerAgainSpec)) lexerAgainUptoCard

/-- THE SECOND FORM's CARD OF 'plexuslaw15.LexerBlanks'. -/
def lexerBlanksUptoCard : Claim7 := { stood := { row := lexerBlanksUptoRow, standIns := [], harness := (true, "3f272864c857f8c9818f6f1294cf6807eec2255a59e40d6f22064098f93a4e37"), looks := true }, kinds := [], alts := [], laidByText := true, laidKinds := [.data, .data, .data, .sentinel, .sentinel, .data, .data], laidTests := true, laidLooks := .later }
def LexerBlanksUptoCardSaid : Prop := Claim7.holds Tryd.pinned (.plain (OpenSpec.upto lexerBlanksSpec)) lexerBlanksUptoCard

/-- THE SECOND FORM's CARD OF 'plexuslaw15.LexerSpells'. -/
def lexerSpellsUptoCard : Claim7 := { stood := { row := lexerSpellsUptoRow, standIns := [], harness := (true, "3f272864c857f8c9818f6f1294cf6807eec2255a59e40d6f22064098f93a4e37"), looks := true }, kinds := [], alts := [], laidByText := true, laidKinds := [.data, .data, .data, .sentinel, .sentinel, .data, .data], laidTests := true, laidLooks := .later }
def LexerSpellsUptoCardSaid : Prop := Claim7.holds Tryd.pinned (.plain (OpenSpec.upto lexerSpellsSpec)) lexerSpellsUptoCard

/-- THE SECOND FORM's CARD OF 'plexuslaw15.LexerFaults'. -/
def lexerFaultsUptoCard : Claim7 := { stood := { row := lexerFaultsUptoRow, standIns := [], harness := (true, "3f272864c857f8c9818f6f1294cf6807eec2255a59e40d6f22064098f93a4e37"), looks := true }, kinds := [], alts := [], laidByText := true, laidKinds := [.data, .data, .data, .sentinel, .sentinel, .data, .data], laidTests := true, laidLooks := .later }
def LexerFaultsUptoCardSaid : Prop := Claim7.holds Tryd.pinned (.plain (OpenSpec.upto lexerFaultsSpec)) lexerFaultsUptoCard

/-- THE SECOND FORM's CARD OF 'plexuslaw15.LexerLimits'. -/
def lexerLimitsUptoCard : Claim7 := { stood := { row := lexerLimitsUptoRow, standIns := [], harness := (true, "3f272864c857f8c9818f6f1294cf6807eec2255a59e40d6f22064098f93a4e37"), looks := true }, kinds := [], alts := [], laidByText := true, laidKinds := [.data, .data, .data, .sentinel, .sentinel, .data, .data], laidTests := true, laidLooks := .later }
def LexerLimitsUptoCardSaid : Prop := Claim7.holds Tryd.pinned (.plain (OpenSpec.upto lexerLimitsSpec)) lexerLimitsUptoCard

/-- THE SECOND FORM's CARD OF 'plexuslaw15.LexerPlaces'. -/
def lexerPlacesUptoCard : Claim7 := { stood := { row := lexerPlacesUptoRow, standIns := [], harness := (true, "3f272864c857f8c9818f6f1294cf6807eec2255a59e40d6f22064098f93a4e37"), looks := true }, kinds := [], alts := [], laidByText := true, laidKinds := [.data, .data, .data, .sentinel, .sentinel, .data, .data], laidTests := true, laidLooks := .later }
def LexerPlacesUptoCardSaid : Prop := Claim7.holds Tryd.pinned (.plain (OpenSpec.upto lexerPlacesSpec)) lexerPlacesUptoCard
end Rows
end Go.Proofs.YtdmjlmlmdllhgaaDoor
