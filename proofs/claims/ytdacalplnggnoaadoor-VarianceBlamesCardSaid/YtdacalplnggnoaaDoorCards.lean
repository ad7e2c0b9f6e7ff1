/-
  DERIVED. GIVEN WITH THE SEED: THE CARDS: each row of YtdacalplnggnoaaDoorRows.lean that lists a variable, with what it lists TIED to the program's text (the seventh form; the later family's looks); each row that meets fmt, with fmt's text TOLD by the authors' own Lean function (tested against real Go, not proved from fmt's source: count such statements apart). THE CARD IS WHAT COUNTS. Prove the row's statement (the work); the ties are given (YtdacalplnggnoaaDoorTie.lean); close each card by the builder's one call (the guide's Derived/Test/ToyasCard.lean, 'card_holds'). Laid BY PROGRAM, IN A SANDBOX (cutbox-door.mjs). By AI agents, Wed Nov 11 2026. No macro, syntax, notation, axiom, sorry.
-/
import Derived.Test.YtdacalplnggnoaaDoorRows
import GoSem.ClaimSeven
namespace Go.Proofs.YtdacalplnggnoaaDoor
namespace Rows

/-- THE TIED CARD OF 'plexuslaw20.VarianceTables'. -/
def varianceTablesCard : Claim7 := { stood := { row := varianceTablesRow, standIns := [], harness := (true, "97481e1b999b5193897b017ea5dbaf6b37df5609d0a45a14f44ba1f1c7cd230f"), looks := false }, kinds := [], alts := [], laidByText := true, laidKinds := [.data], laidTests := true, laidLooks := .later }
def VarianceTablesCardSaid : Prop := Claim7.holds Tryd.pinned (.plain (OpenSpec.ofChange varianceTablesSpec)) varianceTablesCard

/-- THE TIED CARD OF 'plexuslaw20.VarianceLaws'. -/
def varianceLawsCard : Claim7 := { stood := { row := varianceLawsRow, standIns := [], harness := (true, "97481e1b999b5193897b017ea5dbaf6b37df5609d0a45a14f44ba1f1c7cd230f"), looks := false }, kinds := [], alts := [], laidByText := true, laidKinds := [.data], laidTests := true, laidLooks := .later }
def VarianceLawsCardSaid : Prop := Claim7.holds Tryd.pinned (.plain (OpenSpec.ofChange varianceLawsSpec)) varianceLawsCard

/-- THE TIED CARD OF 'plexuslaw20.VarianceComposes'. -/
def varianceComposesCard : Claim7 := { stood := { row := varianceComposesRow, standIns := [], harness := (true, "97481e1b999b5193897b017ea5dbaf6b37df5609d0a45a14f44ba1f1c7cd230f"), looks := false }, kinds := [], alts := [], laidByText := true, laidKinds := [.data], laidTests := true, laidLooks := .later }
def VarianceComposesCardSaid : Prop := Claim7.holds Tryd.pinned (.plain (OpenSpec.ofChange varianceComposesSpec)) varianceComposesCard

/-- THE TIED CARD OF 'plexuslaw20.VarianceBlames'. -/
def varianceBlamesCard : Claim7 := { stood := { row := varianceBlamesRow, standIns := [], harness := (true, "97481e1b999b5193897b017ea5dbaf6b37df5609d0a45a14f44ba1f1c7cd230f"), looks := false }, kinds := [], alts := [], laidByText := true, laidKinds := [.data], laidTests := true, laidLooks := .later }
def VarianceBlamesCardSaid : Prop := Claim7.holds Tryd.pinned (.plain (OpenSpec.ofChange varianceBlamesSpec)) varianceBlamesCard

/-- THE SECOND FORM's CARD OF 'plexuslaw20.VarianceTables'. -/
def varianceTablesUptoCard : Claim7 := { stood := { row := varianceTablesUptoRow, standIns := [], harness := (true, "97481e1b999b5193897b017ea5dbaf6b37df5609d0a45a14f44ba1f1c7cd230f"), looks := false }, kinds := [], alts := [], laidByText := true, laidKinds := [.data], laidTests := true, laidLooks := .later }
def VarianceTablesUptoCardSaid : Prop := Claim7.holds Tryd.pinned (.plain (OpenSpec.upto varianceTablesSpec)) varianceTablesUptoCard

/-- THE SECOND FORM's CARD OF 'plexuslaw20.VarianceLaws'. -/
def varianceLawsUptoCard : Claim7 := { stood := { row := varianceLawsUptoRow, standIns := [], harness := (true, "97481e1b999b5193897b017ea5dbaf6b37df5609d0a45a14f44ba1f1c7cd230f"), looks := false }, kinds := [], alts := [], laidByText := true, laidKinds := [.data], laidTests := true, laidLooks := .later }
def VarianceLawsUptoCardSaid : Prop := Claim7.holds Tryd.pinned (.plain (OpenSpec.upto varianceLawsSpec)) varianceLawsUptoCard

/-- THE SECOND FORM's CARD OF 'plexuslaw20.VarianceComposes'. -/
def varianceComposesUptoCard : Claim7 := { stood := { row := varianceComposesUptoRow, standIns := [], harness := (true, "97481e1b999b5193897b017ea5dbaf6b37df5609d0a45a14f44ba1f1c7cd230f"), looks := false }, kinds := [], alts := [], laidByText := true, laidKinds := [.data], laidTests := true, laidLooks := .later }
def VarianceComposesUptoCardSaid : Prop := Claim7.holds Tryd.pinned (.plain (OpenSpec.upto varianceComposesSpec)) varianceComposesUptoCard

/-- THE SECOND FORM's CARD OF 'plexuslaw20.VarianceBlames'. -/
def varianceBlamesUptoCard : Claim7 := { stood := { row := varianceBlamesUptoRow, standIns := [], harness := (true, "97481e1b999b5193897b017ea5dbaf6b37df5609d0a45a14f44ba1f1c7cd230f"), looks := false }, kinds := [], alts := [], laidByText := true, laidKinds := [.data], laidTests := true, laidLooks := .later }
def VarianceBlamesUptoCardSaid : Prop := Claim7.holds Tryd.pinned (.plain (OpenSpec.upto varianceBlamesSpec)) varianceBlamesUptoCard
end Rows
end Go.Proofs.YtdacalplnggnoaaDoor
