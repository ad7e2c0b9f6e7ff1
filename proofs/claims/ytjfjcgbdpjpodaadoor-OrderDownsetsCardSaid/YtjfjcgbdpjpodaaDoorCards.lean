/-
  DERIVED. GIVEN WITH THE SEED: THE CARDS: each row of YtjfjcgbdpjpodaaDoorRows.lean that lists a variable, with what it lists TIED to the program's text (the seventh form; the later family's looks); each row that meets fmt, with fmt's text TOLD by the authors' own Lean function (tested against real Go, not proved from fmt's source: count such statements apart). THE CARD IS WHAT COUNTS. Prove the row's statement (the work); the ties are given (YtjfjcgbdpjpodaaDoorTie.lean); close each card by the builder's one call (the guide's Derived/Test/ToyasCard.lean, 'card_holds'). Laid BY PROGRAM, IN A SANDBOX (cutbox-door.mjs). By AI agents, Wed Nov 11 2026. No macro, syntax, notation, axiom, sorry.
-/
import Derived.Test.YtjfjcgbdpjpodaaDoorRows
import GoSem.ClaimSeven
namespace Go.Proofs.YtjfjcgbdpjpodaaDoor
namespace Rows

/-- THE TIED CARD OF 'plexuslaw04.OrderChecks'. -/
def orderChecksCard : Claim7 := { stood := { row := orderChecksRow, standIns := [], harness := (true, "84b09e059786f30730bd80580c31bb8f06fd50860d8ba5a67f46db066ee8b56e"), looks := false }, kinds := [], alts := [], laidByText := true, laidKinds := [.data], laidTests := true, laidLooks := .later }
def OrderChecksCardSaid : Prop := Claim7.holds Tryd.pinned (.plain (OpenSpec.ofChange orderChecksSpec)) orderChecksCard

/-- THE TIED CARD OF 'plexuslaw04.OrderFaults'. -/
def orderFaultsCard : Claim7 := { stood := { row := orderFaultsRow, standIns := [], harness := (true, "84b09e059786f30730bd80580c31bb8f06fd50860d8ba5a67f46db066ee8b56e"), looks := false }, kinds := [], alts := [], laidByText := true, laidKinds := [.data], laidTests := true, laidLooks := .later }
def OrderFaultsCardSaid : Prop := Claim7.holds Tryd.pinned (.plain (OpenSpec.ofChange orderFaultsSpec)) orderFaultsCard

/-- THE TIED CARD OF 'plexuslaw04.OrderReduces'. -/
def orderReducesCard : Claim7 := { stood := { row := orderReducesRow, standIns := [], harness := (true, "84b09e059786f30730bd80580c31bb8f06fd50860d8ba5a67f46db066ee8b56e"), looks := false }, kinds := [], alts := [], laidByText := true, laidKinds := [.data], laidTests := true, laidLooks := .later }
def OrderReducesCardSaid : Prop := Claim7.holds Tryd.pinned (.plain (OpenSpec.ofChange orderReducesSpec)) orderReducesCard

/-- THE TIED CARD OF 'plexuslaw04.OrderMinimal'. -/
def orderMinimalCard : Claim7 := { stood := { row := orderMinimalRow, standIns := [], harness := (true, "84b09e059786f30730bd80580c31bb8f06fd50860d8ba5a67f46db066ee8b56e"), looks := false }, kinds := [], alts := [], laidByText := true, laidKinds := [.data], laidTests := true, laidLooks := .later }
def OrderMinimalCardSaid : Prop := Claim7.holds Tryd.pinned (.plain (OpenSpec.ofChange orderMinimalSpec)) orderMinimalCard

/-- THE TIED CARD OF 'plexuslaw04.OrderSorts'. -/
def orderSortsCard : Claim7 := { stood := { row := orderSortsRow, standIns := [], harness := (true, "84b09e059786f30730bd80580c31bb8f06fd50860d8ba5a67f46db066ee8b56e"), looks := false }, kinds := [], alts := [], laidByText := true, laidKinds := [.data], laidTests := true, laidLooks := .later }
def OrderSortsCardSaid : Prop := Claim7.holds Tryd.pinned (.plain (OpenSpec.ofChange orderSortsSpec)) orderSortsCard

/-- THE TIED CARD OF 'plexuslaw04.OrderLevels'. -/
def orderLevelsCard : Claim7 := { stood := { row := orderLevelsRow, standIns := [], harness := (true, "84b09e059786f30730bd80580c31bb8f06fd50860d8ba5a67f46db066ee8b56e"), looks := false }, kinds := [], alts := [], laidByText := true, laidKinds := [.data], laidTests := true, laidLooks := .later }
def OrderLevelsCardSaid : Prop := Claim7.holds Tryd.pinned (.plain (OpenSpec.ofChange orderLevelsSpec)) orderLevelsCard

/-- THE TIED CARD OF 'plexuslaw04.OrderMirsky'. -/
def orderMirskyCard : Claim7 := { stood := { row := orderMirskyRow, standIns := [], harness := (true, "84b09e059786f30730bd80580c31bb8f06fd50860d8ba5a67f46db066ee8b56e"), looks := false }, kinds := [], alts := [], laidByText := true, laidKinds := [.data], laidTests := true, laidLooks := .later }
def OrderMirskyCardSaid : Prop := Claim7.holds Tryd.pinned (.plain (OpenSpec.ofChange orderMirskySpec)) orderMirskyCard

/-- THE TIED CARD OF 'plexuslaw04.OrderDilworth'. -/
def orderDilworthCard : Claim7 := { stood := { row := orderDilworthRow, standIns := [], harness := (true, "84b09e059786f30730bd80580c31bb8f06fd50860d8ba5a67f46db066ee8b56e"), looks := false }, kinds := [], alts := [], laidByText := true, laidKinds := [.data], laidTests := true, laidLooks := .later }
def OrderDilworthCardSaid : Prop := Claim7.holds Tryd.pinned (.plain (OpenSpec.ofChange orderDilworthSpec)) orderDilworthCard

/-- THE TIED CARD OF 'plexuslaw04.OrderExtremes'. -/
def orderExtremesCard : Claim7 := { stood := { row := orderExtremesRow, standIns := [], harness := (true, "84b09e059786f30730bd80580c31bb8f06fd50860d8ba5a67f46db066ee8b56e"), looks := false }, kinds := [], alts := [], laidByText := true, laidKinds := [.data], laidTests := true, laidLooks := .later }
def OrderExtremesCardSaid : Prop := Claim7.holds Tryd.pinned (.plain (OpenSpec.ofChange orderExtremesSpec)) orderExtremesCard

/-- THE TIED CARD OF 'plexuslaw04.OrderDownsets'. -/
def orderDownsetsCard : Claim7 := { stood := { row := orderDownsetsRow, standIns := [], harness := (true, "84b09e059786f30730bd80580c31bb8f06fd50860d8ba5a67f46db066ee8b56e"), looks := false }, kinds := [], alts := [], laidByText := true, laidKinds := [.data], laidTests := true, laidLooks := .later }
def OrderDownsetsCardSaid : Prop := Claim7.holds Tryd.pinned (.plain (OpenSpec.ofChange orderDownsetsSpec)) orderDownsetsCard

/-- THE SECOND FORM's CARD OF 'plexuslaw04.OrderChecks'. -/
def orderChecksUptoCard : Claim7 := { stood := { row := orderChecksUptoRow, standIns := [], harness := (true, "84b09e059786f30730bd80580c31bb8f06fd50860d8ba5a67f46db066ee8b56e"), looks := false }, kinds := [], alts := [], laidByText := true, laidKinds := [.data], laidTests := true, laidLooks := .later }
def OrderChecksUptoCardSaid : Prop := Claim7.holds Tryd.pinned (.plain (OpenSpec.upto orderChecksSpec)) orderChecksUptoCard

/-- THE SECOND FORM's CARD OF 'plexuslaw04.OrderFaults'. -/
def orderFaultsUptoCard : Claim7 := { stood := { row := orderFaultsUptoRow, standIns := [], harness := (true, "84b09e059786f30730bd80580c31bb8f06fd50860d8ba5a67f46db066ee8b56e"), looks := false }, kinds := [], alts := [], laidByText := true, laidKinds := [.data], laidTests := true, laidLooks := .later }
def OrderFaultsUptoCardSaid : Prop := Claim7.holds Tryd.pinned (.plain (OpenSpec.upto orderFaultsSpec)) orderFaultsUptoCard

/-- THE SECOND FORM's CARD OF 'plexuslaw04.OrderReduces'. -/
def orderReducesUptoCard : Claim7 := { stood := { row := orderReducesUptoRow, standIns := [], harness := (true, "84b09e059786f30730bd80580c31bb8f06fd50860d8ba5a67f46db066ee8b56e"), looks := false }, kinds := [], alts := [], laidByText := true, laidKinds := [.data], laidTests := true, laidLooks := .later }
def OrderReducesUptoCardSaid : Prop := Claim7.holds Tryd.pinned (.plain (OpenSpec.upto orderReducesSpec)) orderReducesUptoCard

/-- THE SECOND FORM's CARD OF 'plexuslaw04.OrderMinimal'. -/
def orderMinimalUptoCard : Claim7 := { stood := { row := orderMinimalUptoRow, standIns := [], harness := (true, "84b09e059786f30730bd80580c31bb8f06fd50860d8ba5a67f46db066ee8b56e"), looks := false }, kinds := [], alts := [], laidByText := true, laidKinds := [.data], laidTests := true, laidLooks := .later }
def OrderMinimalUptoCardSaid : Prop := Claim7.holds Tryd.pinned (.plain (OpenSpec.upto orderMinimalSpec)) orderMinimalUptoCard

/-- THE SECOND FORM's CARD OF 'plexuslaw04.OrderSorts'. -/
def orderSortsUptoCard : Claim7 := { stood := { row := orderSortsUptoRow, standIns := [], harness := (true, "84b09e059786f30730bd80580c31bb8f06fd50860d8ba5a67f46db066ee8b56e"), looks := false }, kinds := [], alts := [], laidByText := true, laidKinds := [.data], laidTests := true, laidLooks := .later }
def OrderSortsUptoCardSaid : Prop := Claim7.holds Tryd.pinned (.plain (OpenSpec.upto orderSortsSpec)) orderSortsUptoCard

/-- THE SECOND FORM's CARD OF 'plexuslaw04.OrderLevels'. -/
def orderLevelsUptoCard : Claim7 := { stood := { row := orderLevelsUptoRow, standIns := [], harness := (true, "84b09e059786f30730bd80580c31bb8f06fd50860d8ba5a67f46db066ee8b56e"), looks := false }, kinds := [], alts := [], laidByText := true, laidKinds := [.data], laidTests := true, laidLooks := .later }
def OrderLevelsUptoCardSaid : Prop := Claim7.holds Tryd.pinned (.plain (OpenSpec.upto orderLevelsSpec)) orderLevelsUptoCard

/-- THE SECOND FORM's CARD OF 'plexuslaw04.OrderMirsky'. -/
def orderMirskyUptoCard : Claim7 := { stood := { row := orderMirskyUptoRow, standIns := [], harness := (true, "84b09e059786f30730bd80580c31bb8f06fd50860d8ba5a67f46db066ee8b56e"), looks := false }, kinds := [], alts := [], laidByText := true, laidKinds := [.data], laidTests := true, laidLooks := .later }
def OrderMirskyUptoCardSaid : Prop := Claim7.holds Tryd.pinned (.plain (OpenSpec.upto orderMirskySpec)) orderMirskyUptoCard

/-- THE SECOND FORM's CARD OF 'plexuslaw04.OrderDilworth'. -/
def orderDilworthUptoCard : Claim7 := { stood := { row := orderDilworthUptoRow, standIns := [], harness := (true, "84b09e059786f30730bd80580c31bb8f06fd50860d8ba5a67f46db066ee8b56e"), looks := false }, kinds := [], alts := [], laidByText := true, laidKinds := [.data], laidTests := true, laidLooks := .later }
def OrderDilworthUptoCardSaid : Prop := Claim7.holds Tryd.pinned (.plain (OpenSpec.upto orderDilworthSpec)) orderDilworthUptoCard

/-- THE SECOND FORM's CARD OF 'plexuslaw04.OrderExtremes'. -/
def orderExtremesUptoCard : Claim7 := { stood := { row := orderExtremesUptoRow, standIns := [], harness := (true, "84b09e059786f30730bd80580c31bb8f06fd50860d8ba5a67f46db066ee8b56e"), looks := false }, kinds := [], alts := [], laidByText := true, laidKinds := [.data], laidTests := true, laidLooks := .later }
def OrderExtremesUptoCardSaid : Prop := Claim7.holds Tryd.pinned (.plain (OpenSpec.upto orderExtremesSpec)) orderExtremesUptoCard

/-- THE SECOND FORM's CARD OF 'plexuslaw04.OrderDownsets'. -/
def orderDownsetsUptoCard : Claim7 := { stood := { row := orderDownsetsUptoRow, standIns := [], harness := (true, "84b09e059786f30730bd80580c31bb8f06fd50860d8ba5a67f46db066ee8b56e"), looks := false }, kinds := [], alts := [], laidByText := true, laidKinds := [.data], laidTests := true, laidLooks := .later }
def OrderDownsetsUptoCardSaid : Prop := Claim7.holds Tryd.pinned (.plain (OpenSpec.upto orderDownsetsSpec)) orderDownsetsUptoCard
end Rows
end Go.Proofs.YtjfjcgbdpjpodaaDoor
