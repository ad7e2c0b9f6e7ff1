/-
  NARROWER THAN 'FOR EVERY INPUT', by the rows' own cells (each row's printed sentence says how): OrderChecks: laid · OrderFaults: laid · OrderReduces: laid · OrderMinimal: laid · OrderSorts: laid · OrderLevels: laid · OrderMirsky: laid · OrderDilworth: laid · OrderExtremes: laid · OrderDownsets: laid.
  DERIVED. THE GIVEN ROWS OF THIS SEAT. 10 by the template 'for every input the law returns true; each argument reads behind the call as it read before'; 0 by the template 'total and deterministic' (their statements: YtjfjcgbdpjpodaaDoorTotals.lean).
  GIVEN WITH THE SEED: the statements are not yours to turn. If you find one false, say at which input.
  Laid BY PROGRAM, IN A SANDBOX (cutbox-rows.mjs): the forced cells as the released guide's own fill.sh prints them over the translation c06e6ed7eaa654d2… (all of the seat's roots in one cut). By AI agents, Wed Nov 11 2026. No macro, syntax, notation, axiom, sorry.
-/
import Derived.Test.YtjfjcgbdpjpodaaDoorChecked
import GoSem.Claim
import GoSem.ClaimJoined
import GoSem.ClaimMapViews
import Derived.JoinedTies
import Derived.KernelRfl
namespace Go.Proofs.YtjfjcgbdpjpodaaDoor
/- THE CELL 'sum', in the pinned program and in every row, IS THE sha256 OF THE DUMP (.gsa) THAT YtjfjcgbdpjpodaaDoorProg.lean LOADS. Nothing in Lean hashes anything: it is a label: what it is worth is what the hold of that sum in a sandbox is worth. -/
noncomputable def Tryd.pinned : Pinned := { name := "ytjfjcgbdpjpodaadoor", sum := "c06e6ed7eaa654d29474f2bac4d9b582f5464b9c9c6b685c30dee74fddeabaa1", checked := Tryd.checked }
namespace Rows
def none {H : Type} : Left H := { results := [], args := [] }

/- WHAT THE LISTED PACKAGE-LEVEL VARIABLES READ AS WHEN THE CALL BEGINS. Each datum BY PROGRAM (the guide's laid-datum.mjs) off the statement by which the dump's own 'gosem.cut.vars' lays the variable. In a bare row this is a premise. The card (YtjfjcgbdpjpodaaDoorCards.lean) ties it to the program's text. -/
def laid_math_bits_deBruijn64tab {H : Type} : DataW H := .agg [.lit (.int .u8 0), .lit (.int .u8 1), .lit (.int .u8 56), .lit (.int .u8 2), .lit (.int .u8 57), .lit (.int .u8 49), .lit (.int .u8 28), .lit (.int .u8 3), .lit (.int .u8 61), .lit (.int .u8 58), .lit (.int .u8 42), .lit (.int .u8 50), .lit (.int .u8 38), .lit (.int .u8 29), .lit (.int .u8 17), .lit (.int .u8 4), .lit (.int .u8 62), .lit (.int .u8 47), .lit (.int .u8 59), .lit (.int .u8 36), .lit (.int .u8 45), .lit (.int .u8 43), .lit (.int .u8 51), .lit (.int .u8 22), .lit (.int .u8 53), .lit (.int .u8 39), .lit (.int .u8 33), .lit (.int .u8 30), .lit (.int .u8 24), .lit (.int .u8 18), .lit (.int .u8 12), .lit (.int .u8 5), .lit (.int .u8 63), .lit (.int .u8 55), .lit (.int .u8 48), .lit (.int .u8 27), .lit (.int .u8 60), .lit (.int .u8 41), .lit (.int .u8 37), .lit (.int .u8 16), .lit (.int .u8 46), .lit (.int .u8 35), .lit (.int .u8 44), .lit (.int .u8 21), .lit (.int .u8 52), .lit (.int .u8 32), .lit (.int .u8 23), .lit (.int .u8 11), .lit (.int .u8 54), .lit (.int .u8 26), .lit (.int .u8 40), .lit (.int .u8 15), .lit (.int .u8 34), .lit (.int .u8 20), .lit (.int .u8 31), .lit (.int .u8 10), .lit (.int .u8 25), .lit (.int .u8 14), .lit (.int .u8 19), .lit (.int .u8 9), .lit (.int .u8 13), .lit (.int .u8 8), .lit (.int .u8 7), .lit (.int .u8 6)]

/-- 'plexuslaw04.OrderChecks': WHATEVER THE INPUT: true; the input reads as it did. -/
def orderChecksSpec : ChangeSpec := { name := "orderChecks", fn := fun _ => fun
  | [d1, d2] => { results := [.lit (.bool true)], args := [d1, d2] }
  | _ => none }
def orderChecksRow : OpenClaim := { program := "ytjfjcgbdpjpodaadoor", sum := "c06e6ed7eaa654d29474f2bac4d9b582f5464b9c9c6b685c30dee74fddeabaa1", func := "plexus/plexuslaw04.OrderChecks", spec := "orderChecks", unfollowed := true, recurses := true, named := ["math/bits.deBruijn64tab"], apart := false, laid := [("math/bits.deBruijn64tab", laid_math_bits_deBruijn64tab)] }
def OrderChecksSaid : Prop := orderChecksRow.holds Tryd.pinned (OpenSpec.ofChange orderChecksSpec)

/-- ITS FALSE NEIGHBOUR: 'it returns false'. Refute it at one input. -/
def orderChecksWrong : ChangeSpec := { name := "orderChecks", fn := fun _ => fun
  | [d1, d2] => { results := [.lit (.bool false)], args := [d1, d2] }
  | _ => none }
def OrderChecksWrongFalsely : Prop := orderChecksRow.holds Tryd.pinned (OpenSpec.ofChange orderChecksWrong)

/-- 'plexuslaw04.OrderFaults': WHATEVER THE INPUT: true; the input reads as it did. -/
def orderFaultsSpec : ChangeSpec := { name := "orderFaults", fn := fun _ => fun
  | [d1, d2, d3] => { results := [.lit (.bool true)], args := [d1, d2, d3] }
  | _ => none }
def orderFaultsRow : OpenClaim := { program := "ytjfjcgbdpjpodaadoor", sum := "c06e6ed7eaa654d29474f2bac4d9b582f5464b9c9c6b685c30dee74fddeabaa1", func := "plexus/plexuslaw04.OrderFaults", spec := "orderFaults", unfollowed := true, recurses := true, named := ["math/bits.deBruijn64tab"], apart := false, laid := [("math/bits.deBruijn64tab", laid_math_bits_deBruijn64tab)] }
def OrderFaultsSaid : Prop := orderFaultsRow.holds Tryd.pinned (OpenSpec.ofChange orderFaultsSpec)

/-- ITS FALSE NEIGHBOUR: 'it returns false'. Refute it at one input. -/
def orderFaultsWrong : ChangeSpec := { name := "orderFaults", fn := fun _ => fun
  | [d1, d2, d3] => { results := [.lit (.bool false)], args := [d1, d2, d3] }
  | _ => none }
def OrderFaultsWrongFalsely : Prop := orderFaultsRow.holds Tryd.pinned (OpenSpec.ofChange orderFaultsWrong)

/-- 'plexuslaw04.OrderReduces': WHATEVER THE INPUT: true; the input reads as it did. -/
def orderReducesSpec : ChangeSpec := { name := "orderReduces", fn := fun _ => fun
  | [d1, d2] => { results := [.lit (.bool true)], args := [d1, d2] }
  | _ => none }
def orderReducesRow : OpenClaim := { program := "ytjfjcgbdpjpodaadoor", sum := "c06e6ed7eaa654d29474f2bac4d9b582f5464b9c9c6b685c30dee74fddeabaa1", func := "plexus/plexuslaw04.OrderReduces", spec := "orderReduces", unfollowed := true, recurses := true, named := ["math/bits.deBruijn64tab"], apart := false, laid := [("math/bits.deBruijn64tab", laid_math_bits_deBruijn64tab)] }
def OrderReducesSaid : Prop := orderReducesRow.holds Tryd.pinned (OpenSpec.ofChange orderReducesSpec)

/-- ITS FALSE NEIGHBOUR: 'it returns false'. Refute it at one input. -/
def orderReducesWrong : ChangeSpec := { name := "orderReduces", fn := fun _ => fun
  | [d1, d2] => { results := [.lit (.bool false)], args := [d1, d2] }
  | _ => none }
def OrderReducesWrongFalsely : Prop := orderReducesRow.holds Tryd.pinned (OpenSpec.ofChange orderReducesWrong)

/-- 'plexuslaw04.OrderMinimal': WHATEVER THE INPUT: true; the input reads as it did. -/
def orderMinimalSpec : ChangeSpec := { name := "orderMinimal", fn := fun _ => fun
  | [d1, d2] => { results := [.lit (.bool true)], args := [d1, d2] }
  | _ => none }
def orderMinimalRow : OpenClaim := { program := "ytjfjcgbdpjpodaadoor", sum := "c06e6ed7eaa654d29474f2bac4d9b582f5464b9c9c6b685c30dee74fddeabaa1", func := "plexus/plexuslaw04.OrderMinimal", spec := "orderMinimal", unfollowed := true, recurses := true, named := ["math/bits.deBruijn64tab"], apart := false, laid := [("math/bits.deBruijn64tab", laid_math_bits_deBruijn64tab)] }
def OrderMinimalSaid : Prop := orderMinimalRow.holds Tryd.pinned (OpenSpec.ofChange orderMinimalSpec)

/-- ITS FALSE NEIGHBOUR: 'it returns false'. Refute it at one input. -/
def orderMinimalWrong : ChangeSpec := { name := "orderMinimal", fn := fun _ => fun
  | [d1, d2] => { results := [.lit (.bool false)], args := [d1, d2] }
  | _ => none }
def OrderMinimalWrongFalsely : Prop := orderMinimalRow.holds Tryd.pinned (OpenSpec.ofChange orderMinimalWrong)

/-- 'plexuslaw04.OrderSorts': WHATEVER THE INPUT: true; the input reads as it did. -/
def orderSortsSpec : ChangeSpec := { name := "orderSorts", fn := fun _ => fun
  | [d1, d2] => { results := [.lit (.bool true)], args := [d1, d2] }
  | _ => none }
def orderSortsRow : OpenClaim := { program := "ytjfjcgbdpjpodaadoor", sum := "c06e6ed7eaa654d29474f2bac4d9b582f5464b9c9c6b685c30dee74fddeabaa1", func := "plexus/plexuslaw04.OrderSorts", spec := "orderSorts", unfollowed := true, recurses := true, named := ["math/bits.deBruijn64tab"], apart := false, laid := [("math/bits.deBruijn64tab", laid_math_bits_deBruijn64tab)] }
def OrderSortsSaid : Prop := orderSortsRow.holds Tryd.pinned (OpenSpec.ofChange orderSortsSpec)

/-- ITS FALSE NEIGHBOUR: 'it returns false'. Refute it at one input. -/
def orderSortsWrong : ChangeSpec := { name := "orderSorts", fn := fun _ => fun
  | [d1, d2] => { results := [.lit (.bool false)], args := [d1, d2] }
  | _ => none }
def OrderSortsWrongFalsely : Prop := orderSortsRow.holds Tryd.pinned (OpenSpec.ofChange orderSortsWrong)

/-- 'plexuslaw04.OrderLevels': WHATEVER THE INPUT: true; the input reads as it did. -/
def orderLevelsSpec : ChangeSpec := { name := "orderLevels", fn := fun _ => fun
  | [d1, d2] => { results := [.lit (.bool true)], args := [d1, d2] }
  | _ => none }
def orderLevelsRow : OpenClaim := { program := "ytjfjcgbdpjpodaadoor", sum := "c06e6ed7eaa654d29474f2bac4d9b582f5464b9c9c6b685c30dee74fddeabaa1", func := "plexus/plexuslaw04.OrderLevels", spec := "orderLevels", unfollowed := true, recurses := true, named := ["math/bits.deBruijn64tab"], apart := false, laid := [("math/bits.deBruijn64tab", laid_math_bits_deBruijn64tab)] }
def OrderLevelsSaid : Prop := orderLevelsRow.holds Tryd.pinned (OpenSpec.ofChange orderLevelsSpec)

/-- ITS FALSE NEIGHBOUR: 'it returns false'. Refute it at one input. -/
def orderLevelsWrong : ChangeSpec := { name := "orderLevels", fn := fun _ => fun
  | [d1, d2] => { results := [.lit (.bool false)], args := [d1, d2] }
  | _ => none }
def OrderLevelsWrongFalsely : Prop := orderLevelsRow.holds Tryd.pinned (OpenSpec.ofChange orderLevelsWrong)

/-- 'plexuslaw04.OrderMirsky': WHATEVER THE INPUT: true; the input reads as it did. -/
def orderMirskySpec : ChangeSpec := { name := "orderMirsky", fn := fun _ => fun
  | [d1, d2] => { results := [.lit (.bool true)], args := [d1, d2] }
  | _ => none }
def orderMirskyRow : OpenClaim := { program := "ytjfjcgbdpjpodaadoor", sum := "c06e6ed7eaa654d29474f2bac4d9b582f5464b9c9c6b685c30dee74fddeabaa1", func := "plexus/plexuslaw04.OrderMirsky", spec := "orderMirsky", unfollowed := true, recurses := true, named := ["math/bits.deBruijn64tab"], apart := false, laid := [("math/bits.deBruijn64tab", laid_math_bits_deBruijn64tab)] }
def OrderMirskySaid : Prop := orderMirskyRow.holds Tryd.pinned (OpenSpec.ofChange orderMirskySpec)

/-- ITS FALSE NEIGHBOUR: 'it returns false'. Refute it at one input. -/
def orderMirskyWrong : ChangeSpec := { name := "orderMirsky", fn := fun _ => fun
  | [d1, d2] => { results := [.lit (.bool false)], args := [d1, d2] }
  | _ => none }
def OrderMirskyWrongFalsely : Prop := orderMirskyRow.holds Tryd.pinned (OpenSpec.ofChange orderMirskyWrong)

/-- 'plexuslaw04.OrderDilworth': WHATEVER THE INPUT: true; the input reads as it did. -/
def orderDilworthSpec : ChangeSpec := { name := "orderDilworth", fn := fun _ => fun
  | [d1, d2] => { results := [.lit (.bool true)], args := [d1, d2] }
  | _ => none }
def orderDilworthRow : OpenClaim := { program := "ytjfjcgbdpjpodaadoor", sum := "c06e6ed7eaa654d29474f2bac4d9b582f5464b9c9c6b685c30dee74fddeabaa1", func := "plexus/plexuslaw04.OrderDilworth", spec := "orderDilworth", unfollowed := true, recurses := true, named := ["math/bits.deBruijn64tab"], apart := false, laid := [("math/bits.deBruijn64tab", laid_math_bits_deBruijn64tab)] }
def OrderDilworthSaid : Prop := orderDilworthRow.holds Tryd.pinned (OpenSpec.ofChange orderDilworthSpec)

/-- ITS FALSE NEIGHBOUR: 'it returns false'. Refute it at one input. -/
def orderDilworthWrong : ChangeSpec := { name := "orderDilworth", fn := fun _ => fun
  | [d1, d2] => { results := [.lit (.bool false)], args := [d1, d2] }
  | _ => none }
def OrderDilworthWrongFalsely : Prop := orderDilworthRow.holds Tryd.pinned (OpenSpec.ofChange orderDilworthWrong)

/-- 'plexuslaw04.OrderExtremes': WHATEVER THE INPUT: true; the input reads as it did. -/
def orderExtremesSpec : ChangeSpec := { name := "orderExtremes", fn := fun _ => fun
  | [d1, d2] => { results := [.lit (.bool true)], args := [d1, d2] }
  | _ => none }
def orderExtremesRow : OpenClaim := { program := "ytjfjcgbdpjpodaadoor", sum := "c06e6ed7eaa654d29474f2bac4d9b582f5464b9c9c6b685c30dee74fddeabaa1", func := "plexus/plexuslaw04.OrderExtremes", spec := "orderExtremes", unfollowed := true, recurses := true, named := ["math/bits.deBruijn64tab"], apart := false, laid := [("math/bits.deBruijn64tab", laid_math_bits_deBruijn64tab)] }
def OrderExtremesSaid : Prop := orderExtremesRow.holds Tryd.pinned (OpenSpec.ofChange orderExtremesSpec)

/-- ITS FALSE NEIGHBOUR: 'it returns false'. Refute it at one input. -/
def orderExtremesWrong : ChangeSpec := { name := "orderExtremes", fn := fun _ => fun
  | [d1, d2] => { results := [.lit (.bool false)], args := [d1, d2] }
  | _ => none }
def OrderExtremesWrongFalsely : Prop := orderExtremesRow.holds Tryd.pinned (OpenSpec.ofChange orderExtremesWrong)

/-- 'plexuslaw04.OrderDownsets': WHATEVER THE INPUT: true; the input reads as it did. -/
def orderDownsetsSpec : ChangeSpec := { name := "orderDownsets", fn := fun _ => fun
  | [d1, d2, d3] => { results := [.lit (.bool true)], args := [d1, d2, d3] }
  | _ => none }
def orderDownsetsRow : OpenClaim := { program := "ytjfjcgbdpjpodaadoor", sum := "c06e6ed7eaa654d29474f2bac4d9b582f5464b9c9c6b685c30dee74fddeabaa1", func := "plexus/plexuslaw04.OrderDownsets", spec := "orderDownsets", unfollowed := true, recurses := true, named := ["math/bits.deBruijn64tab"], apart := false, laid := [("math/bits.deBruijn64tab", laid_math_bits_deBruijn64tab)] }
def OrderDownsetsSaid : Prop := orderDownsetsRow.holds Tryd.pinned (OpenSpec.ofChange orderDownsetsSpec)

/-- ITS FALSE NEIGHBOUR: 'it returns false'. Refute it at one input. -/
def orderDownsetsWrong : ChangeSpec := { name := "orderDownsets", fn := fun _ => fun
  | [d1, d2, d3] => { results := [.lit (.bool false)], args := [d1, d2, d3] }
  | _ => none }
def OrderDownsetsWrongFalsely : Prop := orderDownsetsRow.holds Tryd.pinned (OpenSpec.ofChange orderDownsetsWrong)

/- THE SECOND FORM. 'bulk': how many values and letters a reading holds, each counted each time it is reached (what is shared counts as often as it is met; a slice's spare places count too). A statement '..UptoSaid' is the law's where the arguments, and the package variables that the reading takes, are together of bulk at most 1048576: NARROWER than '..Said'. Prove '..Said' where nothing that the law and all that it calls make is longer than what came in: it says more and counts as full. Else prove '..UptoSaid'. A law counts once. -/
mutual
def uptoBulk {H : Type} : DataW H → Nat
  | .lit (.string bytes) => bytes.length + 1
  | .lit _ => 1
  | .nil => 1
  | .ptr d => uptoBulk d + 1
  | .slice elems spare => uptoBulkAll elems + uptoBulkAll spare + 1
  | .agg parts => uptoBulkAll parts + 1
  | .iface _ d => uptoBulk d + 1
  | .map entries => uptoBulkEntries entries + 1
  | .held _ => 1
def uptoBulkAll {H : Type} : List (DataW H) → Nat
  | [] => 0
  | d :: r => uptoBulk d + uptoBulkAll r
def uptoBulkEntries {H : Type} : List (Lit × DataW H) → Nat
  | [] => 0
  | x :: r => uptoBulkEntry x + uptoBulkEntries r
def uptoBulkEntry {H : Type} : Lit × DataW H → Nat
  | (.string bytes, d) => bytes.length + uptoBulk d + 1
  | (_, d) => uptoBulk d + 1
 end
def uptoSmall : (H : Type) → List (DataW H) → Bool := fun _ ds => decide (uptoBulkAll ds ≤ 1048576)
def OpenSpec.upto (s : _root_.Go.ChangeSpec) : _root_.Go.OpenSpec := { _root_.Go.OpenSpec.ofChange s with cond := some uptoSmall }

/-- 'plexuslaw04.OrderChecks', WHERE WHAT IT READS IS OF BULK AT MOST 1048576: true; the input reads as it did. -/
def orderChecksUptoRow : OpenClaim := { program := "ytjfjcgbdpjpodaadoor", sum := "c06e6ed7eaa654d29474f2bac4d9b582f5464b9c9c6b685c30dee74fddeabaa1", func := "plexus/plexuslaw04.OrderChecks", spec := "orderChecks", unfollowed := true, recurses := true, named := ["math/bits.deBruijn64tab"], apart := false, laid := [("math/bits.deBruijn64tab", laid_math_bits_deBruijn64tab)], narrowed := true }
def OrderChecksUptoSaid : Prop := orderChecksUptoRow.holds Tryd.pinned (OpenSpec.upto orderChecksSpec)

/-- 'plexuslaw04.OrderFaults', WHERE WHAT IT READS IS OF BULK AT MOST 1048576: true; the input reads as it did. -/
def orderFaultsUptoRow : OpenClaim := { program := "ytjfjcgbdpjpodaadoor", sum := "c06e6ed7eaa654d29474f2bac4d9b582f5464b9c9c6b685c30dee74fddeabaa1", func := "plexus/plexuslaw04.OrderFaults", spec := "orderFaults", unfollowed := true, recurses := true, named := ["math/bits.deBruijn64tab"], apart := false, laid := [("math/bits.deBruijn64tab", laid_math_bits_deBruijn64tab)], narrowed := true }
def OrderFaultsUptoSaid : Prop := orderFaultsUptoRow.holds Tryd.pinned (OpenSpec.upto orderFaultsSpec)

/-- 'plexuslaw04.OrderReduces', WHERE WHAT IT READS IS OF BULK AT MOST 1048576: true; the input reads as it did. -/
def orderReducesUptoRow : OpenClaim := { program := "ytjfjcgbdpjpodaadoor", sum := "c06e6ed7eaa654d29474f2bac4d9b582f5464b9c9c6b685c30dee74fddeabaa1", func := "plexus/plexuslaw04.OrderReduces", spec := "orderReduces", unfollowed := true, recurses := true, named := ["math/bits.deBruijn64tab"], apart := false, laid := [("math/bits.deBruijn64tab", laid_math_bits_deBruijn64tab)], narrowed := true }
def OrderReducesUptoSaid : Prop := orderReducesUptoRow.holds Tryd.pinned (OpenSpec.upto orderReducesSpec)

/-- 'plexuslaw04.OrderMinimal', WHERE WHAT IT READS IS OF BULK AT MOST 1048576: true; the input reads as it did. -/
def orderMinimalUptoRow : OpenClaim := { program := "ytjfjcgbdpjpodaadoor", sum := "c06e6ed7eaa654d29474f2bac4d9b582f5464b9c9c6b685c30dee74fddeabaa1", func := "plexus/plexuslaw04.OrderMinimal", spec := "orderMinimal", unfollowed := true, recurses := true, named := ["math/bits.deBruijn64tab"], apart := false, laid := [("math/bits.deBruijn64tab", laid_math_bits_deBruijn64tab)], narrowed := true }
def OrderMinimalUptoSaid : Prop := orderMinimalUptoRow.holds Tryd.pinned (OpenSpec.upto orderMinimalSpec)

/-- 'plexuslaw04.OrderSorts', WHERE WHAT IT READS IS OF BULK AT MOST 1048576: true; the input reads as it did. -/
def orderSortsUptoRow : OpenClaim := { program := "ytjfjcgbdpjpodaadoor", sum := "c06e6ed7eaa654d29474f2bac4d9b582f5464b9c9c6b685c30dee74fddeabaa1", func := "plexus/plexuslaw04.OrderSorts", spec := "orderSorts", unfollowed := true, recurses := true, named := ["math/bits.deBruijn64tab"], apart := false, laid := [("math/bits.deBruijn64tab", laid_math_bits_deBruijn64tab)], narrowed := true }
def OrderSortsUptoSaid : Prop := orderSortsUptoRow.holds Tryd.pinned (OpenSpec.upto orderSortsSpec)

/-- 'plexuslaw04.OrderLevels', WHERE WHAT IT READS IS OF BULK AT MOST 1048576: true; the input reads as it did. -/
def orderLevelsUptoRow : OpenClaim := { program := "ytjfjcgbdpjpodaadoor", sum := "c06e6ed7eaa654d29474f2bac4d9b582f5464b9c9c6b685c30dee74fddeabaa1", func := "plexus/plexuslaw04.OrderLevels", spec := "orderLevels", unfollowed := true, recurses := true, named := ["math/bits.deBruijn64tab"], apart := false, laid := [("math/bits.deBruijn64tab", laid_math_bits_deBruijn64tab)], narrowed := true }
def OrderLevelsUptoSaid : Prop := orderLevelsUptoRow.holds Tryd.pinned (OpenSpec.upto orderLevelsSpec)

/-- 'plexuslaw04.OrderMirsky', WHERE WHAT IT READS IS OF BULK AT MOST 1048576: true; the input reads as it did. -/
def orderMirskyUptoRow : OpenClaim := { program := "ytjfjcgbdpjpodaadoor", sum := "c06e6ed7eaa654d29474f2bac4d9b582f5464b9c9c6b685c30dee74fddeabaa1", func := "plexus/plexuslaw04.OrderMirsky", spec := "orderMirsky", unfollowed := true, recurses := true, named := ["math/bits.deBruijn64tab"], apart := false, laid := [("math/bits.deBruijn64tab", laid_math_bits_deBruijn64tab)], narrowed := true }
def OrderMirskyUptoSaid : Prop := orderMirskyUptoRow.holds Tryd.pinned (OpenSpec.upto orderMirskySpec)

/-- 'plexuslaw04.OrderDilworth', WHERE WHAT IT READS IS OF BULK AT MOST 1048576: true; the input reads as it did. -/
def orderDilworthUptoRow : OpenClaim := { program := "ytjfjcgbdpjpodaadoor", sum := "c06e6ed7eaa654d29474f2bac4d9b582f5464b9c9c6b685c30dee74fddeabaa1", func := "plexus/plexuslaw04.OrderDilworth", spec := "orderDilworth", unfollowed := true, recurses := true, named := ["math/bits.deBruijn64tab"], apart := false, laid := [("math/bits.deBruijn64tab", laid_math_bits_deBruijn64tab)], narrowed := true }
def OrderDilworthUptoSaid : Prop := orderDilworthUptoRow.holds Tryd.pinned (OpenSpec.upto orderDilworthSpec)

/-- 'plexuslaw04.OrderExtremes', WHERE WHAT IT READS IS OF BULK AT MOST 1048576: true; the input reads as it did. -/
def orderExtremesUptoRow : OpenClaim := { program := "ytjfjcgbdpjpodaadoor", sum := "c06e6ed7eaa654d29474f2bac4d9b582f5464b9c9c6b685c30dee74fddeabaa1", func := "plexus/plexuslaw04.OrderExtremes", spec := "orderExtremes", unfollowed := true, recurses := true, named := ["math/bits.deBruijn64tab"], apart := false, laid := [("math/bits.deBruijn64tab", laid_math_bits_deBruijn64tab)], narrowed := true }
def OrderExtremesUptoSaid : Prop := orderExtremesUptoRow.holds Tryd.pinned (OpenSpec.upto orderExtremesSpec)

/-- 'plexuslaw04.OrderDownsets', WHERE WHAT IT READS IS OF BULK AT MOST 1048576: true; the input reads as it did. -/
def orderDownsetsUptoRow : OpenClaim := { program := "ytjfjcgbdpjpodaadoor", sum := "c06e6ed7eaa654d29474f2bac4d9b582f5464b9c9c6b685c30dee74fddeabaa1", func := "plexus/plexuslaw04.OrderDownsets", spec := "orderDownsets", unfollowed := true, recurses := true, named := ["math/bits.deBruijn64tab"], apart := false, laid := [("math/bits.deBruijn64tab", laid_math_bits_deBruijn64tab)], narrowed := true }
def OrderDownsetsUptoSaid : Prop := orderDownsetsUptoRow.holds Tryd.pinned (OpenSpec.upto orderDownsetsSpec)

end Rows
end Go.Proofs.YtjfjcgbdpjpodaaDoor
