/-
  No cell of these rows narrows 'for every input' (looked for: loops, veiled, ifaces, maps, wideKeys, modest, calm, conditions, laid).
  DERIVED. THE GIVEN ROWS OF THIS SEAT. 9 by the template 'for every input the law returns true; each argument reads behind the call as it read before'; 0 by the template 'total and deterministic' (their statements: YtofgmimdmgaljaaTotals.lean).
  GIVEN WITH THE SEED: the statements are not yours to turn. If you find one false, say at which input.
  Laid BY PROGRAM, IN A SANDBOX (cutbox-rows.mjs): the forced cells as the released guide's own fill.sh prints them over the translation 55eefcc3f1991328… (all of the seat's roots in one cut). By AI agents, Wed Nov 11 2026. No macro, syntax, notation, axiom, sorry.
-/
import Derived.Test.YtofgmimdmgaljaaChecked
import GoSem.Claim
import GoSem.ClaimJoined
import GoSem.ClaimMapViews
import Derived.JoinedTies
import Derived.KernelRfl
namespace Go.Proofs.Ytofgmimdmgaljaa
/- THE CELL 'sum', in the pinned program and in every row, IS THE sha256 OF THE DUMP (.gsa) THAT YtofgmimdmgaljaaProg.lean LOADS. Nothing in Lean hashes anything: it is a label: what it is worth is what the hold of that sum in a sandbox is worth. -/
noncomputable def Try.pinned : Pinned := { name := "ytofgmimdmgaljaa", sum := "55eefcc3f1991328b9aa74b2942437c063f84e33235c6fd0261f8ec86c731fea", checked := Try.checked }
namespace Rows
def none {H : Type} : Left H := { results := [], args := [] }

/-- 'plexuslaw07.ClockIncs': WHATEVER THE INPUT: true; the input reads as it did. -/
def clockIncsSpec : ChangeSpec := { name := "clockIncs", fn := fun _ => fun
  | [d1, d2] => { results := [.lit (.bool true)], args := [d1, d2] }
  | _ => none }
def clockIncsRow : OpenClaim := { program := "ytofgmimdmgaljaa", sum := "55eefcc3f1991328b9aa74b2942437c063f84e33235c6fd0261f8ec86c731fea", func := "plexus/plexuslaw07.ClockIncs", spec := "clockIncs", unfollowed := true, recurses := true, apart := false }
def ClockIncsSaid : Prop := clockIncsRow.holds Try.pinned (OpenSpec.ofChange clockIncsSpec)

/-- ITS FALSE NEIGHBOUR: 'it returns false'. Refute it at one input. -/
def clockIncsWrong : ChangeSpec := { name := "clockIncs", fn := fun _ => fun
  | [d1, d2] => { results := [.lit (.bool false)], args := [d1, d2] }
  | _ => none }
def ClockIncsWrongFalsely : Prop := clockIncsRow.holds Try.pinned (OpenSpec.ofChange clockIncsWrong)

/-- 'plexuslaw07.ClockSteps': WHATEVER THE INPUT: true; the input reads as it did. -/
def clockStepsSpec : ChangeSpec := { name := "clockSteps", fn := fun _ => fun
  | [d1, d2, d3] => { results := [.lit (.bool true)], args := [d1, d2, d3] }
  | _ => none }
def clockStepsRow : OpenClaim := { program := "ytofgmimdmgaljaa", sum := "55eefcc3f1991328b9aa74b2942437c063f84e33235c6fd0261f8ec86c731fea", func := "plexus/plexuslaw07.ClockSteps", spec := "clockSteps", unfollowed := true, recurses := true, apart := false }
def ClockStepsSaid : Prop := clockStepsRow.holds Try.pinned (OpenSpec.ofChange clockStepsSpec)

/-- ITS FALSE NEIGHBOUR: 'it returns false'. Refute it at one input. -/
def clockStepsWrong : ChangeSpec := { name := "clockSteps", fn := fun _ => fun
  | [d1, d2, d3] => { results := [.lit (.bool false)], args := [d1, d2, d3] }
  | _ => none }
def ClockStepsWrongFalsely : Prop := clockStepsRow.holds Try.pinned (OpenSpec.ofChange clockStepsWrong)

/-- 'plexuslaw07.ClockCombines': WHATEVER THE INPUT: true; the input reads as it did. -/
def clockCombinesSpec : ChangeSpec := { name := "clockCombines", fn := fun _ => fun
  | [d1, d2] => { results := [.lit (.bool true)], args := [d1, d2] }
  | _ => none }
def clockCombinesRow : OpenClaim := { program := "ytofgmimdmgaljaa", sum := "55eefcc3f1991328b9aa74b2942437c063f84e33235c6fd0261f8ec86c731fea", func := "plexus/plexuslaw07.ClockCombines", spec := "clockCombines", unfollowed := true, recurses := true, apart := false }
def ClockCombinesSaid : Prop := clockCombinesRow.holds Try.pinned (OpenSpec.ofChange clockCombinesSpec)

/-- ITS FALSE NEIGHBOUR: 'it returns false'. Refute it at one input. -/
def clockCombinesWrong : ChangeSpec := { name := "clockCombines", fn := fun _ => fun
  | [d1, d2] => { results := [.lit (.bool false)], args := [d1, d2] }
  | _ => none }
def ClockCombinesWrongFalsely : Prop := clockCombinesRow.holds Try.pinned (OpenSpec.ofChange clockCombinesWrong)

/-- 'plexuslaw07.ClockLattice': WHATEVER THE INPUT: true; the input reads as it did. -/
def clockLatticeSpec : ChangeSpec := { name := "clockLattice", fn := fun _ => fun
  | [d1, d2, d3] => { results := [.lit (.bool true)], args := [d1, d2, d3] }
  | _ => none }
def clockLatticeRow : OpenClaim := { program := "ytofgmimdmgaljaa", sum := "55eefcc3f1991328b9aa74b2942437c063f84e33235c6fd0261f8ec86c731fea", func := "plexus/plexuslaw07.ClockLattice", spec := "clockLattice", unfollowed := true, recurses := true, apart := false }
def ClockLatticeSaid : Prop := clockLatticeRow.holds Try.pinned (OpenSpec.ofChange clockLatticeSpec)

/-- ITS FALSE NEIGHBOUR: 'it returns false'. Refute it at one input. -/
def clockLatticeWrong : ChangeSpec := { name := "clockLattice", fn := fun _ => fun
  | [d1, d2, d3] => { results := [.lit (.bool false)], args := [d1, d2, d3] }
  | _ => none }
def ClockLatticeWrongFalsely : Prop := clockLatticeRow.holds Try.pinned (OpenSpec.ofChange clockLatticeWrong)

/-- 'plexuslaw07.ClockOrders': WHATEVER THE INPUT: true; the input reads as it did. -/
def clockOrdersSpec : ChangeSpec := { name := "clockOrders", fn := fun _ => fun
  | [d1, d2] => { results := [.lit (.bool true)], args := [d1, d2] }
  | _ => none }
def clockOrdersRow : OpenClaim := { program := "ytofgmimdmgaljaa", sum := "55eefcc3f1991328b9aa74b2942437c063f84e33235c6fd0261f8ec86c731fea", func := "plexus/plexuslaw07.ClockOrders", spec := "clockOrders", unfollowed := true, recurses := true, apart := false }
def ClockOrdersSaid : Prop := clockOrdersRow.holds Try.pinned (OpenSpec.ofChange clockOrdersSpec)

/-- ITS FALSE NEIGHBOUR: 'it returns false'. Refute it at one input. -/
def clockOrdersWrong : ChangeSpec := { name := "clockOrders", fn := fun _ => fun
  | [d1, d2] => { results := [.lit (.bool false)], args := [d1, d2] }
  | _ => none }
def ClockOrdersWrongFalsely : Prop := clockOrdersRow.holds Try.pinned (OpenSpec.ofChange clockOrdersWrong)

/-- 'plexuslaw07.ClockTransitive': WHATEVER THE INPUT: true; the input reads as it did. -/
def clockTransitiveSpec : ChangeSpec := { name := "clockTransitive", fn := fun _ => fun
  | [d1, d2, d3] => { results := [.lit (.bool true)], args := [d1, d2, d3] }
  | _ => none }
def clockTransitiveRow : OpenClaim := { program := "ytofgmimdmgaljaa", sum := "55eefcc3f1991328b9aa74b2942437c063f84e33235c6fd0261f8ec86c731fea", func := "plexus/plexuslaw07.ClockTransitive", spec := "clockTransitive", unfollowed := true, recurses := true, apart := false }
def ClockTransitiveSaid : Prop := clockTransitiveRow.holds Try.pinned (OpenSpec.ofChange clockTransitiveSpec)

/-- ITS FALSE NEIGHBOUR: 'it returns false'. Refute it at one input. -/
def clockTransitiveWrong : ChangeSpec := { name := "clockTransitive", fn := fun _ => fun
  | [d1, d2, d3] => { results := [.lit (.bool false)], args := [d1, d2, d3] }
  | _ => none }
def ClockTransitiveWrongFalsely : Prop := clockTransitiveRow.holds Try.pinned (OpenSpec.ofChange clockTransitiveWrong)

/-- 'plexuslaw07.ClockMinus': WHATEVER THE INPUT: true; the input reads as it did. -/
def clockMinusSpec : ChangeSpec := { name := "clockMinus", fn := fun _ => fun
  | [d1, d2, d3] => { results := [.lit (.bool true)], args := [d1, d2, d3] }
  | _ => none }
def clockMinusRow : OpenClaim := { program := "ytofgmimdmgaljaa", sum := "55eefcc3f1991328b9aa74b2942437c063f84e33235c6fd0261f8ec86c731fea", func := "plexus/plexuslaw07.ClockMinus", spec := "clockMinus", unfollowed := true, recurses := true, apart := false }
def ClockMinusSaid : Prop := clockMinusRow.holds Try.pinned (OpenSpec.ofChange clockMinusSpec)

/-- ITS FALSE NEIGHBOUR: 'it returns false'. Refute it at one input. -/
def clockMinusWrong : ChangeSpec := { name := "clockMinus", fn := fun _ => fun
  | [d1, d2, d3] => { results := [.lit (.bool false)], args := [d1, d2, d3] }
  | _ => none }
def ClockMinusWrongFalsely : Prop := clockMinusRow.holds Try.pinned (OpenSpec.ofChange clockMinusWrong)

/-- 'plexuslaw07.ClockEncodes': WHATEVER THE INPUT: true; the input reads as it did. -/
def clockEncodesSpec : ChangeSpec := { name := "clockEncodes", fn := fun _ => fun
  | [d1, d2, d3] => { results := [.lit (.bool true)], args := [d1, d2, d3] }
  | _ => none }
def clockEncodesRow : OpenClaim := { program := "ytofgmimdmgaljaa", sum := "55eefcc3f1991328b9aa74b2942437c063f84e33235c6fd0261f8ec86c731fea", func := "plexus/plexuslaw07.ClockEncodes", spec := "clockEncodes", unfollowed := true, recurses := true, apart := false }
def ClockEncodesSaid : Prop := clockEncodesRow.holds Try.pinned (OpenSpec.ofChange clockEncodesSpec)

/-- ITS FALSE NEIGHBOUR: 'it returns false'. Refute it at one input. -/
def clockEncodesWrong : ChangeSpec := { name := "clockEncodes", fn := fun _ => fun
  | [d1, d2, d3] => { results := [.lit (.bool false)], args := [d1, d2, d3] }
  | _ => none }
def ClockEncodesWrongFalsely : Prop := clockEncodesRow.holds Try.pinned (OpenSpec.ofChange clockEncodesWrong)

/-- 'plexuslaw07.ClockDecodes': WHATEVER THE INPUT: true; the input reads as it did. -/
def clockDecodesSpec : ChangeSpec := { name := "clockDecodes", fn := fun _ => fun
  | [d1, d2] => { results := [.lit (.bool true)], args := [d1, d2] }
  | _ => none }
def clockDecodesRow : OpenClaim := { program := "ytofgmimdmgaljaa", sum := "55eefcc3f1991328b9aa74b2942437c063f84e33235c6fd0261f8ec86c731fea", func := "plexus/plexuslaw07.ClockDecodes", spec := "clockDecodes", unfollowed := true, recurses := true, apart := false }
def ClockDecodesSaid : Prop := clockDecodesRow.holds Try.pinned (OpenSpec.ofChange clockDecodesSpec)

/-- ITS FALSE NEIGHBOUR: 'it returns false'. Refute it at one input. -/
def clockDecodesWrong : ChangeSpec := { name := "clockDecodes", fn := fun _ => fun
  | [d1, d2] => { results := [.lit (.bool false)], args := [d1, d2] }
  | _ => none }
def ClockDecodesWrongFalsely : Prop := clockDecodesRow.holds Try.pinned (OpenSpec.ofChange clockDecodesWrong)

/- THE SECOND FORM. 'bulk': how many values and letters a reading holds, each counted each time it is reached (what is shared counts as often as it is met; a slice's spare places count too). A statement '..UptoSaid' is the law's where the arguments, and the package variables that the reading takes, are together of bulk at most 1048576: NARROWER than '..Said'. Prove '..Said' where nothing that the law and all that it calls make is longer than what came in: it says more and counts as full. Else prove '..UptoSaid'. A law counts once. -/
mutual
def uptoBulk {H : Type} : DataW H → Nat
  | .lit (.string bytes) => bytes.length + 1
  | .lit _ => 1
  | .nil => 1
  | .ptr d => uptoBulk d + 1
  | .slice elems spare => uptoBulkAll elems + uptoBulkAll spare + 1
  | .agg parts => uptoBulkAll parts + 1
  | .iface _ d => uptoBulk d + 1
  | .map entries => uptoBulkEntries entries + 1
  | .held _ => 1
def uptoBulkAll {H : Type} : List (DataW H) → Nat
  | [] => 0
  | d :: r => uptoBulk d + uptoBulkAll r
def uptoBulkEntries {H : Type} : List (Lit × DataW H) → Nat
  | [] => 0
  | x :: r => uptoBulkEntry x + uptoBulkEntries r
def uptoBulkEntry {H : Type} : Lit × DataW H → Nat
  | (.string bytes, d) => bytes.length + uptoBulk d + 1
  | (_, d) => uptoBulk d + 1
 end
def uptoSmall : (H : Type) → List (DataW H) → Bool := fun _ ds => decide (uptoBulkAll ds ≤ 1048576)
def OpenSpec.upto (s : _root_.Go.ChangeSpec) : _root_.Go.OpenSpec := { _root_.Go.OpenSpec.ofChange s with cond := some uptoSmall }

/-- 'plexuslaw07.ClockIncs', WHERE WHAT IT READS IS OF BULK AT MOST 1048576: true; the input reads as it did. -/
def clockIncsUptoRow : OpenClaim := { program := "ytofgmimdmgaljaa", sum := "55eefcc3f1991328b9aa74b2942437c063f84e33235c6fd0261f8ec86c731fea", func := "plexus/plexuslaw07.ClockIncs", spec := "clockIncs", unfollowed := true, recurses := true, apart := false, narrowed := true }
def ClockIncsUptoSaid : Prop := clockIncsUptoRow.holds Try.pinned (OpenSpec.upto clockIncsSpec)

/-- 'plexuslaw07.ClockSteps', WHERE WHAT IT READS IS OF BULK AT MOST 1048576: true; the input reads as it did. -/
def clockStepsUptoRow : OpenClaim := { program := "ytofgmimdmgaljaa", sum := "55eefcc3f1991328b9aa74b2942437c063f84e33235c6fd0261f8ec86c731fea", func := "plexus/plexuslaw07.ClockSteps", spec := "clockSteps", unfollowed := true, recurses := true, apart := false, narrowed := true }
def ClockStepsUptoSaid : Prop := clockStepsUptoRow.holds Try.pinned (OpenSpec.upto clockStepsSpec)

/-- 'plexuslaw07.ClockCombines', WHERE WHAT IT READS IS OF BULK AT MOST 1048576: true; the input reads as it did. -/
def clockCombinesUptoRow : OpenClaim := { program := "ytofgmimdmgaljaa", sum := "55eefcc3f1991328b9aa74b2942437c063f84e33235c6fd0261f8ec86c731fea", func := "plexus/plexuslaw07.ClockCombines", spec := "clockCombines", unfollowed := true, recurses := true, apart := false, narrowed := true }
def ClockCombinesUptoSaid : Prop := clockCombinesUptoRow.holds Try.pinned (OpenSpec.upto clockCombinesSpec)

/-- 'plexuslaw07.ClockLattice', WHERE WHAT IT READS IS OF BULK AT MOST 1048576: true; the input reads as it did. -/
def clockLatticeUptoRow : OpenClaim := { program := "ytofgmimdmgaljaa", sum := "55eefcc3f1991328b9aa74b2942437c063f84e33235c6fd0261f8ec86c731fea", func := "plexus/plexuslaw07.ClockLattice", spec := "clockLattice", unfollowed := true, recurses := true, apart := false, narrowed := true }
def ClockLatticeUptoSaid : Prop := clockLatticeUptoRow.holds Try.pinned (OpenSpec.upto clockLatticeSpec)

/-- 'plexuslaw07.ClockOrders', WHERE WHAT IT READS IS OF BULK AT MOST 1048576: true; the input reads as it did. -/
def clockOrdersUptoRow : OpenClaim := { program := "ytofgmimdmgaljaa", sum := "55eefcc3f1991328b9aa74b2942437c063f84e33235c6fd0261f8ec86c731fea", func := "plexus/plexuslaw07.ClockOrders", spec := "clockOrders", unfollowed := true, recurses := true, apart := false, narrowed := true }
def ClockOrdersUptoSaid : Prop := clockOrdersUptoRow.holds Try.pinned (OpenSpec.upto clockOrdersSpec)

/-- 'plexuslaw07.ClockTransitive', WHERE WHAT IT READS IS OF BULK AT MOST 1048576: true; the input reads as it did. -/
def clockTransitiveUptoRow : OpenClaim := { program := "ytofgmimdmgaljaa", sum := "55eefcc3f1991328b9aa74b2942437c063f84e33235c6fd0261f8ec86c731fea", func := "plexus/plexuslaw07.ClockTransitive", spec := "clockTransitive", unfollowed := true, recurses := true, apart := false, narrowed := true }
def ClockTransitiveUptoSaid : Prop := clockTransitiveUptoRow.holds Try.pinned (OpenSpec.upto clockTransitiveSpec)

/-- 'plexuslaw07.ClockMinus', WHERE WHAT IT READS IS OF BULK AT MOST 1048576: true; the input reads as it did. -/
def clockMinusUptoRow : OpenClaim := { program := "ytofgmimdmgaljaa", sum := "55eefcc3f1991328b9aa74b2942437c063f84e33235c6fd0261f8ec86c731fea", func := "plexus/plexuslaw07.ClockMinus", spec := "clockMinus", unfollowed := true, recurses := true, apart := false, narrowed := true }
def ClockMinusUptoSaid : Prop := clockMinusUptoRow.holds Try.pinned (OpenSpec.upto clockMinusSpec)

/-- 'plexuslaw07.ClockEncodes', WHERE WHAT IT READS IS OF BULK AT MOST 1048576: true; the input reads as it did. -/
def clockEncodesUptoRow : OpenClaim := { program := "ytofgmimdmgaljaa", sum := "55eefcc3f1991328b9aa74b2942437c063f84e33235c6fd0261f8ec86c731fea", func := "plexus/plexuslaw07.ClockEncodes", spec := "clockEncodes", unfollowed := true, recurses := true, apart := false, narrowed := true }
def ClockEncodesUptoSaid : Prop := clockEncodesUptoRow.holds Try.pinned (OpenSpec.upto clockEncodesSpec)

/-- 'plexuslaw07.ClockDecodes', WHERE WHAT IT READS IS OF BULK AT MOST 1048576: true; the input reads as it did. -/
def clockDecodesUptoRow : OpenClaim := { program := "ytofgmimdmgaljaa", sum := "55eefcc3f1991328b9aa74b2942437c063f84e33235c6fd0261f8ec86c731fea", func := "plexus/plexuslaw07.ClockDecodes", spec := "clockDecodes", unfollowed := true, recurses := true, apart := false, narrowed := true }
def ClockDecodesUptoSaid : Prop := clockDecodesUptoRow.holds Try.pinned (OpenSpec.upto clockDecodesSpec)

end Rows
end Go.Proofs.Ytofgmimdmgaljaa
