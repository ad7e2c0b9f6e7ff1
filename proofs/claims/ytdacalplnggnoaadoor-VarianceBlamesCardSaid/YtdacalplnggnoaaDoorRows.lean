/-
  NARROWER THAN 'FOR EVERY INPUT', by the rows' own cells (each row's printed sentence says how): VarianceTables: laid · VarianceLaws: laid · VarianceComposes: loops, laid · VarianceBlames: loops, laid.
  DERIVED. THE GIVEN ROWS OF THIS SEAT. 4 by the template 'for every input the law returns true; each argument reads behind the call as it read before'; 0 by the template 'total and deterministic' (their statements: YtdacalplnggnoaaDoorTotals.lean).
  GIVEN WITH THE SEED: the statements are not yours to turn. If you find one false, say at which input.
  Laid BY PROGRAM, IN A SANDBOX (cutbox-rows.mjs): the forced cells as the released guide's own fill.sh prints them over the translation 5a65c5073f643480… (all of the seat's roots in one cut). By AI agents, Wed Nov 11 2026. No macro, syntax, notation, axiom, sorry.
-/
import Derived.Test.YtdacalplnggnoaaDoorChecked
import GoSem.Claim
import GoSem.ClaimJoined
import GoSem.ClaimMapViews
import Derived.JoinedTies
import Derived.KernelRfl
namespace Go.Proofs.YtdacalplnggnoaaDoor
/- THE CELL 'sum', in the pinned program and in every row, IS THE sha256 OF THE DUMP (.gsa) THAT YtdacalplnggnoaaDoorProg.lean LOADS. Nothing in Lean hashes anything: it is a label: what it is worth is what the hold of that sum in a sandbox is worth. -/
noncomputable def Tryd.pinned : Pinned := { name := "ytdacalplnggnoaadoor", sum := "5a65c5073f64348013c76c8008d503fe9df8e68451c533561126c2aef9cb67c6", checked := Tryd.checked }
namespace Rows
def none {H : Type} : Left H := { results := [], args := [] }

/- WHAT THE LISTED PACKAGE-LEVEL VARIABLES READ AS WHEN THE CALL BEGINS. Each datum BY PROGRAM (the guide's laid-datum.mjs) off the statement by which the dump's own 'gosem.cut.vars' lays the variable. In a bare row this is a premise. The card (YtdacalplnggnoaaDoorCards.lean) ties it to the program's text. -/
def laid_plexus_variance_signs {H : Type} : DataW H := .agg [.lit (.string []), .lit (.string []), .lit (.string []), .lit (.string []), .lit (.string []), .lit (.string []), .lit (.string []), .lit (.string [63, 43, 43]), .lit (.string [43, 43]), .lit (.string [43, 43]), .lit (.string [45]), .lit (.string [45, 43]), .lit (.string [45, 43]), .lit (.string [61, 61]), .lit (.string [61, 43]), .lit (.string [45, 43]), .lit (.string [43, 43]), .lit (.string [43, 43]), .lit (.string [43, 45]), .lit (.string [43]), .lit (.string [43, 61]), .lit (.string [43]), .lit (.string [63]), .lit (.string []), .lit (.string []), .lit (.string []), .lit (.string [43, 43]), .lit (.string [61]), .lit (.string [43, 61, 61]), .lit (.string [63]), .lit (.string [63]), .lit (.string [63]), .lit (.string [43]), .lit (.string [43]), .lit (.string [61]), .lit (.string [43]), .lit (.string [61]), .lit (.string [63])]

/-- 'plexuslaw20.VarianceTables': WHATEVER THE INPUT: true; the input reads as it did. -/
def varianceTablesSpec : ChangeSpec := { name := "varianceTables", fn := fun _ => fun
  | [d1, d2] => { results := [.lit (.bool true)], args := [d1, d2] }
  | _ => none }
def varianceTablesRow : OpenClaim := { program := "ytdacalplnggnoaadoor", sum := "5a65c5073f64348013c76c8008d503fe9df8e68451c533561126c2aef9cb67c6", func := "plexus/plexuslaw20.VarianceTables", spec := "varianceTables", unfollowed := true, recurses := true, named := ["plexus/variance.signs"], apart := false, laid := [("plexus/variance.signs", laid_plexus_variance_signs)] }
def VarianceTablesSaid : Prop := varianceTablesRow.holds Tryd.pinned (OpenSpec.ofChange varianceTablesSpec)

/-- ITS FALSE NEIGHBOUR: 'it returns false'. Refute it at one input. -/
def varianceTablesWrong : ChangeSpec := { name := "varianceTables", fn := fun _ => fun
  | [d1, d2] => { results := [.lit (.bool false)], args := [d1, d2] }
  | _ => none }
def VarianceTablesWrongFalsely : Prop := varianceTablesRow.holds Tryd.pinned (OpenSpec.ofChange varianceTablesWrong)

/-- 'plexuslaw20.VarianceLaws': WHATEVER THE INPUT: true; the input reads as it did. -/
def varianceLawsSpec : ChangeSpec := { name := "varianceLaws", fn := fun _ => fun
  | [d1, d2, d3] => { results := [.lit (.bool true)], args := [d1, d2, d3] }
  | _ => none }
def varianceLawsRow : OpenClaim := { program := "ytdacalplnggnoaadoor", sum := "5a65c5073f64348013c76c8008d503fe9df8e68451c533561126c2aef9cb67c6", func := "plexus/plexuslaw20.VarianceLaws", spec := "varianceLaws", unfollowed := true, recurses := true, named := ["plexus/variance.signs"], apart := false, laid := [("plexus/variance.signs", laid_plexus_variance_signs)] }
def VarianceLawsSaid : Prop := varianceLawsRow.holds Tryd.pinned (OpenSpec.ofChange varianceLawsSpec)

/-- ITS FALSE NEIGHBOUR: 'it returns false'. Refute it at one input. -/
def varianceLawsWrong : ChangeSpec := { name := "varianceLaws", fn := fun _ => fun
  | [d1, d2, d3] => { results := [.lit (.bool false)], args := [d1, d2, d3] }
  | _ => none }
def VarianceLawsWrongFalsely : Prop := varianceLawsRow.holds Tryd.pinned (OpenSpec.ofChange varianceLawsWrong)

/-- 'plexuslaw20.VarianceComposes': WHATEVER THE INPUT: true; the input reads as it did. -/
def varianceComposesSpec : ChangeSpec := { name := "varianceComposes", fn := fun _ => fun
  | [d1, d2] => { results := [.lit (.bool true)], args := [d1, d2] }
  | _ => none }
def varianceComposesRow : OpenClaim := { program := "ytdacalplnggnoaadoor", sum := "5a65c5073f64348013c76c8008d503fe9df8e68451c533561126c2aef9cb67c6", func := "plexus/plexuslaw20.VarianceComposes", spec := "varianceComposes", unfollowed := true, recurses := true, named := ["plexus/variance.signs"], loops := true, apart := false, laid := [("plexus/variance.signs", laid_plexus_variance_signs)] }
def VarianceComposesSaid : Prop := varianceComposesRow.holds Tryd.pinned (OpenSpec.ofChange varianceComposesSpec)

/-- ITS FALSE NEIGHBOUR: 'it returns false'. Refute it at one input. -/
def varianceComposesWrong : ChangeSpec := { name := "varianceComposes", fn := fun _ => fun
  | [d1, d2] => { results := [.lit (.bool false)], args := [d1, d2] }
  | _ => none }
def VarianceComposesWrongFalsely : Prop := varianceComposesRow.holds Tryd.pinned (OpenSpec.ofChange varianceComposesWrong)

/-- 'plexuslaw20.VarianceBlames': WHATEVER THE INPUT: true; the input reads as it did. -/
def varianceBlamesSpec : ChangeSpec := { name := "varianceBlames", fn := fun _ => fun
  | [d] => { results := [.lit (.bool true)], args := [d] }
  | _ => none }
def varianceBlamesRow : OpenClaim := { program := "ytdacalplnggnoaadoor", sum := "5a65c5073f64348013c76c8008d503fe9df8e68451c533561126c2aef9cb67c6", func := "plexus/plexuslaw20.VarianceBlames", spec := "varianceBlames", unfollowed := true, recurses := true, named := ["plexus/variance.signs"], loops := true, apart := false, laid := [("plexus/variance.signs", laid_plexus_variance_signs)] }
def VarianceBlamesSaid : Prop := varianceBlamesRow.holds Tryd.pinned (OpenSpec.ofChange varianceBlamesSpec)

/-- ITS FALSE NEIGHBOUR: 'it returns false'. Refute it at one input. -/
def varianceBlamesWrong : ChangeSpec := { name := "varianceBlames", fn := fun _ => fun
  | [d] => { results := [.lit (.bool false)], args := [d] }
  | _ => none }
def VarianceBlamesWrongFalsely : Prop := varianceBlamesRow.holds Tryd.pinned (OpenSpec.ofChange varianceBlamesWrong)

/- THE SECOND FORM. 'bulk': how many values and letters a reading holds, each counted each time it is reached (what is shared counts as often as it is met; a slice's spare places count too). A statement '..UptoSaid' is the law's where the arguments, and the package variables that the reading takes, are together of bulk at most 1048576: NARROWER than '..Said'. Prove '..Said' where nothing that the law and all that it calls make is longer than what came in: it says more and counts as full. Else prove '..UptoSaid'. A law counts once. -/
mutual
def uptoBulk {H : Type} : DataW H → Nat
  | .lit (.string bytes) => bytes.length + 1
  | .lit _ => 1
  | .nil => 1
  | .ptr d => uptoBulk d + 1
  | .slice elems spare => uptoBulkAll elems + uptoBulkAll spare + 1
  | .agg parts => uptoBulkAll parts + 1
  | .iface _ d => uptoBulk d + 1
  | .map entries => uptoBulkEntries entries + 1
  | .held _ => 1
def uptoBulkAll {H : Type} : List (DataW H) → Nat
  | [] => 0
  | d :: r => uptoBulk d + uptoBulkAll r
def uptoBulkEntries {H : Type} : List (Lit × DataW H) → Nat
  | [] => 0
  | x :: r => uptoBulkEntry x + uptoBulkEntries r
def uptoBulkEntry {H : Type} : Lit × DataW H → Nat
  | (.string bytes, d) => bytes.length + uptoBulk d + 1
  | (_, d) => uptoBulk d + 1
 end
def uptoSmall : (H : Type) → List (DataW H) → Bool := fun _ ds => decide (uptoBulkAll ds ≤ 1048576)
def OpenSpec.upto (s : _root_.Go.ChangeSpec) : _root_.Go.OpenSpec := { _root_.Go.OpenSpec.ofChange s with cond := some uptoSmall }

/-- 'plexuslaw20.VarianceTables', WHERE WHAT IT READS IS OF BULK AT MOST 1048576: true; the input reads as it did. -/
def varianceTablesUptoRow : OpenClaim := { program := "ytdacalplnggnoaadoor", sum := "5a65c5073f64348013c76c8008d503fe9df8e68451c533561126c2aef9cb67c6", func := "plexus/plexuslaw20.VarianceTables", spec := "varianceTables", unfollowed := true, recurses := true, named := ["plexus/variance.signs"], apart := false, laid := [("plexus/variance.signs", laid_plexus_variance_signs)], narrowed := true }
def VarianceTablesUptoSaid : Prop := varianceTablesUptoRow.holds Tryd.pinned (OpenSpec.upto varianceTablesSpec)

/-- 'plexuslaw20.VarianceLaws', WHERE WHAT IT READS IS OF BULK AT MOST 1048576: true; the input reads as it did. -/
def varianceLawsUptoRow : OpenClaim := { program := "ytdacalplnggnoaadoor", sum := "5a65c5073f64348013c76c8008d503fe9df8e68451c533561126c2aef9cb67c6", func := "plexus/plexuslaw20.VarianceLaws", spec := "varianceLaws", unfollowed := true, recurses := true, named := ["plexus/variance.signs"], apart := false, laid := [("plexus/variance.signs", laid_plexus_variance_signs)], narrowed := true }
def VarianceLawsUptoSaid : Prop := varianceLawsUptoRow.holds Tryd.pinned (OpenSpec.upto varianceLawsSpec)

/-- 'plexuslaw20.VarianceComposes', WHERE WHAT IT READS IS OF BULK AT MOST 1048576: true; the input reads as it did. -/
def varianceComposesUptoRow : OpenClaim := { program := "ytdacalplnggnoaadoor", sum := "5a65c5073f64348013c76c8008d503fe9df8e68451c533561126c2aef9cb67c6", func := "plexus/plexuslaw20.VarianceComposes", spec := "varianceComposes", unfollowed := true, recurses := true, named := ["plexus/variance.signs"], loops := true, apart := false, laid := [("plexus/variance.signs", laid_plexus_variance_signs)], narrowed := true }
def VarianceComposesUptoSaid : Prop := varianceComposesUptoRow.holds Tryd.pinned (OpenSpec.upto varianceComposesSpec)

/-- 'plexuslaw20.VarianceBlames', WHERE WHAT IT READS IS OF BULK AT MOST 1048576: true; the input reads as it did. -/
def varianceBlamesUptoRow : OpenClaim := { program := "ytdacalplnggnoaadoor", sum := "5a65c5073f64348013c76c8008d503fe9df8e68451c533561126c2aef9cb67c6", func := "plexus/plexuslaw20.VarianceBlames", spec := "varianceBlames", unfollowed := true, recurses := true, named := ["plexus/variance.signs"], loops := true, apart := false, laid := [("plexus/variance.signs", laid_plexus_variance_signs)], narrowed := true }
def VarianceBlamesUptoSaid : Prop := varianceBlamesUptoRow.holds Tryd.pinned (OpenSpec.upto varianceBlamesSpec)

end Rows
end Go.Proofs.YtdacalplnggnoaaDoor
