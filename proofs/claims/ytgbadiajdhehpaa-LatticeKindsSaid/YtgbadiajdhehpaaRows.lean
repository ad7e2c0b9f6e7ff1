/-
  NARROWER THAN 'FOR EVERY INPUT', by the rows' own cells (each row's printed sentence says how): LatticeChecks: loops · LatticeEqual: loops · LatticeKinds: loops · LatticeEncodes: loops · LatticeApart: loops · LatticeParts: loops.
  DERIVED. THE GIVEN ROWS OF THIS SEAT. 6 by the template 'for every input the law returns true; each argument reads behind the call as it read before'; 0 by the template 'total and deterministic' (their statements: YtgbadiajdhehpaaTotals.lean).
  GIVEN WITH THE SEED: the statements are not yours to turn. If you find one false, say at which input.
  Laid BY PROGRAM, IN A SANDBOX (cutbox-rows.mjs): the forced cells as the released guide's own fill.sh prints them over the translation 4415e2b862e79eee… (all of the seat's roots in one cut). By AI agents, Wed Nov 11 2026. No macro, syntax, notation, axiom, sorry.
-/
import Derived.Test.YtgbadiajdhehpaaChecked
import GoSem.Claim
import GoSem.ClaimJoined
import GoSem.ClaimMapViews
import Derived.JoinedTies
import Derived.KernelRfl
namespace Go.Proofs.Ytgbadiajdhehpaa
/- THE CELL 'sum', in the pinned program and in every row, IS THE sha256 OF THE DUMP (.gsa) THAT YtgbadiajdhehpaaProg.lean LOADS. Nothing in Lean hashes anything: it is a label: what it is worth is what the hold of that sum in a sandbox is worth. -/
noncomputable def Try.pinned : Pinned := { name := "ytgbadiajdhehpaa", sum := "4415e2b862e79eeef511f155fb229d02d664720dfa1c66146c39fef33bd486be", checked := Try.checked }
namespace Rows
def none {H : Type} : Left H := { results := [], args := [] }

/-- 'plexuslaw09.LatticeChecks': WHATEVER THE INPUT: true; the input reads as it did. -/
def latticeChecksSpec : ChangeSpec := { name := "latticeChecks", fn := fun _ => fun
  | [d] => { results := [.lit (.bool true)], args := [d] }
  | _ => none }
def latticeChecksRow : OpenClaim := { program := "ytgbadiajdhehpaa", sum := "4415e2b862e79eeef511f155fb229d02d664720dfa1c66146c39fef33bd486be", func := "plexus/plexuslaw09.LatticeChecks", spec := "latticeChecks", unfollowed := true, recurses := true, loops := true, apart := false }
def LatticeChecksSaid : Prop := latticeChecksRow.holds Try.pinned (OpenSpec.ofChange latticeChecksSpec)

/-- ITS FALSE NEIGHBOUR: 'it returns false'. Refute it at one input. -/
def latticeChecksWrong : ChangeSpec := { name := "latticeChecks", fn := fun _ => fun
  | [d] => { results := [.lit (.bool false)], args := [d] }
  | _ => none }
def LatticeChecksWrongFalsely : Prop := latticeChecksRow.holds Try.pinned (OpenSpec.ofChange latticeChecksWrong)

/-- 'plexuslaw09.LatticeEqual': WHATEVER THE INPUT: true; the input reads as it did. -/
def latticeEqualSpec : ChangeSpec := { name := "latticeEqual", fn := fun _ => fun
  | [d1, d2] => { results := [.lit (.bool true)], args := [d1, d2] }
  | _ => none }
def latticeEqualRow : OpenClaim := { program := "ytgbadiajdhehpaa", sum := "4415e2b862e79eeef511f155fb229d02d664720dfa1c66146c39fef33bd486be", func := "plexus/plexuslaw09.LatticeEqual", spec := "latticeEqual", unfollowed := true, recurses := true, loops := true, apart := false }
def LatticeEqualSaid : Prop := latticeEqualRow.holds Try.pinned (OpenSpec.ofChange latticeEqualSpec)

/-- ITS FALSE NEIGHBOUR: 'it returns false'. Refute it at one input. -/
def latticeEqualWrong : ChangeSpec := { name := "latticeEqual", fn := fun _ => fun
  | [d1, d2] => { results := [.lit (.bool false)], args := [d1, d2] }
  | _ => none }
def LatticeEqualWrongFalsely : Prop := latticeEqualRow.holds Try.pinned (OpenSpec.ofChange latticeEqualWrong)

/-- 'plexuslaw09.LatticeKinds': WHATEVER THE INPUT: true; the input reads as it did. -/
def latticeKindsSpec : ChangeSpec := { name := "latticeKinds", fn := fun _ => fun
  | [d] => { results := [.lit (.bool true)], args := [d] }
  | _ => none }
def latticeKindsRow : OpenClaim := { program := "ytgbadiajdhehpaa", sum := "4415e2b862e79eeef511f155fb229d02d664720dfa1c66146c39fef33bd486be", func := "plexus/plexuslaw09.LatticeKinds", spec := "latticeKinds", unfollowed := true, recurses := true, loops := true, apart := false }
def LatticeKindsSaid : Prop := latticeKindsRow.holds Try.pinned (OpenSpec.ofChange latticeKindsSpec)

/-- ITS FALSE NEIGHBOUR: 'it returns false'. Refute it at one input. -/
def latticeKindsWrong : ChangeSpec := { name := "latticeKinds", fn := fun _ => fun
  | [d] => { results := [.lit (.bool false)], args := [d] }
  | _ => none }
def LatticeKindsWrongFalsely : Prop := latticeKindsRow.holds Try.pinned (OpenSpec.ofChange latticeKindsWrong)

/-- 'plexuslaw09.LatticeEncodes': WHATEVER THE INPUT: true; the input reads as it did. -/
def latticeEncodesSpec : ChangeSpec := { name := "latticeEncodes", fn := fun _ => fun
  | [d] => { results := [.lit (.bool true)], args := [d] }
  | _ => none }
def latticeEncodesRow : OpenClaim := { program := "ytgbadiajdhehpaa", sum := "4415e2b862e79eeef511f155fb229d02d664720dfa1c66146c39fef33bd486be", func := "plexus/plexuslaw09.LatticeEncodes", spec := "latticeEncodes", unfollowed := true, recurses := true, loops := true, apart := false }
def LatticeEncodesSaid : Prop := latticeEncodesRow.holds Try.pinned (OpenSpec.ofChange latticeEncodesSpec)

/-- ITS FALSE NEIGHBOUR: 'it returns false'. Refute it at one input. -/
def latticeEncodesWrong : ChangeSpec := { name := "latticeEncodes", fn := fun _ => fun
  | [d] => { results := [.lit (.bool false)], args := [d] }
  | _ => none }
def LatticeEncodesWrongFalsely : Prop := latticeEncodesRow.holds Try.pinned (OpenSpec.ofChange latticeEncodesWrong)

/-- 'plexuslaw09.LatticeApart': WHATEVER THE INPUT: true; the input reads as it did. -/
def latticeApartSpec : ChangeSpec := { name := "latticeApart", fn := fun _ => fun
  | [d1, d2] => { results := [.lit (.bool true)], args := [d1, d2] }
  | _ => none }
def latticeApartRow : OpenClaim := { program := "ytgbadiajdhehpaa", sum := "4415e2b862e79eeef511f155fb229d02d664720dfa1c66146c39fef33bd486be", func := "plexus/plexuslaw09.LatticeApart", spec := "latticeApart", unfollowed := true, recurses := true, loops := true, apart := false }
def LatticeApartSaid : Prop := latticeApartRow.holds Try.pinned (OpenSpec.ofChange latticeApartSpec)

/-- ITS FALSE NEIGHBOUR: 'it returns false'. Refute it at one input. -/
def latticeApartWrong : ChangeSpec := { name := "latticeApart", fn := fun _ => fun
  | [d1, d2] => { results := [.lit (.bool false)], args := [d1, d2] }
  | _ => none }
def LatticeApartWrongFalsely : Prop := latticeApartRow.holds Try.pinned (OpenSpec.ofChange latticeApartWrong)

/-- 'plexuslaw09.LatticeParts': WHATEVER THE INPUT: true; the input reads as it did. -/
def latticePartsSpec : ChangeSpec := { name := "latticeParts", fn := fun _ => fun
  | [d] => { results := [.lit (.bool true)], args := [d] }
  | _ => none }
def latticePartsRow : OpenClaim := { program := "ytgbadiajdhehpaa", sum := "4415e2b862e79eeef511f155fb229d02d664720dfa1c66146c39fef33bd486be", func := "plexus/plexuslaw09.LatticeParts", spec := "latticeParts", unfollowed := true, recurses := true, loops := true, apart := false }
def LatticePartsSaid : Prop := latticePartsRow.holds Try.pinned (OpenSpec.ofChange latticePartsSpec)

/-- ITS FALSE NEIGHBOUR: 'it returns false'. Refute it at one input. -/
def latticePartsWrong : ChangeSpec := { name := "latticeParts", fn := fun _ => fun
  | [d] => { results := [.lit (.bool false)], args := [d] }
  | _ => none }
def LatticePartsWrongFalsely : Prop := latticePartsRow.holds Try.pinned (OpenSpec.ofChange latticePartsWrong)

/- THE SECOND FORM. 'bulk': how many values and letters a reading holds, each counted each time it is reached (what is shared counts as often as it is met; a slice's spare places count too). A statement '..UptoSaid' is the law's where the arguments, and the package variables that the reading takes, are together of bulk at most 1048576: NARROWER than '..Said'. Prove '..Said' where nothing that the law and all that it calls make is longer than what came in: it says more and counts as full. Else prove '..UptoSaid'. A law counts once. -/
mutual
def uptoBulk {H : Type} : DataW H → Nat
  | .lit (.string bytes) => bytes.length + 1
  | .lit _ => 1
  | .nil => 1
  | .ptr d => uptoBulk d + 1
  | .slice elems spare => uptoBulkAll elems + uptoBulkAll spare + 1
  | .agg parts => uptoBulkAll parts + 1
  | .iface _ d => uptoBulk d + 1
  | .map entries => uptoBulkEntries entries + 1
  | .held _ => 1
def uptoBulkAll {H : Type} : List (DataW H) → Nat
  | [] => 0
  | d :: r => uptoBulk d + uptoBulkAll r
def uptoBulkEntries {H : Type} : List (Lit × DataW H) → Nat
  | [] => 0
  | x :: r => uptoBulkEntry x + uptoBulkEntries r
def uptoBulkEntry {H : Type} : Lit × DataW H → Nat
  | (.string bytes, d) => bytes.length + uptoBulk d + 1
  | (_, d) => uptoBulk d + 1
 end
def uptoSmall : (H : Type) → List (DataW H) → Bool := fun _ ds => decide (uptoBulkAll ds ≤ 1048576)
def OpenSpec.upto (s : _root_.Go.ChangeSpec) : _root_.Go.OpenSpec := { _root_.Go.OpenSpec.ofChange s with cond := some uptoSmall }

/-- 'plexuslaw09.LatticeChecks', WHERE WHAT IT READS IS OF BULK AT MOST 1048576: true; the input reads as it did. -/
def latticeChecksUptoRow : OpenClaim := { program := "ytgbadiajdhehpaa", sum := "4415e2b862e79eeef511f155fb229d02d664720dfa1c66146c39fef33bd486be", func := "plexus/plexuslaw09.LatticeChecks", spec := "latticeChecks", unfollowed := true, recurses := true, loops := true, apart := false, narrowed := true }
def LatticeChecksUptoSaid : Prop := latticeChecksUptoRow.holds Try.pinned (OpenSpec.upto latticeChecksSpec)

/-- 'plexuslaw09.LatticeEqual', WHERE WHAT IT READS IS OF BULK AT MOST 1048576: true; the input reads as it did. -/
def latticeEqualUptoRow : OpenClaim := { program := "ytgbadiajdhehpaa", sum := "4415e2b862e79eeef511f155fb229d02d664720dfa1c66146c39fef33bd486be", func := "plexus/plexuslaw09.LatticeEqual", spec := "latticeEqual", unfollowed := true, recurses := true, loops := true, apart := false, narrowed := true }
def LatticeEqualUptoSaid : Prop := latticeEqualUptoRow.holds Try.pinned (OpenSpec.upto latticeEqualSpec)

/-- 'plexuslaw09.LatticeKinds', WHERE WHAT IT READS IS OF BULK AT MOST 1048576: true; the input reads as it did. -/
def latticeKindsUptoRow : OpenClaim := { program := "ytgbadiajdhehpaa", sum := "4415e2b862e79eeef511f155fb229d02d664720dfa1c66146c39fef33bd486be", func := "plexus/plexuslaw09.LatticeKinds", spec := "latticeKinds", unfollowed := true, recurses := true, loops := true, apart := false, narrowed := true }
def LatticeKindsUptoSaid : Prop := latticeKindsUptoRow.holds Try.pinned (OpenSpec.upto latticeKindsSpec)

/-- 'plexuslaw09.LatticeEncodes', WHERE WHAT IT READS IS OF BULK AT MOST 1048576: true; the input reads as it did. -/
def latticeEncodesUptoRow : OpenClaim := { program := "ytgbadiajdhehpaa", sum := "4415e2b862e79eeef511f155fb229d02d664720dfa1c66146c39fef33bd486be", func := "plexus/plexuslaw09.LatticeEncodes", spec := "latticeEncodes", unfollowed := true, recurses := true, loops := true, apart := false, narrowed := true }
def LatticeEncodesUptoSaid : Prop := latticeEncodesUptoRow.holds Try.pinned (OpenSpec.upto latticeEncodesSpec)

/-- 'plexuslaw09.LatticeApart', WHERE WHAT IT READS IS OF BULK AT MOST 1048576: true; the input reads as it did. -/
def latticeApartUptoRow : OpenClaim := { program := "ytgbadiajdhehpaa", sum := "4415e2b862e79eeef511f155fb229d02d664720dfa1c66146c39fef33bd486be", func := "plexus/plexuslaw09.LatticeApart", spec := "latticeApart", unfollowed := true, recurses := true, loops := true, apart := false, narrowed := true }
def LatticeApartUptoSaid : Prop := latticeApartUptoRow.holds Try.pinned (OpenSpec.upto latticeApartSpec)

/-- 'plexuslaw09.LatticeParts', WHERE WHAT IT READS IS OF BULK AT MOST 1048576: true; the input reads as it did. -/
def latticePartsUptoRow : OpenClaim := { program := "ytgbadiajdhehpaa", sum := "4415e2b862e79eeef511f155fb229d02d664720dfa1c66146c39fef33bd486be", func := "plexus/plexuslaw09.LatticeParts", spec := "latticeParts", unfollowed := true, recurses := true, loops := true, apart := false, narrowed := true }
def LatticePartsUptoSaid : Prop := latticePartsUptoRow.holds Try.pinned (OpenSpec.upto latticePartsSpec)

end Rows
end Go.Proofs.Ytgbadiajdhehpaa
