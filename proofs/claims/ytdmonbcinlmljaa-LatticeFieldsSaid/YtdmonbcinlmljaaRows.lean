/-
  NARROWER THAN 'FOR EVERY INPUT', by the rows' own cells (each row's printed sentence says how): LatticeFields: loops · LatticeEncodes: loops.
  DERIVED. THE GIVEN ROWS OF THIS SEAT. 2 by the template 'for every input the law returns true; each argument reads behind the call as it read before'; 0 by the template 'total and deterministic' (their statements: YtdmonbcinlmljaaTotals.lean).
  GIVEN WITH THE SEED: the statements are not yours to turn. If you find one false, say at which input.
  Laid BY PROGRAM, IN A SANDBOX (cutbox-rows.mjs): the forced cells as the released guide's own fill.sh prints them over the translation fc552cceb634a124… (all of the seat's roots in one cut). By AI agents, Wed Nov 11 2026. No macro, syntax, notation, axiom, sorry.
-/
import Derived.Test.YtdmonbcinlmljaaChecked
import GoSem.Claim
import GoSem.ClaimJoined
import GoSem.ClaimMapViews
import Derived.JoinedTies
import Derived.KernelRfl
namespace Go.Proofs.Ytdmonbcinlmljaa
/- THE CELL 'sum', in the pinned program and in every row, IS THE sha256 OF THE DUMP (.gsa) THAT YtdmonbcinlmljaaProg.lean LOADS. Nothing in Lean hashes anything: it is a label: what it is worth is what the hold of that sum in a sandbox is worth. -/
noncomputable def Try.pinned : Pinned := { name := "ytdmonbcinlmljaa", sum := "fc552cceb634a124d11b57599b3abc48f5b0025f0f59d751f0a0f461fb063170", checked := Try.checked }
namespace Rows
def none {H : Type} : Left H := { results := [], args := [] }

/-- 'plexuslaw09.LatticeFields': WHATEVER THE INPUT: true; the input reads as it did. -/
def latticeFieldsSpec : ChangeSpec := { name := "latticeFields", fn := fun _ => fun
  | [d1, d2] => { results := [.lit (.bool true)], args := [d1, d2] }
  | _ => none }
def latticeFieldsRow : OpenClaim := { program := "ytdmonbcinlmljaa", sum := "fc552cceb634a124d11b57599b3abc48f5b0025f0f59d751f0a0f461fb063170", func := "plexus/plexuslaw09.LatticeFields", spec := "latticeFields", unfollowed := true, recurses := true, loops := true, apart := false }
def LatticeFieldsSaid : Prop := latticeFieldsRow.holds Try.pinned (OpenSpec.ofChange latticeFieldsSpec)

/-- ITS FALSE NEIGHBOUR: 'it returns false'. Refute it at one input. -/
def latticeFieldsWrong : ChangeSpec := { name := "latticeFields", fn := fun _ => fun
  | [d1, d2] => { results := [.lit (.bool false)], args := [d1, d2] }
  | _ => none }
def LatticeFieldsWrongFalsely : Prop := latticeFieldsRow.holds Try.pinned (OpenSpec.ofChange latticeFieldsWrong)

/-- 'plexuslaw09.LatticeEncodes': WHATEVER THE INPUT: true; the input reads as it did. -/
def latticeEncodesSpec : ChangeSpec := { name := "latticeEncodes", fn := fun _ => fun
  | [d] => { results := [.lit (.bool true)], args := [d] }
  | _ => none }
def latticeEncodesRow : OpenClaim := { program := "ytdmonbcinlmljaa", sum := "fc552cceb634a124d11b57599b3abc48f5b0025f0f59d751f0a0f461fb063170", func := "plexus/plexuslaw09.LatticeEncodes", spec := "latticeEncodes", unfollowed := true, recurses := true, loops := true, apart := false }
def LatticeEncodesSaid : Prop := latticeEncodesRow.holds Try.pinned (OpenSpec.ofChange latticeEncodesSpec)

/-- ITS FALSE NEIGHBOUR: 'it returns false'. Refute it at one input. -/
def latticeEncodesWrong : ChangeSpec := { name := "latticeEncodes", fn := fun _ => fun
  | [d] => { results := [.lit (.bool false)], args := [d] }
  | _ => none }
def LatticeEncodesWrongFalsely : Prop := latticeEncodesRow.holds Try.pinned (OpenSpec.ofChange latticeEncodesWrong)

/- THE SECOND FORM. 'bulk': how many values and letters a reading holds, each counted each time it is reached (what is shared counts as often as it is met; a slice's spare places count too). A statement '..UptoSaid' is the law's where the arguments, and the package variables that the reading takes, are together of bulk at most 1048576: NARROWER than '..Said'. Prove '..Said' where nothing that the law and all that it calls make is longer than what came in: it says more and counts as full. Else prove '..UptoSaid'. A law counts once. -/
mutual
def uptoBulk {H : Type} : DataW H → Nat
  | .lit (.string bytes) => bytes.length + 1
  | .lit _ => 1
  | .nil => 1
  | .ptr d => uptoBulk d + 1
  | .slice elems spare => uptoBulkAll elems + uptoBulkAll spare + 1
  | .agg parts => uptoBulkAll parts + 1
  | .iface _ d => uptoBulk d + 1
  | .map entries => uptoBulkEntries entries + 1
  | .held _ => 1
def uptoBulkAll {H : Type} : List (DataW H) → Nat
  | [] => 0
  | d :: r => uptoBulk d + uptoBulkAll r
def uptoBulkEntries {H : Type} : List (Lit × DataW H) → Nat
  | [] => 0
  | x :: r => uptoBulkEntry x + uptoBulkEntries r
def uptoBulkEntry {H : Type} : Lit × DataW H → Nat
  | (.string bytes, d) => bytes.length + uptoBulk d + 1
  | (_, d) => uptoBulk d + 1
 end
def uptoSmall : (H : Type) → List (DataW H) → Bool := fun _ ds => decide (uptoBulkAll ds ≤ 1048576)
def OpenSpec.upto (s : _root_.Go.ChangeSpec) : _root_.Go.OpenSpec := { _root_.Go.OpenSpec.ofChange s with cond := some uptoSmall }

/-- 'plexuslaw09.LatticeFields', WHERE WHAT IT READS IS OF BULK AT MOST 1048576: true; the input reads as it did. -/
def latticeFieldsUptoRow : OpenClaim := { program := "ytdmonbcinlmljaa", sum := "fc552cceb634a124d11b57599b3abc48f5b0025f0f59d751f0a0f461fb063170", func := "plexus/plexuslaw09.LatticeFields", spec := "latticeFields", unfollowed := true, recurses := true, loops := true, apart := false, narrowed := true }
def LatticeFieldsUptoSaid : Prop := latticeFieldsUptoRow.holds Try.pinned (OpenSpec.upto latticeFieldsSpec)

/-- 'plexuslaw09.LatticeEncodes', WHERE WHAT IT READS IS OF BULK AT MOST 1048576: true; the input reads as it did. -/
def latticeEncodesUptoRow : OpenClaim := { program := "ytdmonbcinlmljaa", sum := "fc552cceb634a124d11b57599b3abc48f5b0025f0f59d751f0a0f461fb063170", func := "plexus/plexuslaw09.LatticeEncodes", spec := "latticeEncodes", unfollowed := true, recurses := true, loops := true, apart := false, narrowed := true }
def LatticeEncodesUptoSaid : Prop := latticeEncodesUptoRow.holds Try.pinned (OpenSpec.upto latticeEncodesSpec)

end Rows
end Go.Proofs.Ytdmonbcinlmljaa
