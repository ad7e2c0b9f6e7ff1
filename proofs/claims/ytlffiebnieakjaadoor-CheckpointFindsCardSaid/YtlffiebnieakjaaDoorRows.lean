/-
  NARROWER THAN 'FOR EVERY INPUT', by the rows' own cells (each row's printed sentence says how): CheckpointFinds: laid · CheckpointSaves: laid · CheckpointCounts: laid · CheckpointSurvives: laid · CheckpointEvery: laid · CheckpointOpens: laid · CheckpointAlternates: laid.
  DERIVED. THE GIVEN ROWS OF THIS SEAT. 7 by the template 'for every input the law returns true; each argument reads behind the call as it read before'; 0 by the template 'total and deterministic' (their statements: YtlffiebnieakjaaDoorTotals.lean).
  GIVEN WITH THE SEED: the statements are not yours to turn. If you find one false, say at which input.
  Laid BY PROGRAM, IN A SANDBOX (cutbox-rows.mjs): the forced cells as the released guide's own fill.sh prints them over the translation cfea2660a2fa84b8… (all of the seat's roots in one cut). By AI agents, Wed Nov 11 2026. No macro, syntax, notation, axiom, sorry.
-/
import Derived.Test.YtlffiebnieakjaaDoorChecked
import GoSem.Claim
import GoSem.ClaimJoined
import GoSem.ClaimMapViews
import Derived.JoinedTies
import Derived.KernelRfl
namespace Go.Proofs.YtlffiebnieakjaaDoor
/- THE CELL 'sum', in the pinned program and in every row, IS THE sha256 OF THE DUMP (.gsa) THAT YtlffiebnieakjaaDoorProg.lean LOADS. Nothing in Lean hashes anything: it is a label: what it is worth is what the hold of that sum in a sandbox is worth. -/
noncomputable def Tryd.pinned : Pinned := { name := "ytlffiebnieakjaadoor", sum := "cfea2660a2fa84b87ac35e926e5e41bb1bc0b0d16eeeb3306e6040c6254c72cb", checked := Tryd.checked }
namespace Rows
def none {H : Type} : Left H := { results := [], args := [] }

/- WHAT THE LISTED PACKAGE-LEVEL VARIABLES READ AS WHEN THE CALL BEGINS. Each datum BY PROGRAM (the guide's laid-datum.mjs) off the statement by which the dump's own 'gosem.cut.vars' lays the variable. In a bare row this is a premise. The card (YtlffiebnieakjaaDoorCards.lean) ties it to the program's text. -/
def laid_plexus_sha256_initial {H : Type} : DataW H := .agg [.lit (.int .u32 1779033703), .lit (.int .u32 3144134277), .lit (.int .u32 1013904242), .lit (.int .u32 2773480762), .lit (.int .u32 1359893119), .lit (.int .u32 2600822924), .lit (.int .u32 528734635), .lit (.int .u32 1541459225)]
def laid_plexus_sha256_constants {H : Type} : DataW H := .agg [.lit (.int .u32 1116352408), .lit (.int .u32 1899447441), .lit (.int .u32 3049323471), .lit (.int .u32 3921009573), .lit (.int .u32 961987163), .lit (.int .u32 1508970993), .lit (.int .u32 2453635748), .lit (.int .u32 2870763221), .lit (.int .u32 3624381080), .lit (.int .u32 310598401), .lit (.int .u32 607225278), .lit (.int .u32 1426881987), .lit (.int .u32 1925078388), .lit (.int .u32 2162078206), .lit (.int .u32 2614888103), .lit (.int .u32 3248222580), .lit (.int .u32 3835390401), .lit (.int .u32 4022224774), .lit (.int .u32 264347078), .lit (.int .u32 604807628), .lit (.int .u32 770255983), .lit (.int .u32 1249150122), .lit (.int .u32 1555081692), .lit (.int .u32 1996064986), .lit (.int .u32 2554220882), .lit (.int .u32 2821834349), .lit (.int .u32 2952996808), .lit (.int .u32 3210313671), .lit (.int .u32 3336571891), .lit (.int .u32 3584528711), .lit (.int .u32 113926993), .lit (.int .u32 338241895), .lit (.int .u32 666307205), .lit (.int .u32 773529912), .lit (.int .u32 1294757372), .lit (.int .u32 1396182291), .lit (.int .u32 1695183700), .lit (.int .u32 1986661051), .lit (.int .u32 2177026350), .lit (.int .u32 2456956037), .lit (.int .u32 2730485921), .lit (.int .u32 2820302411), .lit (.int .u32 3259730800), .lit (.int .u32 3345764771), .lit (.int .u32 3516065817), .lit (.int .u32 3600352804), .lit (.int .u32 4094571909), .lit (.int .u32 275423344), .lit (.int .u32 430227734), .lit (.int .u32 506948616), .lit (.int .u32 659060556), .lit (.int .u32 883997877), .lit (.int .u32 958139571), .lit (.int .u32 1322822218), .lit (.int .u32 1537002063), .lit (.int .u32 1747873779), .lit (.int .u32 1955562222), .lit (.int .u32 2024104815), .lit (.int .u32 2227730452), .lit (.int .u32 2361852424), .lit (.int .u32 2428436474), .lit (.int .u32 2756734187), .lit (.int .u32 3204031479), .lit (.int .u32 3329325298)]

/-- 'plexuslaw27.CheckpointFinds': WHATEVER THE INPUT: true; the input reads as it did. -/
def checkpointFindsSpec : ChangeSpec := { name := "checkpointFinds", fn := fun _ => fun
  | [d1, d2] => { results := [.lit (.bool true)], args := [d1, d2] }
  | _ => none }
def checkpointFindsRow : OpenClaim := { program := "ytlffiebnieakjaadoor", sum := "cfea2660a2fa84b87ac35e926e5e41bb1bc0b0d16eeeb3306e6040c6254c72cb", func := "plexus/plexuslaw27.CheckpointFinds", spec := "checkpointFinds", named := ["plexus/sha256.initial", "plexus/sha256.constants"], apart := false, laid := [("plexus/sha256.initial", laid_plexus_sha256_initial), ("plexus/sha256.constants", laid_plexus_sha256_constants)] }
def CheckpointFindsSaid : Prop := checkpointFindsRow.holds Tryd.pinned (OpenSpec.ofChange checkpointFindsSpec)

/-- ITS FALSE NEIGHBOUR: 'it returns false'. Refute it at one input. -/
def checkpointFindsWrong : ChangeSpec := { name := "checkpointFinds", fn := fun _ => fun
  | [d1, d2] => { results := [.lit (.bool false)], args := [d1, d2] }
  | _ => none }
def CheckpointFindsWrongFalsely : Prop := checkpointFindsRow.holds Tryd.pinned (OpenSpec.ofChange checkpointFindsWrong)

/-- 'plexuslaw27.CheckpointSaves': WHATEVER THE INPUT: true; the input reads as it did. -/
def checkpointSavesSpec : ChangeSpec := { name := "checkpointSaves", fn := fun _ => fun
  | [d1, d2, d3] => { results := [.lit (.bool true)], args := [d1, d2, d3] }
  | _ => none }
def checkpointSavesRow : OpenClaim := { program := "ytlffiebnieakjaadoor", sum := "cfea2660a2fa84b87ac35e926e5e41bb1bc0b0d16eeeb3306e6040c6254c72cb", func := "plexus/plexuslaw27.CheckpointSaves", spec := "checkpointSaves", named := ["plexus/sha256.initial", "plexus/sha256.constants"], apart := false, laid := [("plexus/sha256.initial", laid_plexus_sha256_initial), ("plexus/sha256.constants", laid_plexus_sha256_constants)] }
def CheckpointSavesSaid : Prop := checkpointSavesRow.holds Tryd.pinned (OpenSpec.ofChange checkpointSavesSpec)

/-- ITS FALSE NEIGHBOUR: 'it returns false'. Refute it at one input. -/
def checkpointSavesWrong : ChangeSpec := { name := "checkpointSaves", fn := fun _ => fun
  | [d1, d2, d3] => { results := [.lit (.bool false)], args := [d1, d2, d3] }
  | _ => none }
def CheckpointSavesWrongFalsely : Prop := checkpointSavesRow.holds Tryd.pinned (OpenSpec.ofChange checkpointSavesWrong)

/-- 'plexuslaw27.CheckpointCounts': WHATEVER THE INPUT: true; the input reads as it did. -/
def checkpointCountsSpec : ChangeSpec := { name := "checkpointCounts", fn := fun _ => fun
  | [d1, d2, d3, d4] => { results := [.lit (.bool true)], args := [d1, d2, d3, d4] }
  | _ => none }
def checkpointCountsRow : OpenClaim := { program := "ytlffiebnieakjaadoor", sum := "cfea2660a2fa84b87ac35e926e5e41bb1bc0b0d16eeeb3306e6040c6254c72cb", func := "plexus/plexuslaw27.CheckpointCounts", spec := "checkpointCounts", named := ["plexus/sha256.initial", "plexus/sha256.constants"], apart := false, laid := [("plexus/sha256.initial", laid_plexus_sha256_initial), ("plexus/sha256.constants", laid_plexus_sha256_constants)] }
def CheckpointCountsSaid : Prop := checkpointCountsRow.holds Tryd.pinned (OpenSpec.ofChange checkpointCountsSpec)

/-- ITS FALSE NEIGHBOUR: 'it returns false'. Refute it at one input. -/
def checkpointCountsWrong : ChangeSpec := { name := "checkpointCounts", fn := fun _ => fun
  | [d1, d2, d3, d4] => { results := [.lit (.bool false)], args := [d1, d2, d3, d4] }
  | _ => none }
def CheckpointCountsWrongFalsely : Prop := checkpointCountsRow.holds Tryd.pinned (OpenSpec.ofChange checkpointCountsWrong)

/-- 'plexuslaw27.CheckpointSurvives': WHATEVER THE INPUT: true; the input reads as it did. -/
def checkpointSurvivesSpec : ChangeSpec := { name := "checkpointSurvives", fn := fun _ => fun
  | [d1, d2, d3] => { results := [.lit (.bool true)], args := [d1, d2, d3] }
  | _ => none }
def checkpointSurvivesRow : OpenClaim := { program := "ytlffiebnieakjaadoor", sum := "cfea2660a2fa84b87ac35e926e5e41bb1bc0b0d16eeeb3306e6040c6254c72cb", func := "plexus/plexuslaw27.CheckpointSurvives", spec := "checkpointSurvives", named := ["plexus/sha256.initial", "plexus/sha256.constants"], apart := false, laid := [("plexus/sha256.initial", laid_plexus_sha256_initial), ("plexus/sha256.constants", laid_plexus_sha256_constants)] }
def CheckpointSurvivesSaid : Prop := checkpointSurvivesRow.holds Tryd.pinned (OpenSpec.ofChange checkpointSurvivesSpec)

/-- ITS FALSE NEIGHBOUR: 'it returns false'. Refute it at one input. -/
def checkpointSurvivesWrong : ChangeSpec := { name := "checkpointSurvives", fn := fun _ => fun
  | [d1, d2, d3] => { results := [.lit (.bool false)], args := [d1, d2, d3] }
  | _ => none }
def CheckpointSurvivesWrongFalsely : Prop := checkpointSurvivesRow.holds Tryd.pinned (OpenSpec.ofChange checkpointSurvivesWrong)

/-- 'plexuslaw27.CheckpointEvery': WHATEVER THE INPUT: true; the input reads as it did. -/
def checkpointEverySpec : ChangeSpec := { name := "checkpointEvery", fn := fun _ => fun
  | [d1, d2, d3, d4] => { results := [.lit (.bool true)], args := [d1, d2, d3, d4] }
  | _ => none }
def checkpointEveryRow : OpenClaim := { program := "ytlffiebnieakjaadoor", sum := "cfea2660a2fa84b87ac35e926e5e41bb1bc0b0d16eeeb3306e6040c6254c72cb", func := "plexus/plexuslaw27.CheckpointEvery", spec := "checkpointEvery", named := ["plexus/sha256.initial", "plexus/sha256.constants"], apart := false, laid := [("plexus/sha256.initial", laid_plexus_sha256_initial), ("plexus/sha256.constants", laid_plexus_sha256_constants)] }
def CheckpointEverySaid : Prop := checkpointEveryRow.holds Tryd.pinned (OpenSpec.ofChange checkpointEverySpec)

/-- ITS FALSE NEIGHBOUR: 'it returns false'. Refute it at one input. -/
def checkpointEveryWrong : ChangeSpec := { name := "checkpointEvery", fn := fun _ => fun
  | [d1, d2, d3, d4] => { results := [.lit (.bool false)], args := [d1, d2, d3, d4] }
  | _ => none }
def CheckpointEveryWrongFalsely : Prop := checkpointEveryRow.holds Tryd.pinned (OpenSpec.ofChange checkpointEveryWrong)

/-- 'plexuslaw27.CheckpointOpens': WHATEVER THE INPUT: true; the input reads as it did. -/
def checkpointOpensSpec : ChangeSpec := { name := "checkpointOpens", fn := fun _ => fun
  | [d1, d2, d3, d4, d5] => { results := [.lit (.bool true)], args := [d1, d2, d3, d4, d5] }
  | _ => none }
def checkpointOpensRow : OpenClaim := { program := "ytlffiebnieakjaadoor", sum := "cfea2660a2fa84b87ac35e926e5e41bb1bc0b0d16eeeb3306e6040c6254c72cb", func := "plexus/plexuslaw27.CheckpointOpens", spec := "checkpointOpens", named := ["plexus/sha256.initial", "plexus/sha256.constants"], apart := false, laid := [("plexus/sha256.initial", laid_plexus_sha256_initial), ("plexus/sha256.constants", laid_plexus_sha256_constants)] }
def CheckpointOpensSaid : Prop := checkpointOpensRow.holds Tryd.pinned (OpenSpec.ofChange checkpointOpensSpec)

/-- ITS FALSE NEIGHBOUR: 'it returns false'. Refute it at one input. -/
def checkpointOpensWrong : ChangeSpec := { name := "checkpointOpens", fn := fun _ => fun
  | [d1, d2, d3, d4, d5] => { results := [.lit (.bool false)], args := [d1, d2, d3, d4, d5] }
  | _ => none }
def CheckpointOpensWrongFalsely : Prop := checkpointOpensRow.holds Tryd.pinned (OpenSpec.ofChange checkpointOpensWrong)

/-- 'plexuslaw27.CheckpointAlternates': WHATEVER THE INPUT: true; the input reads as it did. -/
def checkpointAlternatesSpec : ChangeSpec := { name := "checkpointAlternates", fn := fun _ => fun
  | [d1, d2] => { results := [.lit (.bool true)], args := [d1, d2] }
  | _ => none }
def checkpointAlternatesRow : OpenClaim := { program := "ytlffiebnieakjaadoor", sum := "cfea2660a2fa84b87ac35e926e5e41bb1bc0b0d16eeeb3306e6040c6254c72cb", func := "plexus/plexuslaw27.CheckpointAlternates", spec := "checkpointAlternates", named := ["plexus/sha256.initial", "plexus/sha256.constants"], apart := false, laid := [("plexus/sha256.initial", laid_plexus_sha256_initial), ("plexus/sha256.constants", laid_plexus_sha256_constants)] }
def CheckpointAlternatesSaid : Prop := checkpointAlternatesRow.holds Tryd.pinned (OpenSpec.ofChange checkpointAlternatesSpec)

/-- ITS FALSE NEIGHBOUR: 'it returns false'. Refute it at one input. -/
def checkpointAlternatesWrong : ChangeSpec := { name := "checkpointAlternates", fn := fun _ => fun
  | [d1, d2] => { results := [.lit (.bool false)], args := [d1, d2] }
  | _ => none }
def CheckpointAlternatesWrongFalsely : Prop := checkpointAlternatesRow.holds Tryd.pinned (OpenSpec.ofChange checkpointAlternatesWrong)

/- THE SECOND FORM. 'bulk': how many values and letters a reading holds, each counted each time it is reached (what is shared counts as often as it is met; a slice's spare places count too). A statement '..UptoSaid' is the law's where the arguments, and the package variables that the reading takes, are together of bulk at most 1048576: NARROWER than '..Said'. Prove '..Said' where nothing that the law and all that it calls make is longer than what came in: it says more and counts as full. Else prove '..UptoSaid'. A law counts once. -/
mutual
def uptoBulk {H : Type} : DataW H → Nat
  | .lit (.string bytes) => bytes.length + 1
  | .lit _ => 1
  | .nil => 1
  | .ptr d => uptoBulk d + 1
  | .slice elems spare => uptoBulkAll elems + uptoBulkAll spare + 1
  | .agg parts => uptoBulkAll parts + 1
  | .iface _ d => uptoBulk d + 1
  | .map entries => uptoBulkEntries entries + 1
  | .held _ => 1
def uptoBulkAll {H : Type} : List (DataW H) → Nat
  | [] => 0
  | d :: r => uptoBulk d + uptoBulkAll r
def uptoBulkEntries {H : Type} : List (Lit × DataW H) → Nat
  | [] => 0
  | x :: r => uptoBulkEntry x + uptoBulkEntries r
def uptoBulkEntry {H : Type} : Lit × DataW H → Nat
  | (.string bytes, d) => bytes.length + uptoBulk d + 1
  | (_, d) => uptoBulk d + 1
 end
def uptoSmall : (H : Type) → List (DataW H) → Bool := fun _ ds => decide (uptoBulkAll ds ≤ 1048576)
def OpenSpec.upto (s : _root_.Go.ChangeSpec) : _root_.Go.OpenSpec := { _root_.Go.OpenSpec.ofChange s with cond := some uptoSmall }

/-- 'plexuslaw27.CheckpointFinds', WHERE WHAT IT READS IS OF BULK AT MOST 1048576: true; the input reads as it did. -/
def checkpointFindsUptoRow : OpenClaim := { program := "ytlffiebnieakjaadoor", sum := "cfea2660a2fa84b87ac35e926e5e41bb1bc0b0d16eeeb3306e6040c6254c72cb", func := "plexus/plexuslaw27.CheckpointFinds", spec := "checkpointFinds", named := ["plexus/sha256.initial", "plexus/sha256.constants"], apart := false, laid := [("plexus/sha256.initial", laid_plexus_sha256_initial), ("plexus/sha256.constants", laid_plexus_sha256_constants)], narrowed := true }
def CheckpointFindsUptoSaid : Prop := checkpointFindsUptoRow.holds Tryd.pinned (OpenSpec.upto checkpointFindsSpec)

/-- 'plexuslaw27.CheckpointSaves', WHERE WHAT IT READS IS OF BULK AT MOST 1048576: true; the input reads as it did. -/
def checkpointSavesUptoRow : OpenClaim := { program := "ytlffiebnieakjaadoor", sum := "cfea2660a2fa84b87ac35e926e5e41bb1bc0b0d16eeeb3306e6040c6254c72cb", func := "plexus/plexuslaw27.CheckpointSaves", spec := "checkpointSaves", named := ["plexus/sha256.initial", "plexus/sha256.constants"], apart := false, laid := [("plexus/sha256.initial", laid_plexus_sha256_initial), ("plexus/sha256.constants", laid_plexus_sha256_constants)], narrowed := true }
def CheckpointSavesUptoSaid : Prop := checkpointSavesUptoRow.holds Tryd.pinned (OpenSpec.upto checkpointSavesSpec)

/-- 'plexuslaw27.CheckpointCounts', WHERE WHAT IT READS IS OF BULK AT MOST 1048576: true; the input reads as it did. -/
def checkpointCountsUptoRow : OpenClaim := { program := "ytlffiebnieakjaadoor", sum := "cfea2660a2fa84b87ac35e926e5e41bb1bc0b0d16eeeb3306e6040c6254c72cb", func := "plexus/plexuslaw27.CheckpointCounts", spec := "checkpointCounts", named := ["plexus/sha256.initial", "plexus/sha256.constants"], apart := false, laid := [("plexus/sha256.initial", laid_plexus_sha256_initial), ("plexus/sha256.constants", laid_plexus_sha256_constants)], narrowed := true }
def CheckpointCountsUptoSaid : Prop := checkpointCountsUptoRow.holds Tryd.pinned (OpenSpec.upto checkpointCountsSpec)

/-- 'plexuslaw27.CheckpointSurvives', WHERE WHAT IT READS IS OF BULK AT MOST 1048576: true; the input reads as it did. -/
def checkpointSurvivesUptoRow : OpenClaim := { program := "ytlffiebnieakjaadoor", sum := "cfea2660a2fa84b87ac35e926e5e41bb1bc0b0d16eeeb3306e6040c6254c72cb", func := "plexus/plexuslaw27.CheckpointSurvives", spec := "checkpointSurvives", named := ["plexus/sha256.initial", "plexus/sha256.constants"], apart := false, laid := [("plexus/sha256.initial", laid_plexus_sha256_initial), ("plexus/sha256.constants", laid_plexus_sha256_constants)], narrowed := true }
def CheckpointSurvivesUptoSaid : Prop := checkpointSurvivesUptoRow.holds Tryd.pinned (OpenSpec.upto checkpointSurvivesSpec)

/-- 'plexuslaw27.CheckpointEvery', WHERE WHAT IT READS IS OF BULK AT MOST 1048576: true; the input reads as it did. -/
def checkpointEveryUptoRow : OpenClaim := { program := "ytlffiebnieakjaadoor", sum := "cfea2660a2fa84b87ac35e926e5e41bb1bc0b0d16eeeb3306e6040c6254c72cb", func := "plexus/plexuslaw27.CheckpointEvery", spec := "checkpointEvery", named := ["plexus/sha256.initial", "plexus/sha256.constants"], apart := false, laid := [("plexus/sha256.initial", laid_plexus_sha256_initial), ("plexus/sha256.constants", laid_plexus_sha256_constants)], narrowed := true }
def CheckpointEveryUptoSaid : Prop := checkpointEveryUptoRow.holds Tryd.pinned (OpenSpec.upto checkpointEverySpec)

/-- 'plexuslaw27.CheckpointOpens', WHERE WHAT IT READS IS OF BULK AT MOST 1048576: true; the input reads as it did. -/
def checkpointOpensUptoRow : OpenClaim := { program := "ytlffiebnieakjaadoor", sum := "cfea2660a2fa84b87ac35e926e5e41bb1bc0b0d16eeeb3306e6040c6254c72cb", func := "plexus/plexuslaw27.CheckpointOpens", spec := "checkpointOpens", named := ["plexus/sha256.initial", "plexus/sha256.constants"], apart := false, laid := [("plexus/sha256.initial", laid_plexus_sha256_initial), ("plexus/sha256.constants", laid_plexus_sha256_constants)], narrowed := true }
def CheckpointOpensUptoSaid : Prop := checkpointOpensUptoRow.holds Tryd.pinned (OpenSpec.upto checkpointOpensSpec)

/-- 'plexuslaw27.CheckpointAlternates', WHERE WHAT IT READS IS OF BULK AT MOST 1048576: true; the input reads as it did. -/
def checkpointAlternatesUptoRow : OpenClaim := { program := "ytlffiebnieakjaadoor", sum := "cfea2660a2fa84b87ac35e926e5e41bb1bc0b0d16eeeb3306e6040c6254c72cb", func := "plexus/plexuslaw27.CheckpointAlternates", spec := "checkpointAlternates", named := ["plexus/sha256.initial", "plexus/sha256.constants"], apart := false, laid := [("plexus/sha256.initial", laid_plexus_sha256_initial), ("plexus/sha256.constants", laid_plexus_sha256_constants)], narrowed := true }
def CheckpointAlternatesUptoSaid : Prop := checkpointAlternatesUptoRow.holds Tryd.pinned (OpenSpec.upto checkpointAlternatesSpec)

end Rows
end Go.Proofs.YtlffiebnieakjaaDoor
