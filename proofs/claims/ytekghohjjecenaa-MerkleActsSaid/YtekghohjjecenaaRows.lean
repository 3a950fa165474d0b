/-
  No cell of these rows narrows 'for every input' (looked for: loops, veiled, ifaces, maps, wideKeys, modest, calm, conditions, laid).
  DERIVED. THE GIVEN ROWS OF THIS SEAT. 6 by the template 'for every input the law returns true; each argument reads behind the call as it read before'; 0 by the template 'total and deterministic' (their statements: YtekghohjjecenaaTotals.lean).
  GIVEN WITH THE SEED: the statements are not yours to turn. If you find one false, say at which input.
  Laid BY PROGRAM, IN A SANDBOX (cutbox-rows.mjs): the forced cells as the released guide's own fill.sh prints them over the translation ecd78ca638a52bd5… (all of the seat's roots in one cut). By AI agents, Wed Nov 11 2026. No macro, syntax, notation, axiom, sorry.
-/
import Derived.Test.YtekghohjjecenaaChecked
import GoSem.Claim
import GoSem.ClaimJoined
import GoSem.ClaimMapViews
import Derived.JoinedTies
import Derived.KernelRfl
namespace Go.Proofs.Ytekghohjjecenaa
/- THE CELL 'sum', in the pinned program and in every row, IS THE sha256 OF THE DUMP (.gsa) THAT YtekghohjjecenaaProg.lean LOADS. Nothing in Lean hashes anything: it is a label: what it is worth is what the hold of that sum in a sandbox is worth. -/
noncomputable def Try.pinned : Pinned := { name := "ytekghohjjecenaa", sum := "ecd78ca638a52bd5b9263346d3c2dda9f7d6d1482a6dcd7a8ef2264be8053fef", checked := Try.checked }
namespace Rows
def none {H : Type} : Left H := { results := [], args := [] }

/-- 'asyncbftlaw05.MerkleActs': WHATEVER THE INPUT: true; the input reads as it did. -/
def merkleActsSpec : ChangeSpec := { name := "merkleActs", fn := fun _ => fun
  | [d1, d2, d3, d4, d5, d6, d7] => { results := [.lit (.bool true)], args := [d1, d2, d3, d4, d5, d6, d7] }
  | _ => none }
def merkleActsRow : OpenClaim := { program := "ytekghohjjecenaa", sum := "ecd78ca638a52bd5b9263346d3c2dda9f7d6d1482a6dcd7a8ef2264be8053fef", func := "asyncbft/asyncbftlaw05.MerkleActs", spec := "merkleActs", recurses := true, apart := false }
def MerkleActsSaid : Prop := merkleActsRow.holds Try.pinned (OpenSpec.ofChange merkleActsSpec)

/-- ITS FALSE NEIGHBOUR: 'it returns false'. Refute it at one input. -/
def merkleActsWrong : ChangeSpec := { name := "merkleActs", fn := fun _ => fun
  | [d1, d2, d3, d4, d5, d6, d7] => { results := [.lit (.bool false)], args := [d1, d2, d3, d4, d5, d6, d7] }
  | _ => none }
def MerkleActsWrongFalsely : Prop := merkleActsRow.holds Try.pinned (OpenSpec.ofChange merkleActsWrong)

/-- 'asyncbftlaw05.MerkleBranches': WHATEVER THE INPUT: true; the input reads as it did. -/
def merkleBranchesSpec : ChangeSpec := { name := "merkleBranches", fn := fun _ => fun
  | [d] => { results := [.lit (.bool true)], args := [d] }
  | _ => none }
def merkleBranchesRow : OpenClaim := { program := "ytekghohjjecenaa", sum := "ecd78ca638a52bd5b9263346d3c2dda9f7d6d1482a6dcd7a8ef2264be8053fef", func := "asyncbft/asyncbftlaw05.MerkleBranches", spec := "merkleBranches", recurses := true, apart := false }
def MerkleBranchesSaid : Prop := merkleBranchesRow.holds Try.pinned (OpenSpec.ofChange merkleBranchesSpec)

/-- ITS FALSE NEIGHBOUR: 'it returns false'. Refute it at one input. -/
def merkleBranchesWrong : ChangeSpec := { name := "merkleBranches", fn := fun _ => fun
  | [d] => { results := [.lit (.bool false)], args := [d] }
  | _ => none }
def MerkleBranchesWrongFalsely : Prop := merkleBranchesRow.holds Try.pinned (OpenSpec.ofChange merkleBranchesWrong)

/-- 'asyncbftlaw05.MerkleChanges': WHATEVER THE INPUT: true; the input reads as it did. -/
def merkleChangesSpec : ChangeSpec := { name := "merkleChanges", fn := fun _ => fun
  | [d1, d2, d3, d4] => { results := [.lit (.bool true)], args := [d1, d2, d3, d4] }
  | _ => none }
def merkleChangesRow : OpenClaim := { program := "ytekghohjjecenaa", sum := "ecd78ca638a52bd5b9263346d3c2dda9f7d6d1482a6dcd7a8ef2264be8053fef", func := "asyncbft/asyncbftlaw05.MerkleChanges", spec := "merkleChanges", recurses := true, apart := false }
def MerkleChangesSaid : Prop := merkleChangesRow.holds Try.pinned (OpenSpec.ofChange merkleChangesSpec)

/-- ITS FALSE NEIGHBOUR: 'it returns false'. Refute it at one input. -/
def merkleChangesWrong : ChangeSpec := { name := "merkleChanges", fn := fun _ => fun
  | [d1, d2, d3, d4] => { results := [.lit (.bool false)], args := [d1, d2, d3, d4] }
  | _ => none }
def MerkleChangesWrongFalsely : Prop := merkleChangesRow.holds Try.pinned (OpenSpec.ofChange merkleChangesWrong)

/-- 'asyncbftlaw05.MerkleShape': WHATEVER THE INPUT: true; the input reads as it did. -/
def merkleShapeSpec : ChangeSpec := { name := "merkleShape", fn := fun _ => fun
  | [d1, d2] => { results := [.lit (.bool true)], args := [d1, d2] }
  | _ => none }
def merkleShapeRow : OpenClaim := { program := "ytekghohjjecenaa", sum := "ecd78ca638a52bd5b9263346d3c2dda9f7d6d1482a6dcd7a8ef2264be8053fef", func := "asyncbft/asyncbftlaw05.MerkleShape", spec := "merkleShape", recurses := true, apart := false }
def MerkleShapeSaid : Prop := merkleShapeRow.holds Try.pinned (OpenSpec.ofChange merkleShapeSpec)

/-- ITS FALSE NEIGHBOUR: 'it returns false'. Refute it at one input. -/
def merkleShapeWrong : ChangeSpec := { name := "merkleShape", fn := fun _ => fun
  | [d1, d2] => { results := [.lit (.bool false)], args := [d1, d2] }
  | _ => none }
def MerkleShapeWrongFalsely : Prop := merkleShapeRow.holds Try.pinned (OpenSpec.ofChange merkleShapeWrong)

/-- 'asyncbftlaw05.MerkleJoins': WHATEVER THE INPUT: true; the input reads as it did. -/
def merkleJoinsSpec : ChangeSpec := { name := "merkleJoins", fn := fun _ => fun
  | [d1, d2, d3] => { results := [.lit (.bool true)], args := [d1, d2, d3] }
  | _ => none }
def merkleJoinsRow : OpenClaim := { program := "ytekghohjjecenaa", sum := "ecd78ca638a52bd5b9263346d3c2dda9f7d6d1482a6dcd7a8ef2264be8053fef", func := "asyncbft/asyncbftlaw05.MerkleJoins", spec := "merkleJoins", recurses := true, apart := false }
def MerkleJoinsSaid : Prop := merkleJoinsRow.holds Try.pinned (OpenSpec.ofChange merkleJoinsSpec)

/-- ITS FALSE NEIGHBOUR: 'it returns false'. Refute it at one input. -/
def merkleJoinsWrong : ChangeSpec := { name := "merkleJoins", fn := fun _ => fun
  | [d1, d2, d3] => { results := [.lit (.bool false)], args := [d1, d2, d3] }
  | _ => none }
def MerkleJoinsWrongFalsely : Prop := merkleJoinsRow.holds Try.pinned (OpenSpec.ofChange merkleJoinsWrong)

/-- 'asyncbftlaw05.MerkleLeaves': WHATEVER THE INPUT: true; the input reads as it did. -/
def merkleLeavesSpec : ChangeSpec := { name := "merkleLeaves", fn := fun _ => fun
  | [d1, d2, d3, d4, d5] => { results := [.lit (.bool true)], args := [d1, d2, d3, d4, d5] }
  | _ => none }
def merkleLeavesRow : OpenClaim := { program := "ytekghohjjecenaa", sum := "ecd78ca638a52bd5b9263346d3c2dda9f7d6d1482a6dcd7a8ef2264be8053fef", func := "asyncbft/asyncbftlaw05.MerkleLeaves", spec := "merkleLeaves", recurses := true, apart := false }
def MerkleLeavesSaid : Prop := merkleLeavesRow.holds Try.pinned (OpenSpec.ofChange merkleLeavesSpec)

/-- ITS FALSE NEIGHBOUR: 'it returns false'. Refute it at one input. -/
def merkleLeavesWrong : ChangeSpec := { name := "merkleLeaves", fn := fun _ => fun
  | [d1, d2, d3, d4, d5] => { results := [.lit (.bool false)], args := [d1, d2, d3, d4, d5] }
  | _ => none }
def MerkleLeavesWrongFalsely : Prop := merkleLeavesRow.holds Try.pinned (OpenSpec.ofChange merkleLeavesWrong)

/- THE SECOND FORM. 'bulk': how many values and letters a reading holds, each counted each time it is reached (what is shared counts as often as it is met; a slice's spare places count too). A statement '..UptoSaid' is the law's where the arguments, and the package variables that the reading takes, are together of bulk at most 1048576: NARROWER than '..Said'. Prove '..Said' where nothing that the law and all that it calls make is longer than what came in: it says more and counts as full. Else prove '..UptoSaid'. A law counts once. -/
mutual
def uptoBulk {H : Type} : DataW H → Nat
  | .lit (.string bytes) => bytes.length + 1
  | .lit _ => 1
  | .nil => 1
  | .ptr d => uptoBulk d + 1
  | .slice elems spare => uptoBulkAll elems + uptoBulkAll spare + 1
  | .agg parts => uptoBulkAll parts + 1
  | .iface _ d => uptoBulk d + 1
  | .map entries => uptoBulkEntries entries + 1
  | .held _ => 1
def uptoBulkAll {H : Type} : List (DataW H) → Nat
  | [] => 0
  | d :: r => uptoBulk d + uptoBulkAll r
def uptoBulkEntries {H : Type} : List (Lit × DataW H) → Nat
  | [] => 0
  | x :: r => uptoBulkEntry x + uptoBulkEntries r
def uptoBulkEntry {H : Type} : Lit × DataW H → Nat
  | (.string bytes, d) => bytes.length + uptoBulk d + 1
  | (_, d) => uptoBulk d + 1
 end
def uptoSmall : (H : Type) → List (DataW H) → Bool := fun _ ds => decide (uptoBulkAll ds ≤ 1048576)
def OpenSpec.upto (s : _root_.Go.ChangeSpec) : _root_.Go.OpenSpec := { _root_.Go.OpenSpec.ofChange s with cond := some uptoSmall }

/-- 'asyncbftlaw05.MerkleActs', WHERE WHAT IT READS IS OF BULK AT MOST 1048576: true; the input reads as it did. -/
def merkleActsUptoRow : OpenClaim := { program := "ytekghohjjecenaa", sum := "ecd78ca638a52bd5b9263346d3c2dda9f7d6d1482a6dcd7a8ef2264be8053fef", func := "asyncbft/asyncbftlaw05.MerkleActs", spec := "merkleActs", recurses := true, apart := false, narrowed := true }
def MerkleActsUptoSaid : Prop := merkleActsUptoRow.holds Try.pinned (OpenSpec.upto merkleActsSpec)

/-- 'asyncbftlaw05.MerkleBranches', WHERE WHAT IT READS IS OF BULK AT MOST 1048576: true; the input reads as it did. -/
def merkleBranchesUptoRow : OpenClaim := { program := "ytekghohjjecenaa", sum := "ecd78ca638a52bd5b9263346d3c2dda9f7d6d1482a6dcd7a8ef2264be8053fef", func := "asyncbft/asyncbftlaw05.MerkleBranches", spec := "merkleBranches", recurses := true, apart := false, narrowed := true }
def MerkleBranchesUptoSaid : Prop := merkleBranchesUptoRow.holds Try.pinned (OpenSpec.upto merkleBranchesSpec)

/-- 'asyncbftlaw05.MerkleChanges', WHERE WHAT IT READS IS OF BULK AT MOST 1048576: true; the input reads as it did. -/
def merkleChangesUptoRow : OpenClaim := { program := "ytekghohjjecenaa", sum := "ecd78ca638a52bd5b9263346d3c2dda9f7d6d1482a6dcd7a8ef2264be8053fef", func := "asyncbft/asyncbftlaw05.MerkleChanges", spec := "merkleChanges", recurses := true, apart := false, narrowed := true }
def MerkleChangesUptoSaid : Prop := merkleChangesUptoRow.holds Try.pinned (OpenSpec.upto merkleChangesSpec)

/-- 'asyncbftlaw05.MerkleShape', WHERE WHAT IT READS IS OF BULK AT MOST 1048576: true; the input reads as it did. -/
def merkleShapeUptoRow : OpenClaim := { program := "ytekghohjjecenaa", sum := "ecd78ca638a52bd5b9263346d3c2dda9f7d6d1482a6dcd7a8ef2264be8053fef", func := "asyncbft/asyncbftlaw05.MerkleShape", spec := "merkleShape", recurses := true, apart := false, narrowed := true }
def MerkleShapeUptoSaid : Prop := merkleShapeUptoRow.holds Try.pinned (OpenSpec.upto merkleShapeSpec)

/-- 'asyncbftlaw05.MerkleJoins', WHERE WHAT IT READS IS OF BULK AT MOST 1048576: true; the input reads as it did. -/
def merkleJoinsUptoRow : OpenClaim := { program := "ytekghohjjecenaa", sum := "ecd78ca638a52bd5b9263346d3c2dda9f7d6d1482a6dcd7a8ef2264be8053fef", func := "asyncbft/asyncbftlaw05.MerkleJoins", spec := "merkleJoins", recurses := true, apart := false, narrowed := true }
def MerkleJoinsUptoSaid : Prop := merkleJoinsUptoRow.holds Try.pinned (OpenSpec.upto merkleJoinsSpec)

/-- 'asyncbftlaw05.MerkleLeaves', WHERE WHAT IT READS IS OF BULK AT MOST 1048576: true; the input reads as it did. -/
def merkleLeavesUptoRow : OpenClaim := { program := "ytekghohjjecenaa", sum := "ecd78ca638a52bd5b9263346d3c2dda9f7d6d1482a6dcd7a8ef2264be8053fef", func := "asyncbft/asyncbftlaw05.MerkleLeaves", spec := "merkleLeaves", recurses := true, apart := false, narrowed := true }
def MerkleLeavesUptoSaid : Prop := merkleLeavesUptoRow.holds Try.pinned (OpenSpec.upto merkleLeavesSpec)

end Rows
end Go.Proofs.Ytekghohjjecenaa
