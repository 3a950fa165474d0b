/-
  No cell of these rows narrows 'for every input' (looked for: loops, veiled, ifaces, maps, wideKeys, modest, calm, conditions, laid).
  DERIVED. THE GIVEN ROWS OF THIS SEAT. 4 by the template 'for every input the law returns true; each argument reads behind the call as it read before'; 0 by the template 'total and deterministic' (their statements: YthkkjocmglcjnaaTotals.lean).
  GIVEN WITH THE SEED: the statements are not yours to turn. If you find one false, say at which input.
  Laid BY PROGRAM, IN A SANDBOX (cutbox-rows.mjs): the forced cells as the released guide's own fill.sh prints them over the translation 523d1c136259c4f1… (all of the seat's roots in one cut). By AI agents, Wed Nov 11 2026. No macro, syntax, notation, axiom, sorry.
-/
import Derived.Test.YthkkjocmglcjnaaChecked
import GoSem.Claim
import GoSem.ClaimJoined
import GoSem.ClaimMapViews
import Derived.JoinedTies
import Derived.KernelRfl
namespace Go.Proofs.Ythkkjocmglcjnaa
/- THE CELL 'sum', in the pinned program and in every row, IS THE sha256 OF THE DUMP (.gsa) THAT YthkkjocmglcjnaaProg.lean LOADS. Nothing in Lean hashes anything: it is a label: what it is worth is what the hold of that sum in a sandbox is worth. -/
noncomputable def Try.pinned : Pinned := { name := "ythkkjocmglcjnaa", sum := "523d1c136259c4f1616a17fed68841ee831b5047ee75c84e429f3a7d1d8c812f", checked := Try.checked }
namespace Rows
def none {H : Type} : Left H := { results := [], args := [] }

/-- 'asyncbftlaw07.KeyringActs': WHATEVER THE INPUT: true; the input reads as it did. -/
def keyringActsSpec : ChangeSpec := { name := "keyringActs", fn := fun _ => fun
  | [d1, d2, d3, d4, d5, d6, d7, d8] => { results := [.lit (.bool true)], args := [d1, d2, d3, d4, d5, d6, d7, d8] }
  | _ => none }
def keyringActsRow : OpenClaim := { program := "ythkkjocmglcjnaa", sum := "523d1c136259c4f1616a17fed68841ee831b5047ee75c84e429f3a7d1d8c812f", func := "asyncbft/asyncbftlaw07.KeyringActs", spec := "keyringActs", recurses := true, apart := false }
def KeyringActsSaid : Prop := keyringActsRow.holds Try.pinned (OpenSpec.ofChange keyringActsSpec)

/-- ITS FALSE NEIGHBOUR: 'it returns false'. Refute it at one input. -/
def keyringActsWrong : ChangeSpec := { name := "keyringActs", fn := fun _ => fun
  | [d1, d2, d3, d4, d5, d6, d7, d8] => { results := [.lit (.bool false)], args := [d1, d2, d3, d4, d5, d6, d7, d8] }
  | _ => none }
def KeyringActsWrongFalsely : Prop := keyringActsRow.holds Try.pinned (OpenSpec.ofChange keyringActsWrong)

/-- 'asyncbftlaw07.KeyringSigns': WHATEVER THE INPUT: true; the input reads as it did. -/
def keyringSignsSpec : ChangeSpec := { name := "keyringSigns", fn := fun _ => fun
  | [d1, d2, d3] => { results := [.lit (.bool true)], args := [d1, d2, d3] }
  | _ => none }
def keyringSignsRow : OpenClaim := { program := "ythkkjocmglcjnaa", sum := "523d1c136259c4f1616a17fed68841ee831b5047ee75c84e429f3a7d1d8c812f", func := "asyncbft/asyncbftlaw07.KeyringSigns", spec := "keyringSigns", recurses := true, apart := false }
def KeyringSignsSaid : Prop := keyringSignsRow.holds Try.pinned (OpenSpec.ofChange keyringSignsSpec)

/-- ITS FALSE NEIGHBOUR: 'it returns false'. Refute it at one input. -/
def keyringSignsWrong : ChangeSpec := { name := "keyringSigns", fn := fun _ => fun
  | [d1, d2, d3] => { results := [.lit (.bool false)], args := [d1, d2, d3] }
  | _ => none }
def KeyringSignsWrongFalsely : Prop := keyringSignsRow.holds Try.pinned (OpenSpec.ofChange keyringSignsWrong)

/-- 'asyncbftlaw07.KeyringRefuses': WHATEVER THE INPUT: true; the input reads as it did. -/
def keyringRefusesSpec : ChangeSpec := { name := "keyringRefuses", fn := fun _ => fun
  | [d1, d2, d3, d4, d5] => { results := [.lit (.bool true)], args := [d1, d2, d3, d4, d5] }
  | _ => none }
def keyringRefusesRow : OpenClaim := { program := "ythkkjocmglcjnaa", sum := "523d1c136259c4f1616a17fed68841ee831b5047ee75c84e429f3a7d1d8c812f", func := "asyncbft/asyncbftlaw07.KeyringRefuses", spec := "keyringRefuses", recurses := true, apart := false }
def KeyringRefusesSaid : Prop := keyringRefusesRow.holds Try.pinned (OpenSpec.ofChange keyringRefusesSpec)

/-- ITS FALSE NEIGHBOUR: 'it returns false'. Refute it at one input. -/
def keyringRefusesWrong : ChangeSpec := { name := "keyringRefuses", fn := fun _ => fun
  | [d1, d2, d3, d4, d5] => { results := [.lit (.bool false)], args := [d1, d2, d3, d4, d5] }
  | _ => none }
def KeyringRefusesWrongFalsely : Prop := keyringRefusesRow.holds Try.pinned (OpenSpec.ofChange keyringRefusesWrong)

/-- 'asyncbftlaw07.KeyringLeaves': WHATEVER THE INPUT: true; the input reads as it did. -/
def keyringLeavesSpec : ChangeSpec := { name := "keyringLeaves", fn := fun _ => fun
  | [d] => { results := [.lit (.bool true)], args := [d] }
  | _ => none }
def keyringLeavesRow : OpenClaim := { program := "ythkkjocmglcjnaa", sum := "523d1c136259c4f1616a17fed68841ee831b5047ee75c84e429f3a7d1d8c812f", func := "asyncbft/asyncbftlaw07.KeyringLeaves", spec := "keyringLeaves", recurses := true, apart := false }
def KeyringLeavesSaid : Prop := keyringLeavesRow.holds Try.pinned (OpenSpec.ofChange keyringLeavesSpec)

/-- ITS FALSE NEIGHBOUR: 'it returns false'. Refute it at one input. -/
def keyringLeavesWrong : ChangeSpec := { name := "keyringLeaves", fn := fun _ => fun
  | [d] => { results := [.lit (.bool false)], args := [d] }
  | _ => none }
def KeyringLeavesWrongFalsely : Prop := keyringLeavesRow.holds Try.pinned (OpenSpec.ofChange keyringLeavesWrong)

/- THE SECOND FORM. 'bulk': how many values and letters a reading holds, each counted each time it is reached (what is shared counts as often as it is met; a slice's spare places count too). A statement '..UptoSaid' is the law's where the arguments, and the package variables that the reading takes, are together of bulk at most 1048576: NARROWER than '..Said'. Prove '..Said' where nothing that the law and all that it calls make is longer than what came in: it says more and counts as full. Else prove '..UptoSaid'. A law counts once. -/
mutual
def uptoBulk {H : Type} : DataW H → Nat
  | .lit (.string bytes) => bytes.length + 1
  | .lit _ => 1
  | .nil => 1
  | .ptr d => uptoBulk d + 1
  | .slice elems spare => uptoBulkAll elems + uptoBulkAll spare + 1
  | .agg parts => uptoBulkAll parts + 1
  | .iface _ d => uptoBulk d + 1
  | .map entries => uptoBulkEntries entries + 1
  | .held _ => 1
def uptoBulkAll {H : Type} : List (DataW H) → Nat
  | [] => 0
  | d :: r => uptoBulk d + uptoBulkAll r
def uptoBulkEntries {H : Type} : List (Lit × DataW H) → Nat
  | [] => 0
  | x :: r => uptoBulkEntry x + uptoBulkEntries r
def uptoBulkEntry {H : Type} : Lit × DataW H → Nat
  | (.string bytes, d) => bytes.length + uptoBulk d + 1
  | (_, d) => uptoBulk d + 1
 end
def uptoSmall : (H : Type) → List (DataW H) → Bool := fun _ ds => decide (uptoBulkAll ds ≤ 1048576)
def OpenSpec.upto (s : _root_.Go.ChangeSpec) : _root_.Go.OpenSpec := { _root_.Go.OpenSpec.ofChange s with cond := some uptoSmall }

/-- 'asyncbftlaw07.KeyringActs', WHERE WHAT IT READS IS OF BULK AT MOST 1048576: true; the input reads as it did. -/
def keyringActsUptoRow : OpenClaim := { program := "ythkkjocmglcjnaa", sum := "523d1c136259c4f1616a17fed68841ee831b5047ee75c84e429f3a7d1d8c812f", func := "asyncbft/asyncbftlaw07.KeyringActs", spec := "keyringActs", recurses := true, apart := false, narrowed := true }
def KeyringActsUptoSaid : Prop := keyringActsUptoRow.holds Try.pinned (OpenSpec.upto keyringActsSpec)

/-- 'asyncbftlaw07.KeyringSigns', WHERE WHAT IT READS IS OF BULK AT MOST 1048576: true; the input reads as it did. -/
def keyringSignsUptoRow : OpenClaim := { program := "ythkkjocmglcjnaa", sum := "523d1c136259c4f1616a17fed68841ee831b5047ee75c84e429f3a7d1d8c812f", func := "asyncbft/asyncbftlaw07.KeyringSigns", spec := "keyringSigns", recurses := true, apart := false, narrowed := true }
def KeyringSignsUptoSaid : Prop := keyringSignsUptoRow.holds Try.pinned (OpenSpec.upto keyringSignsSpec)

/-- 'asyncbftlaw07.KeyringRefuses', WHERE WHAT IT READS IS OF BULK AT MOST 1048576: true; the input reads as it did. -/
def keyringRefusesUptoRow : OpenClaim := { program := "ythkkjocmglcjnaa", sum := "523d1c136259c4f1616a17fed68841ee831b5047ee75c84e429f3a7d1d8c812f", func := "asyncbft/asyncbftlaw07.KeyringRefuses", spec := "keyringRefuses", recurses := true, apart := false, narrowed := true }
def KeyringRefusesUptoSaid : Prop := keyringRefusesUptoRow.holds Try.pinned (OpenSpec.upto keyringRefusesSpec)

/-- 'asyncbftlaw07.KeyringLeaves', WHERE WHAT IT READS IS OF BULK AT MOST 1048576: true; the input reads as it did. -/
def keyringLeavesUptoRow : OpenClaim := { program := "ythkkjocmglcjnaa", sum := "523d1c136259c4f1616a17fed68841ee831b5047ee75c84e429f3a7d1d8c812f", func := "asyncbft/asyncbftlaw07.KeyringLeaves", spec := "keyringLeaves", recurses := true, apart := false, narrowed := true }
def KeyringLeavesUptoSaid : Prop := keyringLeavesUptoRow.holds Try.pinned (OpenSpec.upto keyringLeavesSpec)

end Rows
end Go.Proofs.Ythkkjocmglcjnaa
