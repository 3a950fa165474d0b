/-
  No cell of these rows narrows 'for every input' (looked for: loops, veiled, ifaces, maps, wideKeys, modest, calm, conditions, laid).
  DERIVED. THE GIVEN ROWS OF THIS SEAT. 5 by the template 'for every input the law returns true; each argument reads behind the call as it read before'; 0 by the template 'total and deterministic' (their statements: YtmddapdeefdjgaaTotals.lean).
  GIVEN WITH THE SEED: the statements are not yours to turn. If you find one false, say at which input.
  Laid BY PROGRAM, IN A SANDBOX (cutbox-rows.mjs): the forced cells as the released guide's own fill.sh prints them over the translation 8d05a75ed00bf8f8… (all of the seat's roots in one cut). By AI agents, Wed Nov 11 2026. No macro, syntax, notation, axiom, sorry.
-/
import Derived.Test.YtmddapdeefdjgaaChecked
import GoSem.Claim
import GoSem.ClaimJoined
import GoSem.ClaimMapViews
import Derived.JoinedTies
import Derived.KernelRfl
namespace Go.Proofs.Ytmddapdeefdjgaa
/- THE CELL 'sum', in the pinned program and in every row, IS THE sha256 OF THE DUMP (.gsa) THAT YtmddapdeefdjgaaProg.lean LOADS. Nothing in Lean hashes anything: it is a label: what it is worth is what the hold of that sum in a sandbox is worth. -/
noncomputable def Try.pinned : Pinned := { name := "ytmddapdeefdjgaa", sum := "8d05a75ed00bf8f89a68066c477d860d1a943559d2bcf3d0924db9df5d1be962", checked := Try.checked }
namespace Rows
def none {H : Type} : Left H := { results := [], args := [] }

/-- 'asyncbftlaw06.OnetimeActs': WHATEVER THE INPUT: true; the input reads as it did. -/
def onetimeActsSpec : ChangeSpec := { name := "onetimeActs", fn := fun _ => fun
  | [d1, d2, d3, d4, d5, d6] => { results := [.lit (.bool true)], args := [d1, d2, d3, d4, d5, d6] }
  | _ => none }
def onetimeActsRow : OpenClaim := { program := "ytmddapdeefdjgaa", sum := "8d05a75ed00bf8f89a68066c477d860d1a943559d2bcf3d0924db9df5d1be962", func := "asyncbft/asyncbftlaw06.OnetimeActs", spec := "onetimeActs", apart := false }
def OnetimeActsSaid : Prop := onetimeActsRow.holds Try.pinned (OpenSpec.ofChange onetimeActsSpec)

/-- ITS FALSE NEIGHBOUR: 'it returns false'. Refute it at one input. -/
def onetimeActsWrong : ChangeSpec := { name := "onetimeActs", fn := fun _ => fun
  | [d1, d2, d3, d4, d5, d6] => { results := [.lit (.bool false)], args := [d1, d2, d3, d4, d5, d6] }
  | _ => none }
def OnetimeActsWrongFalsely : Prop := onetimeActsRow.holds Try.pinned (OpenSpec.ofChange onetimeActsWrong)

/-- 'asyncbftlaw06.OnetimeSigns': WHATEVER THE INPUT: true; the input reads as it did. -/
def onetimeSignsSpec : ChangeSpec := { name := "onetimeSigns", fn := fun _ => fun
  | [d1, d2, d3] => { results := [.lit (.bool true)], args := [d1, d2, d3] }
  | _ => none }
def onetimeSignsRow : OpenClaim := { program := "ytmddapdeefdjgaa", sum := "8d05a75ed00bf8f89a68066c477d860d1a943559d2bcf3d0924db9df5d1be962", func := "asyncbft/asyncbftlaw06.OnetimeSigns", spec := "onetimeSigns", apart := false }
def OnetimeSignsSaid : Prop := onetimeSignsRow.holds Try.pinned (OpenSpec.ofChange onetimeSignsSpec)

/-- ITS FALSE NEIGHBOUR: 'it returns false'. Refute it at one input. -/
def onetimeSignsWrong : ChangeSpec := { name := "onetimeSigns", fn := fun _ => fun
  | [d1, d2, d3] => { results := [.lit (.bool false)], args := [d1, d2, d3] }
  | _ => none }
def OnetimeSignsWrongFalsely : Prop := onetimeSignsRow.holds Try.pinned (OpenSpec.ofChange onetimeSignsWrong)

/-- 'asyncbftlaw06.OnetimeForward': WHATEVER THE INPUT: true; the input reads as it did. -/
def onetimeForwardSpec : ChangeSpec := { name := "onetimeForward", fn := fun _ => fun
  | [d1, d2, d3] => { results := [.lit (.bool true)], args := [d1, d2, d3] }
  | _ => none }
def onetimeForwardRow : OpenClaim := { program := "ytmddapdeefdjgaa", sum := "8d05a75ed00bf8f89a68066c477d860d1a943559d2bcf3d0924db9df5d1be962", func := "asyncbft/asyncbftlaw06.OnetimeForward", spec := "onetimeForward", apart := false }
def OnetimeForwardSaid : Prop := onetimeForwardRow.holds Try.pinned (OpenSpec.ofChange onetimeForwardSpec)

/-- ITS FALSE NEIGHBOUR: 'it returns false'. Refute it at one input. -/
def onetimeForwardWrong : ChangeSpec := { name := "onetimeForward", fn := fun _ => fun
  | [d1, d2, d3] => { results := [.lit (.bool false)], args := [d1, d2, d3] }
  | _ => none }
def OnetimeForwardWrongFalsely : Prop := onetimeForwardRow.holds Try.pinned (OpenSpec.ofChange onetimeForwardWrong)

/-- 'asyncbftlaw06.OnetimeChains': WHATEVER THE INPUT: true; the input reads as it did. -/
def onetimeChainsSpec : ChangeSpec := { name := "onetimeChains", fn := fun _ => fun
  | [d1, d2, d3, d4, d5, d6] => { results := [.lit (.bool true)], args := [d1, d2, d3, d4, d5, d6] }
  | _ => none }
def onetimeChainsRow : OpenClaim := { program := "ytmddapdeefdjgaa", sum := "8d05a75ed00bf8f89a68066c477d860d1a943559d2bcf3d0924db9df5d1be962", func := "asyncbft/asyncbftlaw06.OnetimeChains", spec := "onetimeChains", apart := false }
def OnetimeChainsSaid : Prop := onetimeChainsRow.holds Try.pinned (OpenSpec.ofChange onetimeChainsSpec)

/-- ITS FALSE NEIGHBOUR: 'it returns false'. Refute it at one input. -/
def onetimeChainsWrong : ChangeSpec := { name := "onetimeChains", fn := fun _ => fun
  | [d1, d2, d3, d4, d5, d6] => { results := [.lit (.bool false)], args := [d1, d2, d3, d4, d5, d6] }
  | _ => none }
def OnetimeChainsWrongFalsely : Prop := onetimeChainsRow.holds Try.pinned (OpenSpec.ofChange onetimeChainsWrong)

/-- 'asyncbftlaw06.OnetimeKeys': WHATEVER THE INPUT: true; the input reads as it did. -/
def onetimeKeysSpec : ChangeSpec := { name := "onetimeKeys", fn := fun _ => fun
  | [d1, d2, d3] => { results := [.lit (.bool true)], args := [d1, d2, d3] }
  | _ => none }
def onetimeKeysRow : OpenClaim := { program := "ytmddapdeefdjgaa", sum := "8d05a75ed00bf8f89a68066c477d860d1a943559d2bcf3d0924db9df5d1be962", func := "asyncbft/asyncbftlaw06.OnetimeKeys", spec := "onetimeKeys", apart := false }
def OnetimeKeysSaid : Prop := onetimeKeysRow.holds Try.pinned (OpenSpec.ofChange onetimeKeysSpec)

/-- ITS FALSE NEIGHBOUR: 'it returns false'. Refute it at one input. -/
def onetimeKeysWrong : ChangeSpec := { name := "onetimeKeys", fn := fun _ => fun
  | [d1, d2, d3] => { results := [.lit (.bool false)], args := [d1, d2, d3] }
  | _ => none }
def OnetimeKeysWrongFalsely : Prop := onetimeKeysRow.holds Try.pinned (OpenSpec.ofChange onetimeKeysWrong)

/- THE SECOND FORM. 'bulk': how many values and letters a reading holds, each counted each time it is reached (what is shared counts as often as it is met; a slice's spare places count too). A statement '..UptoSaid' is the law's where the arguments, and the package variables that the reading takes, are together of bulk at most 1048576: NARROWER than '..Said'. Prove '..Said' where nothing that the law and all that it calls make is longer than what came in: it says more and counts as full. Else prove '..UptoSaid'. A law counts once. -/
mutual
def uptoBulk {H : Type} : DataW H → Nat
  | .lit (.string bytes) => bytes.length + 1
  | .lit _ => 1
  | .nil => 1
  | .ptr d => uptoBulk d + 1
  | .slice elems spare => uptoBulkAll elems + uptoBulkAll spare + 1
  | .agg parts => uptoBulkAll parts + 1
  | .iface _ d => uptoBulk d + 1
  | .map entries => uptoBulkEntries entries + 1
  | .held _ => 1
def uptoBulkAll {H : Type} : List (DataW H) → Nat
  | [] => 0
  | d :: r => uptoBulk d + uptoBulkAll r
def uptoBulkEntries {H : Type} : List (Lit × DataW H) → Nat
  | [] => 0
  | x :: r => uptoBulkEntry x + uptoBulkEntries r
def uptoBulkEntry {H : Type} : Lit × DataW H → Nat
  | (.string bytes, d) => bytes.length + uptoBulk d + 1
  | (_, d) => uptoBulk d + 1
 end
def uptoSmall : (H : Type) → List (DataW H) → Bool := fun _ ds => decide (uptoBulkAll ds ≤ 1048576)
def OpenSpec.upto (s : _root_.Go.ChangeSpec) : _root_.Go.OpenSpec := { _root_.Go.OpenSpec.ofChange s with cond := some uptoSmall }

/-- 'asyncbftlaw06.OnetimeActs', WHERE WHAT IT READS IS OF BULK AT MOST 1048576: true; the input reads as it did. -/
def onetimeActsUptoRow : OpenClaim := { program := "ytmddapdeefdjgaa", sum := "8d05a75ed00bf8f89a68066c477d860d1a943559d2bcf3d0924db9df5d1be962", func := "asyncbft/asyncbftlaw06.OnetimeActs", spec := "onetimeActs", apart := false, narrowed := true }
def OnetimeActsUptoSaid : Prop := onetimeActsUptoRow.holds Try.pinned (OpenSpec.upto onetimeActsSpec)

/-- 'asyncbftlaw06.OnetimeSigns', WHERE WHAT IT READS IS OF BULK AT MOST 1048576: true; the input reads as it did. -/
def onetimeSignsUptoRow : OpenClaim := { program := "ytmddapdeefdjgaa", sum := "8d05a75ed00bf8f89a68066c477d860d1a943559d2bcf3d0924db9df5d1be962", func := "asyncbft/asyncbftlaw06.OnetimeSigns", spec := "onetimeSigns", apart := false, narrowed := true }
def OnetimeSignsUptoSaid : Prop := onetimeSignsUptoRow.holds Try.pinned (OpenSpec.upto onetimeSignsSpec)

/-- 'asyncbftlaw06.OnetimeForward', WHERE WHAT IT READS IS OF BULK AT MOST 1048576: true; the input reads as it did. -/
def onetimeForwardUptoRow : OpenClaim := { program := "ytmddapdeefdjgaa", sum := "8d05a75ed00bf8f89a68066c477d860d1a943559d2bcf3d0924db9df5d1be962", func := "asyncbft/asyncbftlaw06.OnetimeForward", spec := "onetimeForward", apart := false, narrowed := true }
def OnetimeForwardUptoSaid : Prop := onetimeForwardUptoRow.holds Try.pinned (OpenSpec.upto onetimeForwardSpec)

/-- 'asyncbftlaw06.OnetimeChains', WHERE WHAT IT READS IS OF BULK AT MOST 1048576: true; the input reads as it did. -/
def onetimeChainsUptoRow : OpenClaim := { program := "ytmddapdeefdjgaa", sum := "8d05a75ed00bf8f89a68066c477d860d1a943559d2bcf3d0924db9df5d1be962", func := "asyncbft/asyncbftlaw06.OnetimeChains", spec := "onetimeChains", apart := false, narrowed := true }
def OnetimeChainsUptoSaid : Prop := onetimeChainsUptoRow.holds Try.pinned (OpenSpec.upto onetimeChainsSpec)

/-- 'asyncbftlaw06.OnetimeKeys', WHERE WHAT IT READS IS OF BULK AT MOST 1048576: true; the input reads as it did. -/
def onetimeKeysUptoRow : OpenClaim := { program := "ytmddapdeefdjgaa", sum := "8d05a75ed00bf8f89a68066c477d860d1a943559d2bcf3d0924db9df5d1be962", func := "asyncbft/asyncbftlaw06.OnetimeKeys", spec := "onetimeKeys", apart := false, narrowed := true }
def OnetimeKeysUptoSaid : Prop := onetimeKeysUptoRow.holds Try.pinned (OpenSpec.upto onetimeKeysSpec)

end Rows
end Go.Proofs.Ytmddapdeefdjgaa
