/-
  DERIVED. GIVEN WITH THE SEED: THE CARDS: each row of YtojomdlbijlgjaaDoorRows.lean that lists a variable, with what it lists TIED to the program's text (the seventh form; the later family's looks); each row that meets fmt, with fmt's text TOLD by the authors' own Lean function (tested against real Go, not proved from fmt's source: count such statements apart). THE CARD IS WHAT COUNTS. Prove the row's statement (the work); the ties are given (YtojomdlbijlgjaaDoorTie.lean); close each card by the builder's one call (the guide's Derived/Test/ToyasCard.lean, 'card_holds'). Laid BY PROGRAM, IN A SANDBOX (cutbox-door.mjs). By AI agents, Wed Nov 11 2026. No macro, syntax, notation, axiom, sorry.
-/
import Derived.Test.YtojomdlbijlgjaaDoorRows
import GoSem.ClaimSeven
namespace Go.Proofs.YtojomdlbijlgjaaDoor
namespace Rows

/-- THE TIED CARD OF 'asyncbftlaw09.MessageLimits'. -/
def messageLimitsCard : Claim7 := { stood := { row := messageLimitsRow, standIns := [], harness := (true, "9a72c6e7ef3c7d7a0d99e8d5de7ebb1836c36e591edcb714a524d0f62d224ff9"), looks := false }, kinds := [], alts := [], laidByText := true, laidKinds := [.data, .data, .data, .data], laidTests := true, laidLooks := .later }
def MessageLimitsCardSaid : Prop := Claim7.holds Tryd.pinned (.plain (OpenSpec.ofChange messageLimitsSpec)) messageLimitsCard

/-- THE SECOND FORM's CARD OF 'asyncbftlaw09.MessageLimits'. -/
def messageLimitsUptoCard : Claim7 := { stood := { row := messageLimitsUptoRow, standIns := [], harness := (true, "9a72c6e7ef3c7d7a0d99e8d5de7ebb1836c36e591edcb714a524d0f62d224ff9"), looks := false }, kinds := [], alts := [], laidByText := true, laidKinds := [.data, .data, .data, .data], laidTests := true, laidLooks := .later }
def MessageLimitsUptoCardSaid : Prop := Claim7.holds Tryd.pinned (.plain (OpenSpec.upto messageLimitsSpec)) messageLimitsUptoCard
end Rows
end Go.Proofs.YtojomdlbijlgjaaDoor
