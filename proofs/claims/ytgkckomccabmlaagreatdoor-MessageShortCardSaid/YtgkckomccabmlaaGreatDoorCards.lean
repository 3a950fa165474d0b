/-
  DERIVED. GIVEN WITH THE SEED: THE CARDS: each row of YtgkckomccabmlaaGreatDoorRows.lean that lists a variable, with what it lists TIED to the program's text (the seventh form; the later family's looks); each row that meets fmt, with fmt's text TOLD by the authors' own Lean function (tested against real Go, not proved from fmt's source: count such statements apart). THE CARD IS WHAT COUNTS. Prove the row's statement (the work); the ties are given (YtgkckomccabmlaaGreatDoorTie.lean); close each card by the builder's one call (the guide's Derived/Test/ToyasCard.lean, 'card_holds'). Laid BY PROGRAM, IN A SANDBOX (cutbox-door.mjs). By AI agents, Wed Nov 11 2026. No macro, syntax, notation, axiom, sorry.
-/
import Derived.Test.YtgkckomccabmlaaGreatDoorRows
import GoSem.ClaimSeven
namespace Go.Proofs.YtgkckomccabmlaaGreatDoor
namespace Rows

/-- THE TIED CARD OF 'asyncbftlaw09.MessageActs'. -/
def messageActsCard : Claim7 := { stood := { row := messageActsRow, standIns := [], harness := (true, "3dc0e395adc1d4b37d62716961aa3de5adcbd49c2f8c26a0aa8d55aeb1a13b86"), looks := false }, kinds := [], alts := [], laidByText := true, laidKinds := [.data, .data, .data, .data], laidTests := true, laidLooks := .later }
def MessageActsCardSaid : Prop := Claim7.holds Tryz.pinned (.plain (OpenSpec.ofChange messageActsSpec)) messageActsCard

/-- THE TIED CARD OF 'asyncbftlaw09.MessageBytes'. -/
def messageBytesCard : Claim7 := { stood := { row := messageBytesRow, standIns := [], harness := (true, "3dc0e395adc1d4b37d62716961aa3de5adcbd49c2f8c26a0aa8d55aeb1a13b86"), looks := false }, kinds := [], alts := [], laidByText := true, laidKinds := [.data, .data, .data, .data], laidTests := true, laidLooks := .later }
def MessageBytesCardSaid : Prop := Claim7.holds Tryz.pinned (.plain (OpenSpec.ofChange messageBytesSpec)) messageBytesCard

/-- THE TIED CARD OF 'asyncbftlaw09.MessageBack'. -/
def messageBackCard : Claim7 := { stood := { row := messageBackRow, standIns := [], harness := (true, "3dc0e395adc1d4b37d62716961aa3de5adcbd49c2f8c26a0aa8d55aeb1a13b86"), looks := false }, kinds := [], alts := [], laidByText := true, laidKinds := [.data, .data, .data, .data], laidTests := true, laidLooks := .later }
def MessageBackCardSaid : Prop := Claim7.holds Tryz.pinned (.plain (OpenSpec.ofChange messageBackSpec)) messageBackCard

/-- THE TIED CARD OF 'asyncbftlaw09.MessageCanonical'. -/
def messageCanonicalCard : Claim7 := { stood := { row := messageCanonicalRow, standIns := [], harness := (true, "3dc0e395adc1d4b37d62716961aa3de5adcbd49c2f8c26a0aa8d55aeb1a13b86"), looks := false }, kinds := [], alts := [], laidByText := true, laidKinds := [.data, .data, .data, .data], laidTests := true, laidLooks := .later }
def MessageCanonicalCardSaid : Prop := Claim7.holds Tryz.pinned (.plain (OpenSpec.ofChange messageCanonicalSpec)) messageCanonicalCard

/-- THE TIED CARD OF 'asyncbftlaw09.MessageShort'. -/
def messageShortCard : Claim7 := { stood := { row := messageShortRow, standIns := [], harness := (true, "3dc0e395adc1d4b37d62716961aa3de5adcbd49c2f8c26a0aa8d55aeb1a13b86"), looks := false }, kinds := [], alts := [], laidByText := true, laidKinds := [.data, .data, .data, .data], laidTests := true, laidLooks := .later }
def MessageShortCardSaid : Prop := Claim7.holds Tryz.pinned (.plain (OpenSpec.ofChange messageShortSpec)) messageShortCard

/-- THE SECOND FORM's CARD OF 'asyncbftlaw09.MessageActs'. -/
def messageActsUptoCard : Claim7 := { stood := { row := messageActsUptoRow, standIns := [], harness := (true, "3dc0e395adc1d4b37d62716961aa3de5adcbd49c2f8c26a0aa8d55aeb1a13b86"), looks := false }, kinds := [], alts := [], laidByText := true, laidKinds := [.data, .data, .data, .data], laidTests := true, laidLooks := .later }
def MessageActsUptoCardSaid : Prop := Claim7.holds Tryz.pinned (.plain (OpenSpec.upto messageActsSpec)) messageActsUptoCard

/-- THE SECOND FORM's CARD OF 'asyncbftlaw09.MessageBytes'. -/
def messageBytesUptoCard : Claim7 := { stood := { row := messageBytesUptoRow, standIns := [], harness := (true, "3dc0e395adc1d4b37d62716961aa3de5adcbd49c2f8c26a0aa8d55aeb1a13b86"), looks := false }, kinds := [], alts := [], laidByText := true, laidKinds := [.data, .data, .data, .data], laidTests := true, laidLooks := .later }
def MessageBytesUptoCardSaid : Prop := Claim7.holds Tryz.pinned (.plain (OpenSpec.upto messageBytesSpec)) messageBytesUptoCard

/-- THE SECOND FORM's CARD OF 'asyncbftlaw09.MessageBack'. -/
def messageBackUptoCard : Claim7 := { stood := { row := messageBackUptoRow, standIns := [], harness := (true, "3dc0e395adc1d4b37d62716961aa3de5adcbd49c2f8c26a0aa8d55aeb1a13b86"), looks := false }, kinds := [], alts := [], laidByText := true, laidKinds := [.data, .data, .data, .data], laidTests := true, laidLooks := .later }
def MessageBackUptoCardSaid : Prop := Claim7.holds Tryz.pinned (.plain (OpenSpec.upto messageBackSpec)) messageBackUptoCard

/-- THE SECOND FORM's CARD OF 'asyncbftlaw09.MessageCanonical'. -/
def messageCanonicalUptoCard : Claim7 := { stood := { row := messageCanonicalUptoRow, standIns := [], harness := (true, "3dc0e395adc1d4b37d62716961aa3de5adcbd49c2f8c26a0aa8d55aeb1a13b86"), looks := false }, kinds := [], alts := [], laidByText := true, laidKinds := [.data, .data, .data, .data], laidTests := true, laidLooks := .later }
def MessageCanonicalUptoCardSaid : Prop := Claim7.holds Tryz.pinned (.plain (OpenSpec.upto messageCanonicalSpec)) messageCanonicalUptoCard

/-- THE SECOND FORM's CARD OF 'asyncbftlaw09.MessageShort'. -/
def messageShortUptoCard : Claim7 := { stood := { row := messageShortUptoRow, standIns := [], harness := (true, "3dc0e395adc1d4b37d62716961aa3de5adcbd49c2f8c26a0aa8d55aeb1a13b86"), looks := false }, kinds := [], alts := [], laidByText := true, laidKinds := [.data, .data, .data, .data], laidTests := true, laidLooks := .later }
def MessageShortUptoCardSaid : Prop := Claim7.holds Tryz.pinned (.plain (OpenSpec.upto messageShortSpec)) messageShortUptoCard
end Rows
end Go.Proofs.YtgkckomccabmlaaGreatDoor
