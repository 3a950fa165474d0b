/-
  DERIVED. GIVEN WITH THE SEED: THE CARDS: each row of YtbgkcelihemmjaaDoorRows.lean that lists a variable, with what it lists TIED to the program's text (the seventh form; the later family's looks); each row that meets fmt, with fmt's text TOLD by the authors' own Lean function (tested against real Go, not proved from fmt's source: count such statements apart). THE CARD IS WHAT COUNTS. Prove the row's statement (the work); the ties are given (YtbgkcelihemmjaaDoorTie.lean); close each card by the builder's one call (the guide's Derived/Test/ToyasCard.lean, 'card_holds'). Laid BY PROGRAM, IN A SANDBOX (cutbox-door.mjs). By AI agents, Wed Nov 11 2026. No macro, syntax, notation, axiom, sorry.
-/
import Derived.Test.YtbgkcelihemmjaaDoorRows
import GoSem.ClaimSeven
namespace Go.Proofs.YtbgkcelihemmjaaDoor
namespace Rows

/-- THE TIED CARD OF 'asyncbftlaw04.DigestActs'. -/
def digestActsCard : Claim7 := { stood := { row := digestActsRow, standIns := [], harness := (true, "deea4325e3265295cc0b5400365bb58f953b1d6fe794e121c05cb9efeba6a8f3"), looks := false }, kinds := [], alts := [], laidByText := true, laidKinds := [.data, .data, .data], laidTests := true, laidLooks := .later }
def DigestActsCardSaid : Prop := Claim7.holds Tryd.pinned (.plain (OpenSpec.ofChange digestActsSpec)) digestActsCard

/-- THE TIED CARD OF 'asyncbftlaw04.DigestMixes'. -/
def digestMixesCard : Claim7 := { stood := { row := digestMixesRow, standIns := [], harness := (true, "deea4325e3265295cc0b5400365bb58f953b1d6fe794e121c05cb9efeba6a8f3"), looks := false }, kinds := [], alts := [], laidByText := true, laidKinds := [.data, .data, .data], laidTests := true, laidLooks := .later }
def DigestMixesCardSaid : Prop := Claim7.holds Tryd.pinned (.plain (OpenSpec.ofChange digestMixesSpec)) digestMixesCard

/-- THE TIED CARD OF 'asyncbftlaw04.DigestWords'. -/
def digestWordsCard : Claim7 := { stood := { row := digestWordsRow, standIns := [], harness := (true, "deea4325e3265295cc0b5400365bb58f953b1d6fe794e121c05cb9efeba6a8f3"), looks := false }, kinds := [], alts := [], laidByText := true, laidKinds := [.data, .data, .data], laidTests := true, laidLooks := .later }
def DigestWordsCardSaid : Prop := Claim7.holds Tryd.pinned (.plain (OpenSpec.ofChange digestWordsSpec)) digestWordsCard

/-- THE TIED CARD OF 'asyncbftlaw04.DigestLists'. -/
def digestListsCard : Claim7 := { stood := { row := digestListsRow, standIns := [], harness := (true, "deea4325e3265295cc0b5400365bb58f953b1d6fe794e121c05cb9efeba6a8f3"), looks := false }, kinds := [], alts := [], laidByText := true, laidKinds := [.data, .data, .data], laidTests := true, laidLooks := .later }
def DigestListsCardSaid : Prop := Claim7.holds Tryd.pinned (.plain (OpenSpec.ofChange digestListsSpec)) digestListsCard

/-- THE SECOND FORM's CARD OF 'asyncbftlaw04.DigestActs'. -/
def digestActsUptoCard : Claim7 := { stood := { row := digestActsUptoRow, standIns := [], harness := (true, "deea4325e3265295cc0b5400365bb58f953b1d6fe794e121c05cb9efeba6a8f3"), looks := false }, kinds := [], alts := [], laidByText := true, laidKinds := [.data, .data, .data], laidTests := true, laidLooks := .later }
def DigestActsUptoCardSaid : Prop := Claim7.holds Tryd.pinned (.plain (OpenSpec.upto digestActsSpec)) digestActsUptoCard

/-- THE SECOND FORM's CARD OF 'asyncbftlaw04.DigestMixes'. -/
def digestMixesUptoCard : Claim7 := { stood := { row := digestMixesUptoRow, standIns := [], harness := (true, "deea4325e3265295cc0b5400365bb58f953b1d6fe794e121c05cb9efeba6a8f3"), looks := false }, kinds := [], alts := [], laidByText := true, laidKinds := [.data, .data, .data], laidTests := true, laidLooks := .later }
def DigestMixesUptoCardSaid : Prop := Claim7.holds Tryd.pinned (.plain (OpenSpec.upto digestMixesSpec)) digestMixesUptoCard

/-- THE SECOND FORM's CARD OF 'asyncbftlaw04.DigestWords'. -/
def digestWordsUptoCard : Claim7 := { stood := { row := digestWordsUptoRow, standIns := [], harness := (true, "deea4325e3265295cc0b5400365bb58f953b1d6fe794e121c05cb9efeba6a8f3"), looks := false }, kinds := [], alts := [], laidByText := true, laidKinds := [.data, .data, .data], laidTests := true, laidLooks := .later }
def DigestWordsUptoCardSaid : Prop := Claim7.holds Tryd.pinned (.plain (OpenSpec.upto digestWordsSpec)) digestWordsUptoCard

/-- THE SECOND FORM's CARD OF 'asyncbftlaw04.DigestLists'. -/
def digestListsUptoCard : Claim7 := { stood := { row := digestListsUptoRow, standIns := [], harness := (true, "deea4325e3265295cc0b5400365bb58f953b1d6fe794e121c05cb9efeba6a8f3"), looks := false }, kinds := [], alts := [], laidByText := true, laidKinds := [.data, .data, .data], laidTests := true, laidLooks := .later }
def DigestListsUptoCardSaid : Prop := Claim7.holds Tryd.pinned (.plain (OpenSpec.upto digestListsSpec)) digestListsUptoCard
end Rows
end Go.Proofs.YtbgkcelihemmjaaDoor
