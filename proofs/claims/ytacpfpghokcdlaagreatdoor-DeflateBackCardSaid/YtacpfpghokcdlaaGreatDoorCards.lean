/-
  DERIVED. GIVEN WITH THE SEED: THE CARDS: each row of YtacpfpghokcdlaaGreatDoorRows.lean that lists a variable, with what it lists TIED to the program's text (the seventh form; the later family's looks); each row that meets fmt, with fmt's text TOLD by the authors' own Lean function (tested against real Go, not proved from fmt's source: count such statements apart). THE CARD IS WHAT COUNTS. Prove the row's statement (the work); the ties are given (YtacpfpghokcdlaaGreatDoorTie.lean); close each card by the builder's one call (the guide's Derived/Test/ToyasCard.lean, 'card_holds'). Laid BY PROGRAM, IN A SANDBOX (cutbox-door.mjs). By AI agents, Wed Nov 11 2026. No macro, syntax, notation, axiom, sorry.
-/
import Derived.Test.YtacpfpghokcdlaaGreatDoorRows
import GoSem.ClaimSeven
namespace Go.Proofs.YtacpfpghokcdlaaGreatDoor
namespace Rows

/-- THE TIED CARD OF 'etuilaw08.DeflateBack'. -/
def deflateBackCard : Claim7 := { stood := { row := deflateBackRow, standIns := [], harness := (true, "1a56c0dc031ecf278579e6d7364c14d3bc70c5a2c634fc577187c13e01df0045"), looks := true }, kinds := [], alts := [], laidByText := true, laidKinds := [.data, .data, .data], laidTests := true, laidLooks := .later }
def DeflateBackCardSaid : Prop := Claim7.holds Tryz.pinned (.plain (OpenSpec.ofChange deflateBackSpec)) deflateBackCard

/-- THE TIED CARD OF 'etuilaw08.DeflateStored'. -/
def deflateStoredCard : Claim7 := { stood := { row := deflateStoredRow, standIns := [], harness := (true, "1a56c0dc031ecf278579e6d7364c14d3bc70c5a2c634fc577187c13e01df0045"), looks := true }, kinds := [], alts := [], laidByText := true, laidKinds := [.data, .data, .data], laidTests := true, laidLooks := .later }
def DeflateStoredCardSaid : Prop := Claim7.holds Tryz.pinned (.plain (OpenSpec.ofChange deflateStoredSpec)) deflateStoredCard

/-- THE TIED CARD OF 'etuilaw08.DeflateBlocks'. -/
def deflateBlocksCard : Claim7 := { stood := { row := deflateBlocksRow, standIns := [], harness := (true, "1a56c0dc031ecf278579e6d7364c14d3bc70c5a2c634fc577187c13e01df0045"), looks := true }, kinds := [], alts := [], laidByText := true, laidKinds := [.data, .data, .data], laidTests := true, laidLooks := .later }
def DeflateBlocksCardSaid : Prop := Claim7.holds Tryz.pinned (.plain (OpenSpec.ofChange deflateBlocksSpec)) deflateBlocksCard

/-- THE TIED CARD OF 'etuilaw08.DeflateShrinks'. -/
def deflateShrinksCard : Claim7 := { stood := { row := deflateShrinksRow, standIns := [], harness := (true, "1a56c0dc031ecf278579e6d7364c14d3bc70c5a2c634fc577187c13e01df0045"), looks := true }, kinds := [], alts := [], laidByText := true, laidKinds := [.data, .data, .data], laidTests := true, laidLooks := .later }
def DeflateShrinksCardSaid : Prop := Claim7.holds Tryz.pinned (.plain (OpenSpec.ofChange deflateShrinksSpec)) deflateShrinksCard

/-- THE TIED CARD OF 'etuilaw08.DeflateTwice'. -/
def deflateTwiceCard : Claim7 := { stood := { row := deflateTwiceRow, standIns := [], harness := (true, "1a56c0dc031ecf278579e6d7364c14d3bc70c5a2c634fc577187c13e01df0045"), looks := true }, kinds := [], alts := [], laidByText := true, laidKinds := [.data, .data, .data], laidTests := true, laidLooks := .later }
def DeflateTwiceCardSaid : Prop := Claim7.holds Tryz.pinned (.plain (OpenSpec.ofChange deflateTwiceSpec)) deflateTwiceCard

/-- THE TIED CARD OF 'etuilaw08.DeflateNamed'. -/
def deflateNamedCard : Claim7 := { stood := { row := deflateNamedRow, standIns := [], harness := (true, "1a56c0dc031ecf278579e6d7364c14d3bc70c5a2c634fc577187c13e01df0045"), looks := true }, kinds := [], alts := [], laidByText := true, laidKinds := [.data, .data, .data], laidTests := true, laidLooks := .later }
def DeflateNamedCardSaid : Prop := Claim7.holds Tryz.pinned (.plain (OpenSpec.ofChange deflateNamedSpec)) deflateNamedCard

/-- THE SECOND FORM's CARD OF 'etuilaw08.DeflateBack'. -/
def deflateBackUptoCard : Claim7 := { stood := { row := deflateBackUptoRow, standIns := [], harness := (true, "1a56c0dc031ecf278579e6d7364c14d3bc70c5a2c634fc577187c13e01df0045"), looks := true }, kinds := [], alts := [], laidByText := true, laidKinds := [.data, .data, .data], laidTests := true, laidLooks := .later }
def DeflateBackUptoCardSaid : Prop := Claim7.holds Tryz.pinned (.plain (OpenSpec.upto deflateBackSpec)) deflateBackUptoCard

/-- THE SECOND FORM's CARD OF 'etuilaw08.DeflateStored'. -/
def deflateStoredUptoCard : Claim7 := { stood := { row := deflateStoredUptoRow, standIns := [], harness := (true, "1a56c0dc031ecf278579e6d7364c14d3bc70c5a2c634fc577187c13e01df0045"), looks := true }, kinds := [], alts := [], laidByText := true, laidKinds := [.data, .data, .data], laidTests := true, laidLooks := .later }
def DeflateStoredUptoCardSaid : Prop := Claim7.holds Tryz.pinned (.plain (OpenSpec.upto deflateStoredSpec)) deflateStoredUptoCard

/-- THE SECOND FORM's CARD OF 'etuilaw08.DeflateBlocks'. -/
def deflateBlocksUptoCard : Claim7 := { stood := { row := deflateBlocksUptoRow, standIns := [], harness := (true, "1a56c0dc031ecf278579e6d7364c14d3bc70c5a2c634fc577187c13e01df0045"), looks := true }, kinds := [], alts := [], laidByText := true, laidKinds := [.data, .data, .data], laidTests := true, laidLooks := .later }
def DeflateBlocksUptoCardSaid : Prop := Claim7.holds Tryz.pinned (.plain (OpenSpec.upto deflateBlocksSpec)) deflateBlocksUptoCard

/-- THE SECOND FORM's CARD OF 'etuilaw08.DeflateShrinks'. -/
def deflateShrinksUptoCard : Claim7 := { stood := { row := deflateShrinksUptoRow, standIns := [], harness := (true, "1a56c0dc031ecf278579e6d7364c14d3bc70c5a2c634fc577187c13e01df0045"), looks := true }, kinds := [], alts := [], laidByText := true, laidKinds := [.data, .data, .data], laidTests := true, laidLooks := .later }
def DeflateShrinksUptoCardSaid : Prop := Claim7.holds Tryz.pinned (.plain (OpenSpec.upto deflateShrinksSpec)) deflateShrinksUptoCard

/-- THE SECOND FORM's CARD OF 'etuilaw08.DeflateTwice'. -/
def deflateTwiceUptoCard : Claim7 := { stood := { row := deflateTwiceUptoRow, standIns := [], harness := (true, "1a56c0dc031ecf278579e6d7364c14d3bc70c5a2c634fc577187c13e01df0045"), looks := true }, kinds := [], alts := [], laidByText := true, laidKinds := [.data, .data, .data], laidTests := true, laidLooks := .later }
def DeflateTwiceUptoCardSaid : Prop := Claim7.holds Tryz.pinned (.plain (OpenSpec.upto deflateTwiceSpec)) deflateTwiceUptoCard

/-- THE SECOND FORM's CARD OF 'etuilaw08.DeflateNamed'. -/
def deflateNamedUptoCard : Claim7 := { stood := { row := deflateNamedUptoRow, standIns := [], harness := (true, "1a56c0dc031ecf278579e6d7364c14d3bc70c5a2c634fc577187c13e01df0045"), looks := true }, kinds := [], alts := [], laidByText := true, laidKinds := [.data, .data, .data], laidTests := true, laidLooks := .later }
def DeflateNamedUptoCardSaid : Prop := Claim7.holds Tryz.pinned (.plain (OpenSpec.upto deflateNamedSpec)) deflateNamedUptoCard
end Rows
end Go.Proofs.YtacpfpghokcdlaaGreatDoor
