/-
  DERIVED. GIVEN WITH THE SEED: THE CARDS: each row of YthbbpooobaahiaaGreatDoorRows.lean that lists a variable, with what it lists TIED to the program's text (the seventh form; the later family's looks); each row that meets fmt, with fmt's text TOLD by the authors' own Lean function (tested against real Go, not proved from fmt's source: count such statements apart). THE CARD IS WHAT COUNTS. Prove the row's statement (the work); the ties are given (YthbbpooobaahiaaGreatDoorTie.lean); close each card by the builder's one call (the guide's Derived/Test/ToyasCard.lean, 'card_holds'). Laid BY PROGRAM, IN A SANDBOX (cutbox-door.mjs). By AI agents, Wed Nov 11 2026. No macro, syntax, notation, axiom, sorry.
-/
import Derived.Test.YthbbpooobaahiaaGreatDoorRows
import GoSem.ClaimSeven
namespace Go.Proofs.YthbbpooobaahiaaGreatDoor
namespace Rows

/-- THE TIED CARD OF 'etuilaw09.ZiprReads'. -/
def ziprReadsCard : Claim7 := { stood := { row := ziprReadsRow, standIns := [], harness := (true, "aebf47a6aa6606cbbbdd69d0cb7408cd4716459c477d6db185dd15b8c452a18e"), looks := true }, kinds := [], alts := [], laidByText := true, laidKinds := [.data, .data, .pinned], laidTests := true, laidLooks := .later }
def ZiprReadsCardSaid : Prop := Claim7.holds Tryz.pinned (.plain (OpenSpec.ofChange ziprReadsSpec)) ziprReadsCard

/-- THE TIED CARD OF 'etuilaw09.ZiprNames'. -/
def ziprNamesCard : Claim7 := { stood := { row := ziprNamesRow, standIns := [], harness := (true, "aebf47a6aa6606cbbbdd69d0cb7408cd4716459c477d6db185dd15b8c452a18e"), looks := true }, kinds := [], alts := [], laidByText := true, laidKinds := [.data, .data, .pinned], laidTests := true, laidLooks := .later }
def ZiprNamesCardSaid : Prop := Claim7.holds Tryz.pinned (.plain (OpenSpec.ofChange ziprNamesSpec)) ziprNamesCard

/-- THE TIED CARD OF 'etuilaw09.ZiprStored'. -/
def ziprStoredCard : Claim7 := { stood := { row := ziprStoredRow, standIns := [], harness := (true, "aebf47a6aa6606cbbbdd69d0cb7408cd4716459c477d6db185dd15b8c452a18e"), looks := true }, kinds := [], alts := [], laidByText := true, laidKinds := [.data, .data, .pinned], laidTests := true, laidLooks := .later }
def ZiprStoredCardSaid : Prop := Claim7.holds Tryz.pinned (.plain (OpenSpec.ofChange ziprStoredSpec)) ziprStoredCard

/-- THE TIED CARD OF 'etuilaw09.ZiprLimits'. -/
def ziprLimitsCard : Claim7 := { stood := { row := ziprLimitsRow, standIns := [], harness := (true, "aebf47a6aa6606cbbbdd69d0cb7408cd4716459c477d6db185dd15b8c452a18e"), looks := true }, kinds := [], alts := [], laidByText := true, laidKinds := [.data, .data, .pinned], laidTests := true, laidLooks := .later }
def ZiprLimitsCardSaid : Prop := Claim7.holds Tryz.pinned (.plain (OpenSpec.ofChange ziprLimitsSpec)) ziprLimitsCard

/-- THE TIED CARD OF 'etuilaw09.ZiprFlips'. -/
def ziprFlipsCard : Claim7 := { stood := { row := ziprFlipsRow, standIns := [], harness := (true, "aebf47a6aa6606cbbbdd69d0cb7408cd4716459c477d6db185dd15b8c452a18e"), looks := true }, kinds := [], alts := [], laidByText := true, laidKinds := [.data, .data, .pinned], laidTests := true, laidLooks := .later }
def ZiprFlipsCardSaid : Prop := Claim7.holds Tryz.pinned (.plain (OpenSpec.ofChange ziprFlipsSpec)) ziprFlipsCard

/-- THE TIED CARD OF 'etuilaw09.ZiprRemark'. -/
def ziprRemarkCard : Claim7 := { stood := { row := ziprRemarkRow, standIns := [], harness := (true, "aebf47a6aa6606cbbbdd69d0cb7408cd4716459c477d6db185dd15b8c452a18e"), looks := true }, kinds := [], alts := [], laidByText := true, laidKinds := [.data, .data, .pinned], laidTests := true, laidLooks := .later }
def ZiprRemarkCardSaid : Prop := Claim7.holds Tryz.pinned (.plain (OpenSpec.ofChange ziprRemarkSpec)) ziprRemarkCard

/-- THE SECOND FORM's CARD OF 'etuilaw09.ZiprReads'. -/
def ziprReadsUptoCard : Claim7 := { stood := { row := ziprReadsUptoRow, standIns := [], harness := (true, "aebf47a6aa6606cbbbdd69d0cb7408cd4716459c477d6db185dd15b8c452a18e"), looks := true }, kinds := [], alts := [], laidByText := true, laidKinds := [.data, .data, .pinned], laidTests := true, laidLooks := .later }
def ZiprReadsUptoCardSaid : Prop := Claim7.holds Tryz.pinned (.plain (OpenSpec.upto ziprReadsSpec)) ziprReadsUptoCard

/-- THE SECOND FORM's CARD OF 'etuilaw09.ZiprNames'. -/
def ziprNamesUptoCard : Claim7 := { stood := { row := ziprNamesUptoRow, standIns := [], harness := (true, "aebf47a6aa6606cbbbdd69d0cb7408cd4716459c477d6db185dd15b8c452a18e"), looks := true }, kinds := [], alts := [], laidByText := true, laidKinds := [.data, .data, .pinned], laidTests := true, laidLooks := .later }
def ZiprNamesUptoCardSaid : Prop := Claim7.holds Tryz.pinned (.plain (OpenSpec.upto ziprNamesSpec)) ziprNamesUptoCard

/-- THE SECOND FORM's CARD OF 'etuilaw09.ZiprStored'. -/
def ziprStoredUptoCard : Claim7 := { stood := { row := ziprStoredUptoRow, standIns := [], harness := (true, "aebf47a6aa6606cbbbdd69d0cb7408cd4716459c477d6db185dd15b8c452a18e"), looks := true }, kinds := [], alts := [], laidByText := true, laidKinds := [.data, .data, .pinned], laidTests := true, laidLooks := .later }
def ZiprStoredUptoCardSaid : Prop := Claim7.holds Tryz.pinned (.plain (OpenSpec.upto ziprStoredSpec)) ziprStoredUptoCard

/-- THE SECOND FORM's CARD OF 'etuilaw09.ZiprLimits'. -/
def ziprLimitsUptoCard : Claim7 := { stood := { row := ziprLimitsUptoRow, standIns := [], harness := (true, "aebf47a6aa6606cbbbdd69d0cb7408cd4716459c477d6db185dd15b8c452a18e"), looks := true }, kinds := [], alts := [], laidByText := true, laidKinds := [.data, .data, .pinned], laidTests := true, laidLooks := .later }
def ZiprLimitsUptoCardSaid : Prop := Claim7.holds Tryz.pinned (.plain (OpenSpec.upto ziprLimitsSpec)) ziprLimitsUptoCard

/-- THE SECOND FORM's CARD OF 'etuilaw09.ZiprFlips'. -/
def ziprFlipsUptoCard : Claim7 := { stood := { row := ziprFlipsUptoRow, standIns := [], harness := (true, "aebf47a6aa6606cbbbdd69d0cb7408cd4716459c477d6db185dd15b8c452a18e"), looks := true }, kinds := [], alts := [], laidByText := true, laidKinds := [.data, .data, .pinned], laidTests := true, laidLooks := .later }
def ZiprFlipsUptoCardSaid : Prop := Claim7.holds Tryz.pinned (.plain (OpenSpec.upto ziprFlipsSpec)) ziprFlipsUptoCard

/-- THE SECOND FORM's CARD OF 'etuilaw09.ZiprRemark'. -/
def ziprRemarkUptoCard : Claim7 := { stood := { row := ziprRemarkUptoRow, standIns := [], harness := (true, "aebf47a6aa6606cbbbdd69d0cb7408cd4716459c477d6db185dd15b8c452a18e"), looks := true }, kinds := [], alts := [], laidByText := true, laidKinds := [.data, .data, .pinned], laidTests := true, laidLooks := .later }
def ZiprRemarkUptoCardSaid : Prop := Claim7.holds Tryz.pinned (.plain (OpenSpec.upto ziprRemarkSpec)) ziprRemarkUptoCard
end Rows
end Go.Proofs.YthbbpooobaahiaaGreatDoor
