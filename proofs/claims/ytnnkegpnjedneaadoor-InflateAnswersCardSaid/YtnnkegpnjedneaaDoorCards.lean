/-
  DERIVED. GIVEN WITH THE SEED: THE CARDS: each row of YtnnkegpnjedneaaDoorRows.lean that lists a variable, with what it lists TIED to the program's text (the seventh form; the later family's looks); each row that meets fmt, with fmt's text TOLD by the authors' own Lean function (tested against real Go, not proved from fmt's source: count such statements apart). THE CARD IS WHAT COUNTS. Prove the row's statement (the work); the ties are given (YtnnkegpnjedneaaDoorTie.lean); close each card by the builder's one call (the guide's Derived/Test/ToyasCard.lean, 'card_holds'). Laid BY PROGRAM, IN A SANDBOX (cutbox-door.mjs). By AI agents, Wed Nov 11 2026. No macro, syntax, notation, axiom, sorry.
-/
import Derived.Test.YtnnkegpnjedneaaDoorRows
import GoSem.ClaimSeven
namespace Go.Proofs.YtnnkegpnjedneaaDoor
namespace Rows

/-- THE TIED CARD OF 'etuilaw06.InflateAnswers'. -/
def inflateAnswersCard : Claim7 := { stood := { row := inflateAnswersRow, standIns := [], harness := (true, "92355ac838773404caa423fded1d207c8b642718b7fb2225f8dda74b268a5197"), looks := true }, kinds := [], alts := [], laidByText := true, laidKinds := [.data], laidTests := true, laidLooks := .later }
def InflateAnswersCardSaid : Prop := Claim7.holds Tryd.pinned (.plain (OpenSpec.ofChange inflateAnswersSpec)) inflateAnswersCard

/-- THE TIED CARD OF 'etuilaw06.InflateTables'. -/
def inflateTablesCard : Claim7 := { stood := { row := inflateTablesRow, standIns := [], harness := (true, "92355ac838773404caa423fded1d207c8b642718b7fb2225f8dda74b268a5197"), looks := true }, kinds := [], alts := [], laidByText := true, laidKinds := [.data], laidTests := true, laidLooks := .later }
def InflateTablesCardSaid : Prop := Claim7.holds Tryd.pinned (.plain (OpenSpec.ofChange inflateTablesSpec)) inflateTablesCard

/-- THE TIED CARD OF 'etuilaw06.InflateLimit'. -/
def inflateLimitCard : Claim7 := { stood := { row := inflateLimitRow, standIns := [], harness := (true, "92355ac838773404caa423fded1d207c8b642718b7fb2225f8dda74b268a5197"), looks := true }, kinds := [], alts := [], laidByText := true, laidKinds := [.data], laidTests := true, laidLooks := .later }
def InflateLimitCardSaid : Prop := Claim7.holds Tryd.pinned (.plain (OpenSpec.ofChange inflateLimitSpec)) inflateLimitCard

/-- THE TIED CARD OF 'etuilaw06.InflateCuts'. -/
def inflateCutsCard : Claim7 := { stood := { row := inflateCutsRow, standIns := [], harness := (true, "92355ac838773404caa423fded1d207c8b642718b7fb2225f8dda74b268a5197"), looks := true }, kinds := [], alts := [], laidByText := true, laidKinds := [.data], laidTests := true, laidLooks := .later }
def InflateCutsCardSaid : Prop := Claim7.holds Tryd.pinned (.plain (OpenSpec.ofChange inflateCutsSpec)) inflateCutsCard

/-- THE TIED CARD OF 'etuilaw06.InflateStored'. -/
def inflateStoredCard : Claim7 := { stood := { row := inflateStoredRow, standIns := [], harness := (true, "92355ac838773404caa423fded1d207c8b642718b7fb2225f8dda74b268a5197"), looks := true }, kinds := [], alts := [], laidByText := true, laidKinds := [.data], laidTests := true, laidLooks := .later }
def InflateStoredCardSaid : Prop := Claim7.holds Tryd.pinned (.plain (OpenSpec.ofChange inflateStoredSpec)) inflateStoredCard

/-- THE TIED CARD OF 'etuilaw06.InflateFixed'. -/
def inflateFixedCard : Claim7 := { stood := { row := inflateFixedRow, standIns := [], harness := (true, "92355ac838773404caa423fded1d207c8b642718b7fb2225f8dda74b268a5197"), looks := true }, kinds := [], alts := [], laidByText := true, laidKinds := [.data], laidTests := true, laidLooks := .later }
def InflateFixedCardSaid : Prop := Claim7.holds Tryd.pinned (.plain (OpenSpec.ofChange inflateFixedSpec)) inflateFixedCard

/-- THE TIED CARD OF 'etuilaw06.InflateTwo'. -/
def inflateTwoCard : Claim7 := { stood := { row := inflateTwoRow, standIns := [], harness := (true, "92355ac838773404caa423fded1d207c8b642718b7fb2225f8dda74b268a5197"), looks := true }, kinds := [], alts := [], laidByText := true, laidKinds := [.data], laidTests := true, laidLooks := .later }
def InflateTwoCardSaid : Prop := Claim7.holds Tryd.pinned (.plain (OpenSpec.ofChange inflateTwoSpec)) inflateTwoCard

/-- THE SECOND FORM's CARD OF 'etuilaw06.InflateAnswers'. -/
def inflateAnswersUptoCard : Claim7 := { stood := { row := inflateAnswersUptoRow, standIns := [], harness := (true, "92355ac838773404caa423fded1d207c8b642718b7fb2225f8dda74b268a5197"), looks := true }, kinds := [], alts := [], laidByText := true, laidKinds := [.data], laidTests := true, laidLooks := .later }
def InflateAnswersUptoCardSaid : Prop := Claim7.holds Tryd.pinned (.plain (OpenSpec.upto inflateAnswersSpec)) inflateAnswersUptoCard

/-- THE SECOND FORM's CARD OF 'etuilaw06.InflateTables'. -/
def inflateTablesUptoCard : Claim7 := { stood := { row := inflateTablesUptoRow, standIns := [], harness := (true, "92355ac838773404caa423fded1d207c8b642718b7fb2225f8dda74b268a5197"), looks := true }, kinds := [], alts := [], laidByText := true, laidKinds := [.data], laidTests := true, laidLooks := .later }
def InflateTablesUptoCardSaid : Prop := Claim7.holds Tryd.pinned (.plain (OpenSpec.upto inflateTablesSpec)) inflateTablesUptoCard

/-- THE SECOND FORM's CARD OF 'etuilaw06.InflateLimit'. -/
def inflateLimitUptoCard : Claim7 := { stood := { row := inflateLimitUptoRow, standIns := [], harness := (true, "92355ac838773404caa423fded1d207c8b642718b7fb2225f8dda74b268a5197"), looks := true }, kinds := [], alts := [], laidByText := true, laidKinds := [.data], laidTests := true, laidLooks := .later }
def InflateLimitUptoCardSaid : Prop := Claim7.holds Tryd.pinned (.plain (OpenSpec.upto inflateLimitSpec)) inflateLimitUptoCard

/-- THE SECOND FORM's CARD OF 'etuilaw06.InflateCuts'. -/
def inflateCutsUptoCard : Claim7 := { stood := { row := inflateCutsUptoRow, standIns := [], harness := (true, "92355ac838773404caa423fded1d207c8b642718b7fb2225f8dda74b268a5197"), looks := true }, kinds := [], alts := [], laidByText := true, laidKinds := [.data], laidTests := true, laidLooks := .later }
def InflateCutsUptoCardSaid : Prop := Claim7.holds Tryd.pinned (.plain (OpenSpec.upto inflateCutsSpec)) inflateCutsUptoCard

/-- THE SECOND FORM's CARD OF 'etuilaw06.InflateStored'. -/
def inflateStoredUptoCard : Claim7 := { stood := { row := inflateStoredUptoRow, standIns := [], harness := (true, "92355ac838773404caa423fded1d207c8b642718b7fb2225f8dda74b268a5197"), looks := true }, kinds := [], alts := [], laidByText := true, laidKinds := [.data], laidTests := true, laidLooks := .later }
def InflateStoredUptoCardSaid : Prop := Claim7.holds Tryd.pinned (.plain (OpenSpec.upto inflateStoredSpec)) inflateStoredUptoCard

/-- THE SECOND FORM's CARD OF 'etuilaw06.InflateFixed'. -/
def inflateFixedUptoCard : Claim7 := { stood := { row := inflateFixedUptoRow, standIns := [], harness := (true, "92355ac838773404caa423fded1d207c8b642718b7fb2225f8dda74b268a5197"), looks := true }, kinds := [], alts := [], laidByText := true, laidKinds := [.data], laidTests := true, laidLooks := .later }
def InflateFixedUptoCardSaid : Prop := Claim7.holds Tryd.pinned (.plain (OpenSpec.upto inflateFixedSpec)) inflateFixedUptoCard

/-- THE SECOND FORM's CARD OF 'etuilaw06.InflateTwo'. -/
def inflateTwoUptoCard : Claim7 := { stood := { row := inflateTwoUptoRow, standIns := [], harness := (true, "92355ac838773404caa423fded1d207c8b642718b7fb2225f8dda74b268a5197"), looks := true }, kinds := [], alts := [], laidByText := true, laidKinds := [.data], laidTests := true, laidLooks := .later }
def InflateTwoUptoCardSaid : Prop := Claim7.holds Tryd.pinned (.plain (OpenSpec.upto inflateTwoSpec)) inflateTwoUptoCard
end Rows
end Go.Proofs.YtnnkegpnjedneaaDoor
