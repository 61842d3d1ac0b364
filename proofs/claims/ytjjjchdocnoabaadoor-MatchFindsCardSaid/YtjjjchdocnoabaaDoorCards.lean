/-
  DERIVED. GIVEN WITH THE SEED: THE CARDS: each row of YtjjjchdocnoabaaDoorRows.lean that lists a variable, with what it lists TIED to the program's text (the seventh form; the later family's looks); each row that meets fmt, with fmt's text TOLD by the authors' own Lean function (tested against real Go, not proved from fmt's source: count such statements apart). THE CARD IS WHAT COUNTS. Prove the row's statement (the work); the ties are given (YtjjjchdocnoabaaDoorTie.lean); close each card by the builder's one call (the guide's Derived/Test/ToyasCard.lean, 'card_holds'). Laid BY PROGRAM, IN A SANDBOX (cutbox-door.mjs). By AI agents, Wed Nov 11 2026. No macro, syntax, notation, axiom, sorry.
-/
import Derived.Test.YtjjjchdocnoabaaDoorRows
import GoSem.ClaimSeven
namespace Go.Proofs.YtjjjchdocnoabaaDoor
namespace Rows

/-- THE TIED CARD OF 'etuilaw07.MatchFinds'. -/
def matchFindsCard : Claim7 := { stood := { row := matchFindsRow, standIns := [], harness := (true, "d7363eac26980564ceef93468269477c7e4d9846bc0770c1fc941af895e0572c"), looks := false }, kinds := [], alts := [], laidByText := true, laidKinds := [.data], laidTests := true, laidLooks := .later }
def MatchFindsCardSaid : Prop := Claim7.holds Tryd.pinned (.plain (OpenSpec.ofChange matchFindsSpec)) matchFindsCard

/-- THE TIED CARD OF 'etuilaw07.MatchLevels'. -/
def matchLevelsCard : Claim7 := { stood := { row := matchLevelsRow, standIns := [], harness := (true, "d7363eac26980564ceef93468269477c7e4d9846bc0770c1fc941af895e0572c"), looks := false }, kinds := [], alts := [], laidByText := true, laidKinds := [.data], laidTests := true, laidLooks := .later }
def MatchLevelsCardSaid : Prop := Claim7.holds Tryd.pinned (.plain (OpenSpec.ofChange matchLevelsSpec)) matchLevelsCard

/-- THE TIED CARD OF 'etuilaw07.MatchCuts'. -/
def matchCutsCard : Claim7 := { stood := { row := matchCutsRow, standIns := [], harness := (true, "d7363eac26980564ceef93468269477c7e4d9846bc0770c1fc941af895e0572c"), looks := false }, kinds := [], alts := [], laidByText := true, laidKinds := [.data], laidTests := true, laidLooks := .later }
def MatchCutsCardSaid : Prop := Claim7.holds Tryd.pinned (.plain (OpenSpec.ofChange matchCutsSpec)) matchCutsCard

/-- THE SECOND FORM's CARD OF 'etuilaw07.MatchFinds'. -/
def matchFindsUptoCard : Claim7 := { stood := { row := matchFindsUptoRow, standIns := [], harness := (true, "d7363eac26980564ceef93468269477c7e4d9846bc0770c1fc941af895e0572c"), looks := false }, kinds := [], alts := [], laidByText := true, laidKinds := [.data], laidTests := true, laidLooks := .later }
def MatchFindsUptoCardSaid : Prop := Claim7.holds Tryd.pinned (.plain (OpenSpec.upto matchFindsSpec)) matchFindsUptoCard

/-- THE SECOND FORM's CARD OF 'etuilaw07.MatchLevels'. -/
def matchLevelsUptoCard : Claim7 := { stood := { row := matchLevelsUptoRow, standIns := [], harness := (true, "d7363eac26980564ceef93468269477c7e4d9846bc0770c1fc941af895e0572c"), looks := false }, kinds := [], alts := [], laidByText := true, laidKinds := [.data], laidTests := true, laidLooks := .later }
def MatchLevelsUptoCardSaid : Prop := Claim7.holds Tryd.pinned (.plain (OpenSpec.upto matchLevelsSpec)) matchLevelsUptoCard

/-- THE SECOND FORM's CARD OF 'etuilaw07.MatchCuts'. -/
def matchCutsUptoCard : Claim7 := { stood := { row := matchCutsUptoRow, standIns := [], harness := (true, "d7363eac26980564ceef93468269477c7e4d9846bc0770c1fc941af895e0572c"), looks := false }, kinds := [], alts := [], laidByText := true, laidKinds := [.data], laidTests := true, laidLooks := .later }
def MatchCutsUptoCardSaid : Prop := Claim7.holds Tryd.pinned (.plain (OpenSpec.upto matchCutsSpec)) matchCutsUptoCard
end Rows
end Go.Proofs.YtjjjchdocnoabaaDoor
