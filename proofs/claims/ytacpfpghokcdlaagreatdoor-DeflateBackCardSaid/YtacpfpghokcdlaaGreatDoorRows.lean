/-
  NARROWER THAN 'FOR EVERY INPUT', by the rows' own cells (each row's printed sentence says how): DeflateBack: laid · DeflateStored: laid · DeflateBlocks: laid · DeflateShrinks: laid · DeflateTwice: laid · DeflateNamed: laid.
  DERIVED. THE GIVEN ROWS OF THIS SEAT. 6 by the template 'for every input the law returns true; each argument reads behind the call as it read before'; 0 by the template 'total and deterministic' (their statements: YtacpfpghokcdlaaGreatDoorTotals.lean).
  GIVEN WITH THE SEED: the statements are not yours to turn. If you find one false, say at which input.
  Laid BY PROGRAM, IN A SANDBOX (cutbox-rows.mjs): the forced cells as the released guide's own fill.sh prints them over the translation f24a2be61eb04ed9… (all of the seat's roots in one cut). By AI agents, Wed Nov 11 2026. No macro, syntax, notation, axiom, sorry.
-/
import Derived.Test.YtacpfpghokcdlaaGreatDoorChecked
import GoSem.Claim
import GoSem.ClaimJoined
import GoSem.ClaimMapViews
import Derived.JoinedTies
import Derived.KernelRfl
namespace Go.Proofs.YtacpfpghokcdlaaGreatDoor
/- THE CELL 'sum', in the pinned program and in every row, IS THE sha256 OF THE DUMP (.gsa) THAT YtacpfpghokcdlaaGreatDoorProg.lean LOADS. Nothing in Lean hashes anything: it is a label: what it is worth is what the hold of that sum in a sandbox is worth. -/
noncomputable def Tryz.pinned : Pinned := { name := "ytacpfpghokcdlaagreatdoor", sum := "f24a2be61eb04ed9edc62974fb3b1aabfa4233955253bf9cbcfe9e12964b0d64", checked := Tryz.checked }
namespace Rows
def none {H : Type} : Left H := { results := [], args := [] }

/- WHAT THE LISTED PACKAGE-LEVEL VARIABLES READ AS WHEN THE CALL BEGINS. Each datum BY PROGRAM (the guide's laid-datum.mjs) off the statement by which the dump's own 'gosem.cut.vars' lays the variable. In a bare row this is a premise. The card (YtacpfpghokcdlaaGreatDoorCards.lean) ties it to the program's text. -/
def laid_etui_match_efforts {H : Type} : DataW H := .agg [.agg [.lit (.int .i64 0), .lit (.int .i64 0)], .agg [.lit (.int .i64 8), .lit (.int .i64 0)], .agg [.lit (.int .i64 16), .lit (.int .i64 0)], .agg [.lit (.int .i64 32), .lit (.int .i64 0)], .agg [.lit (.int .i64 32), .lit (.int .i64 8)], .agg [.lit (.int .i64 48), .lit (.int .i64 16)], .agg [.lit (.int .i64 64), .lit (.int .i64 32)], .agg [.lit (.int .i64 96), .lit (.int .i64 64)], .agg [.lit (.int .i64 128), .lit (.int .i64 128)], .agg [.lit (.int .i64 256), .lit (.int .i64 258)]]
def laid_etui_inflate_ownOrder {H : Type} : DataW H := .agg [.lit (.int .i64 16), .lit (.int .i64 17), .lit (.int .i64 18), .lit (.int .i64 0), .lit (.int .i64 8), .lit (.int .i64 7), .lit (.int .i64 9), .lit (.int .i64 6), .lit (.int .i64 10), .lit (.int .i64 5), .lit (.int .i64 11), .lit (.int .i64 4), .lit (.int .i64 12), .lit (.int .i64 3), .lit (.int .i64 13), .lit (.int .i64 2), .lit (.int .i64 14), .lit (.int .i64 1), .lit (.int .i64 15)]
def laid_etui_deflate_ownOrder {H : Type} : DataW H := .agg [.lit (.int .i64 16), .lit (.int .i64 17), .lit (.int .i64 18), .lit (.int .i64 0), .lit (.int .i64 8), .lit (.int .i64 7), .lit (.int .i64 9), .lit (.int .i64 6), .lit (.int .i64 10), .lit (.int .i64 5), .lit (.int .i64 11), .lit (.int .i64 4), .lit (.int .i64 12), .lit (.int .i64 3), .lit (.int .i64 13), .lit (.int .i64 2), .lit (.int .i64 14), .lit (.int .i64 1), .lit (.int .i64 15)]

/-- 'etuilaw08.DeflateBack': WHATEVER THE INPUT: true; the input reads as it did. -/
def deflateBackSpec : ChangeSpec := { name := "deflateBack", fn := fun _ => fun
  | [d1, d2] => { results := [.lit (.bool true)], args := [d1, d2] }
  | _ => none }
def deflateBackRow : OpenClaim := { program := "ytacpfpghokcdlaagreatdoor", sum := "f24a2be61eb04ed9edc62974fb3b1aabfa4233955253bf9cbcfe9e12964b0d64", func := "etui/etuilaw08.DeflateBack", spec := "deflateBack", unfollowed := true, recurses := true, named := ["etui/match.efforts", "etui/deflate.ownOrder", "etui/inflate.ownOrder"], apart := false, laid := [("etui/match.efforts", laid_etui_match_efforts), ("etui/inflate.ownOrder", laid_etui_inflate_ownOrder), ("etui/deflate.ownOrder", laid_etui_deflate_ownOrder)] }
def DeflateBackSaid : Prop := deflateBackRow.holds Tryz.pinned (OpenSpec.ofChange deflateBackSpec)

/-- ITS FALSE NEIGHBOUR: 'it returns false'. Refute it at one input. -/
def deflateBackWrong : ChangeSpec := { name := "deflateBack", fn := fun _ => fun
  | [d1, d2] => { results := [.lit (.bool false)], args := [d1, d2] }
  | _ => none }
def DeflateBackWrongFalsely : Prop := deflateBackRow.holds Tryz.pinned (OpenSpec.ofChange deflateBackWrong)

/-- 'etuilaw08.DeflateStored': WHATEVER THE INPUT: true; the input reads as it did. -/
def deflateStoredSpec : ChangeSpec := { name := "deflateStored", fn := fun _ => fun
  | [d1, d2, d3] => { results := [.lit (.bool true)], args := [d1, d2, d3] }
  | _ => none }
def deflateStoredRow : OpenClaim := { program := "ytacpfpghokcdlaagreatdoor", sum := "f24a2be61eb04ed9edc62974fb3b1aabfa4233955253bf9cbcfe9e12964b0d64", func := "etui/etuilaw08.DeflateStored", spec := "deflateStored", unfollowed := true, recurses := true, named := ["etui/match.efforts", "etui/deflate.ownOrder", "etui/inflate.ownOrder"], apart := false, laid := [("etui/match.efforts", laid_etui_match_efforts), ("etui/inflate.ownOrder", laid_etui_inflate_ownOrder), ("etui/deflate.ownOrder", laid_etui_deflate_ownOrder)] }
def DeflateStoredSaid : Prop := deflateStoredRow.holds Tryz.pinned (OpenSpec.ofChange deflateStoredSpec)

/-- ITS FALSE NEIGHBOUR: 'it returns false'. Refute it at one input. -/
def deflateStoredWrong : ChangeSpec := { name := "deflateStored", fn := fun _ => fun
  | [d1, d2, d3] => { results := [.lit (.bool false)], args := [d1, d2, d3] }
  | _ => none }
def DeflateStoredWrongFalsely : Prop := deflateStoredRow.holds Tryz.pinned (OpenSpec.ofChange deflateStoredWrong)

/-- 'etuilaw08.DeflateBlocks': WHATEVER THE INPUT: true; the input reads as it did. -/
def deflateBlocksSpec : ChangeSpec := { name := "deflateBlocks", fn := fun _ => fun
  | [d1, d2, d3] => { results := [.lit (.bool true)], args := [d1, d2, d3] }
  | _ => none }
def deflateBlocksRow : OpenClaim := { program := "ytacpfpghokcdlaagreatdoor", sum := "f24a2be61eb04ed9edc62974fb3b1aabfa4233955253bf9cbcfe9e12964b0d64", func := "etui/etuilaw08.DeflateBlocks", spec := "deflateBlocks", unfollowed := true, recurses := true, named := ["etui/match.efforts", "etui/deflate.ownOrder", "etui/inflate.ownOrder"], apart := false, laid := [("etui/match.efforts", laid_etui_match_efforts), ("etui/inflate.ownOrder", laid_etui_inflate_ownOrder), ("etui/deflate.ownOrder", laid_etui_deflate_ownOrder)] }
def DeflateBlocksSaid : Prop := deflateBlocksRow.holds Tryz.pinned (OpenSpec.ofChange deflateBlocksSpec)

/-- ITS FALSE NEIGHBOUR: 'it returns false'. Refute it at one input. -/
def deflateBlocksWrong : ChangeSpec := { name := "deflateBlocks", fn := fun _ => fun
  | [d1, d2, d3] => { results := [.lit (.bool false)], args := [d1, d2, d3] }
  | _ => none }
def DeflateBlocksWrongFalsely : Prop := deflateBlocksRow.holds Tryz.pinned (OpenSpec.ofChange deflateBlocksWrong)

/-- 'etuilaw08.DeflateShrinks': WHATEVER THE INPUT: true; the input reads as it did. -/
def deflateShrinksSpec : ChangeSpec := { name := "deflateShrinks", fn := fun _ => fun
  | [d1, d2, d3, d4] => { results := [.lit (.bool true)], args := [d1, d2, d3, d4] }
  | _ => none }
def deflateShrinksRow : OpenClaim := { program := "ytacpfpghokcdlaagreatdoor", sum := "f24a2be61eb04ed9edc62974fb3b1aabfa4233955253bf9cbcfe9e12964b0d64", func := "etui/etuilaw08.DeflateShrinks", spec := "deflateShrinks", unfollowed := true, recurses := true, named := ["etui/match.efforts", "etui/deflate.ownOrder", "etui/inflate.ownOrder"], apart := false, laid := [("etui/match.efforts", laid_etui_match_efforts), ("etui/inflate.ownOrder", laid_etui_inflate_ownOrder), ("etui/deflate.ownOrder", laid_etui_deflate_ownOrder)] }
def DeflateShrinksSaid : Prop := deflateShrinksRow.holds Tryz.pinned (OpenSpec.ofChange deflateShrinksSpec)

/-- ITS FALSE NEIGHBOUR: 'it returns false'. Refute it at one input. -/
def deflateShrinksWrong : ChangeSpec := { name := "deflateShrinks", fn := fun _ => fun
  | [d1, d2, d3, d4] => { results := [.lit (.bool false)], args := [d1, d2, d3, d4] }
  | _ => none }
def DeflateShrinksWrongFalsely : Prop := deflateShrinksRow.holds Tryz.pinned (OpenSpec.ofChange deflateShrinksWrong)

/-- 'etuilaw08.DeflateTwice': WHATEVER THE INPUT: true; the input reads as it did. -/
def deflateTwiceSpec : ChangeSpec := { name := "deflateTwice", fn := fun _ => fun
  | [d1, d2, d3] => { results := [.lit (.bool true)], args := [d1, d2, d3] }
  | _ => none }
def deflateTwiceRow : OpenClaim := { program := "ytacpfpghokcdlaagreatdoor", sum := "f24a2be61eb04ed9edc62974fb3b1aabfa4233955253bf9cbcfe9e12964b0d64", func := "etui/etuilaw08.DeflateTwice", spec := "deflateTwice", unfollowed := true, recurses := true, named := ["etui/match.efforts", "etui/deflate.ownOrder", "etui/inflate.ownOrder"], apart := false, laid := [("etui/match.efforts", laid_etui_match_efforts), ("etui/inflate.ownOrder", laid_etui_inflate_ownOrder), ("etui/deflate.ownOrder", laid_etui_deflate_ownOrder)] }
def DeflateTwiceSaid : Prop := deflateTwiceRow.holds Tryz.pinned (OpenSpec.ofChange deflateTwiceSpec)

/-- ITS FALSE NEIGHBOUR: 'it returns false'. Refute it at one input. -/
def deflateTwiceWrong : ChangeSpec := { name := "deflateTwice", fn := fun _ => fun
  | [d1, d2, d3] => { results := [.lit (.bool false)], args := [d1, d2, d3] }
  | _ => none }
def DeflateTwiceWrongFalsely : Prop := deflateTwiceRow.holds Tryz.pinned (OpenSpec.ofChange deflateTwiceWrong)

/-- 'etuilaw08.DeflateNamed': WHATEVER THE INPUT: true; the input reads as it did. -/
def deflateNamedSpec : ChangeSpec := { name := "deflateNamed", fn := fun _ => fun
  | [d1, d2] => { results := [.lit (.bool true)], args := [d1, d2] }
  | _ => none }
def deflateNamedRow : OpenClaim := { program := "ytacpfpghokcdlaagreatdoor", sum := "f24a2be61eb04ed9edc62974fb3b1aabfa4233955253bf9cbcfe9e12964b0d64", func := "etui/etuilaw08.DeflateNamed", spec := "deflateNamed", unfollowed := true, recurses := true, named := ["etui/match.efforts", "etui/deflate.ownOrder", "etui/inflate.ownOrder"], apart := false, laid := [("etui/match.efforts", laid_etui_match_efforts), ("etui/inflate.ownOrder", laid_etui_inflate_ownOrder), ("etui/deflate.ownOrder", laid_etui_deflate_ownOrder)] }
def DeflateNamedSaid : Prop := deflateNamedRow.holds Tryz.pinned (OpenSpec.ofChange deflateNamedSpec)

/-- ITS FALSE NEIGHBOUR: 'it returns false'. Refute it at one input. -/
def deflateNamedWrong : ChangeSpec := { name := "deflateNamed", fn := fun _ => fun
  | [d1, d2] => { results := [.lit (.bool false)], args := [d1, d2] }
  | _ => none }
def DeflateNamedWrongFalsely : Prop := deflateNamedRow.holds Tryz.pinned (OpenSpec.ofChange deflateNamedWrong)

/- THE SECOND FORM. 'bulk': how many values and letters a reading holds, each counted each time it is reached (what is shared counts as often as it is met; a slice's spare places count too). A statement '..UptoSaid' is the law's where the arguments, and the package variables that the reading takes, are together of bulk at most 1048576: NARROWER than '..Said'. Prove '..Said' where nothing that the law and all that it calls make is longer than what came in: it says more and counts as full. Else prove '..UptoSaid'. A law counts once. -/
mutual
def uptoBulk {H : Type} : DataW H → Nat
  | .lit (.string bytes) => bytes.length + 1
  | .lit _ => 1
  | .nil => 1
  | .ptr d => uptoBulk d + 1
  | .slice elems spare => uptoBulkAll elems + uptoBulkAll spare + 1
  | .agg parts => uptoBulkAll parts + 1
  | .iface _ d => uptoBulk d + 1
  | .map entries => uptoBulkEntries entries + 1
  | .held _ => 1
def uptoBulkAll {H : Type} : List (DataW H) → Nat
  | [] => 0
  | d :: r => uptoBulk d + uptoBulkAll r
def uptoBulkEntries {H : Type} : List (Lit × DataW H) → Nat
  | [] => 0
  | x :: r => uptoBulkEntry x + uptoBulkEntries r
def uptoBulkEntry {H : Type} : Lit × DataW H → Nat
  | (.string bytes, d) => bytes.length + uptoBulk d + 1
  | (_, d) => uptoBulk d + 1
 end
def uptoSmall : (H : Type) → List (DataW H) → Bool := fun _ ds => decide (uptoBulkAll ds ≤ 1048576)
def OpenSpec.upto (s : _root_.Go.ChangeSpec) : _root_.Go.OpenSpec := { _root_.Go.OpenSpec.ofChange s with cond := some uptoSmall }

/-- 'etuilaw08.DeflateBack', WHERE WHAT IT READS IS OF BULK AT MOST 1048576: true; the input reads as it did. -/
def deflateBackUptoRow : OpenClaim := { program := "ytacpfpghokcdlaagreatdoor", sum := "f24a2be61eb04ed9edc62974fb3b1aabfa4233955253bf9cbcfe9e12964b0d64", func := "etui/etuilaw08.DeflateBack", spec := "deflateBack", unfollowed := true, recurses := true, named := ["etui/match.efforts", "etui/deflate.ownOrder", "etui/inflate.ownOrder"], apart := false, laid := [("etui/match.efforts", laid_etui_match_efforts), ("etui/inflate.ownOrder", laid_etui_inflate_ownOrder), ("etui/deflate.ownOrder", laid_etui_deflate_ownOrder)], narrowed := true }
def DeflateBackUptoSaid : Prop := deflateBackUptoRow.holds Tryz.pinned (OpenSpec.upto deflateBackSpec)

/-- 'etuilaw08.DeflateStored', WHERE WHAT IT READS IS OF BULK AT MOST 1048576: true; the input reads as it did. -/
def deflateStoredUptoRow : OpenClaim := { program := "ytacpfpghokcdlaagreatdoor", sum := "f24a2be61eb04ed9edc62974fb3b1aabfa4233955253bf9cbcfe9e12964b0d64", func := "etui/etuilaw08.DeflateStored", spec := "deflateStored", unfollowed := true, recurses := true, named := ["etui/match.efforts", "etui/deflate.ownOrder", "etui/inflate.ownOrder"], apart := false, laid := [("etui/match.efforts", laid_etui_match_efforts), ("etui/inflate.ownOrder", laid_etui_inflate_ownOrder), ("etui/deflate.ownOrder", laid_etui_deflate_ownOrder)], narrowed := true }
def DeflateStoredUptoSaid : Prop := deflateStoredUptoRow.holds Tryz.pinned (OpenSpec.upto deflateStoredSpec)

/-- 'etuilaw08.DeflateBlocks', WHERE WHAT IT READS IS OF BULK AT MOST 1048576: true; the input reads as it did. -/
def deflateBlocksUptoRow : OpenClaim := { program := "ytacpfpghokcdlaagreatdoor", sum := "f24a2be61eb04ed9edc62974fb3b1aabfa4233955253bf9cbcfe9e12964b0d64", func := "etui/etuilaw08.DeflateBlocks", spec := "deflateBlocks", unfollowed := true, recurses := true, named := ["etui/match.efforts", "etui/deflate.ownOrder", "etui/inflate.ownOrder"], apart := false, laid := [("etui/match.efforts", laid_etui_match_efforts), ("etui/inflate.ownOrder", laid_etui_inflate_ownOrder), ("etui/deflate.ownOrder", laid_etui_deflate_ownOrder)], narrowed := true }
def DeflateBlocksUptoSaid : Prop := deflateBlocksUptoRow.holds Tryz.pinned (OpenSpec.upto deflateBlocksSpec)

/-- 'etuilaw08.DeflateShrinks', WHERE WHAT IT READS IS OF BULK AT MOST 1048576: true; the input reads as it did. -/
def deflateShrinksUptoRow : OpenClaim := { program := "ytacpfpghokcdlaagreatdoor", sum := "f24a2be61eb04ed9edc62974fb3b1aabfa4233955253bf9cbcfe9e12964b0d64", func := "etui/etuilaw08.DeflateShrinks", spec := "deflateShrinks", unfollowed := true, recurses := true, named := ["etui/match.efforts", "etui/deflate.ownOrder", "etui/inflate.ownOrder"], apart := false, laid := [("etui/match.efforts", laid_etui_match_efforts), ("etui/inflate.ownOrder", laid_etui_inflate_ownOrder), ("etui/deflate.ownOrder", laid_etui_deflate_ownOrder)], narrowed := true }
def DeflateShrinksUptoSaid : Prop := deflateShrinksUptoRow.holds Tryz.pinned (OpenSpec.upto deflateShrinksSpec)

/-- 'etuilaw08.DeflateTwice', WHERE WHAT IT READS IS OF BULK AT MOST 1048576: true; the input reads as it did. -/
def deflateTwiceUptoRow : OpenClaim := { program := "ytacpfpghokcdlaagreatdoor", sum := "f24a2be61eb04ed9edc62974fb3b1aabfa4233955253bf9cbcfe9e12964b0d64", func := "etui/etuilaw08.DeflateTwice", spec := "deflateTwice", unfollowed := true, recurses := true, named := ["etui/match.efforts", "etui/deflate.ownOrder", "etui/inflate.ownOrder"], apart := false, laid := [("etui/match.efforts", laid_etui_match_efforts), ("etui/inflate.ownOrder", laid_etui_inflate_ownOrder), ("etui/deflate.ownOrder", laid_etui_deflate_ownOrder)], narrowed := true }
def DeflateTwiceUptoSaid : Prop := deflateTwiceUptoRow.holds Tryz.pinned (OpenSpec.upto deflateTwiceSpec)

/-- 'etuilaw08.DeflateNamed', WHERE WHAT IT READS IS OF BULK AT MOST 1048576: true; the input reads as it did. -/
def deflateNamedUptoRow : OpenClaim := { program := "ytacpfpghokcdlaagreatdoor", sum := "f24a2be61eb04ed9edc62974fb3b1aabfa4233955253bf9cbcfe9e12964b0d64", func := "etui/etuilaw08.DeflateNamed", spec := "deflateNamed", unfollowed := true, recurses := true, named := ["etui/match.efforts", "etui/deflate.ownOrder", "etui/inflate.ownOrder"], apart := false, laid := [("etui/match.efforts", laid_etui_match_efforts), ("etui/inflate.ownOrder", laid_etui_inflate_ownOrder), ("etui/deflate.ownOrder", laid_etui_deflate_ownOrder)], narrowed := true }
def DeflateNamedUptoSaid : Prop := deflateNamedUptoRow.holds Tryz.pinned (OpenSpec.upto deflateNamedSpec)

end Rows
end Go.Proofs.YtacpfpghokcdlaaGreatDoor
