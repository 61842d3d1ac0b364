/-
  NARROWER THAN 'FOR EVERY INPUT', by the rows' own cells (each row's printed sentence says how): MatchFinds: laid · MatchLevels: laid · MatchCuts: laid.
  DERIVED. THE GIVEN ROWS OF THIS SEAT. 3 by the template 'for every input the law returns true; each argument reads behind the call as it read before'; 0 by the template 'total and deterministic' (their statements: YtjjjchdocnoabaaDoorTotals.lean).
  GIVEN WITH THE SEED: the statements are not yours to turn. If you find one false, say at which input.
  Laid BY PROGRAM, IN A SANDBOX (cutbox-rows.mjs): the forced cells as the released guide's own fill.sh prints them over the translation 2aef32c50f8555fa… (all of the seat's roots in one cut). By AI agents, Wed Nov 11 2026. No macro, syntax, notation, axiom, sorry.
-/
import Derived.Test.YtjjjchdocnoabaaDoorChecked
import GoSem.Claim
import GoSem.ClaimJoined
import GoSem.ClaimMapViews
import Derived.JoinedTies
import Derived.KernelRfl
namespace Go.Proofs.YtjjjchdocnoabaaDoor
/- THE CELL 'sum', in the pinned program and in every row, IS THE sha256 OF THE DUMP (.gsa) THAT YtjjjchdocnoabaaDoorProg.lean LOADS. Nothing in Lean hashes anything: it is a label: what it is worth is what the hold of that sum in a sandbox is worth. -/
noncomputable def Tryd.pinned : Pinned := { name := "ytjjjchdocnoabaadoor", sum := "2aef32c50f8555fa7396abf800c7c26cf21e3120e6477cb9039791242f49ec56", checked := Tryd.checked }
namespace Rows
def none {H : Type} : Left H := { results := [], args := [] }

/- WHAT THE LISTED PACKAGE-LEVEL VARIABLES READ AS WHEN THE CALL BEGINS. Each datum BY PROGRAM (the guide's laid-datum.mjs) off the statement by which the dump's own 'gosem.cut.vars' lays the variable. In a bare row this is a premise. The card (YtjjjchdocnoabaaDoorCards.lean) ties it to the program's text. -/
def laid_etui_match_efforts {H : Type} : DataW H := .agg [.agg [.lit (.int .i64 0), .lit (.int .i64 0)], .agg [.lit (.int .i64 8), .lit (.int .i64 0)], .agg [.lit (.int .i64 16), .lit (.int .i64 0)], .agg [.lit (.int .i64 32), .lit (.int .i64 0)], .agg [.lit (.int .i64 32), .lit (.int .i64 8)], .agg [.lit (.int .i64 48), .lit (.int .i64 16)], .agg [.lit (.int .i64 64), .lit (.int .i64 32)], .agg [.lit (.int .i64 96), .lit (.int .i64 64)], .agg [.lit (.int .i64 128), .lit (.int .i64 128)], .agg [.lit (.int .i64 256), .lit (.int .i64 258)]]

/-- 'etuilaw07.MatchFinds': WHATEVER THE INPUT: true; the input reads as it did. -/
def matchFindsSpec : ChangeSpec := { name := "matchFinds", fn := fun _ => fun
  | [d1, d2] => { results := [.lit (.bool true)], args := [d1, d2] }
  | _ => none }
def matchFindsRow : OpenClaim := { program := "ytjjjchdocnoabaadoor", sum := "2aef32c50f8555fa7396abf800c7c26cf21e3120e6477cb9039791242f49ec56", func := "etui/etuilaw07.MatchFinds", spec := "matchFinds", named := ["etui/match.efforts"], apart := false, laid := [("etui/match.efforts", laid_etui_match_efforts)] }
def MatchFindsSaid : Prop := matchFindsRow.holds Tryd.pinned (OpenSpec.ofChange matchFindsSpec)

/-- ITS FALSE NEIGHBOUR: 'it returns false'. Refute it at one input. -/
def matchFindsWrong : ChangeSpec := { name := "matchFinds", fn := fun _ => fun
  | [d1, d2] => { results := [.lit (.bool false)], args := [d1, d2] }
  | _ => none }
def MatchFindsWrongFalsely : Prop := matchFindsRow.holds Tryd.pinned (OpenSpec.ofChange matchFindsWrong)

/-- 'etuilaw07.MatchLevels': WHATEVER THE INPUT: true; the input reads as it did. -/
def matchLevelsSpec : ChangeSpec := { name := "matchLevels", fn := fun _ => fun
  | [d1, d2, d3] => { results := [.lit (.bool true)], args := [d1, d2, d3] }
  | _ => none }
def matchLevelsRow : OpenClaim := { program := "ytjjjchdocnoabaadoor", sum := "2aef32c50f8555fa7396abf800c7c26cf21e3120e6477cb9039791242f49ec56", func := "etui/etuilaw07.MatchLevels", spec := "matchLevels", named := ["etui/match.efforts"], apart := false, laid := [("etui/match.efforts", laid_etui_match_efforts)] }
def MatchLevelsSaid : Prop := matchLevelsRow.holds Tryd.pinned (OpenSpec.ofChange matchLevelsSpec)

/-- ITS FALSE NEIGHBOUR: 'it returns false'. Refute it at one input. -/
def matchLevelsWrong : ChangeSpec := { name := "matchLevels", fn := fun _ => fun
  | [d1, d2, d3] => { results := [.lit (.bool false)], args := [d1, d2, d3] }
  | _ => none }
def MatchLevelsWrongFalsely : Prop := matchLevelsRow.holds Tryd.pinned (OpenSpec.ofChange matchLevelsWrong)

/-- 'etuilaw07.MatchCuts': WHATEVER THE INPUT: true; the input reads as it did. -/
def matchCutsSpec : ChangeSpec := { name := "matchCuts", fn := fun _ => fun
  | [d1, d2, d3] => { results := [.lit (.bool true)], args := [d1, d2, d3] }
  | _ => none }
def matchCutsRow : OpenClaim := { program := "ytjjjchdocnoabaadoor", sum := "2aef32c50f8555fa7396abf800c7c26cf21e3120e6477cb9039791242f49ec56", func := "etui/etuilaw07.MatchCuts", spec := "matchCuts", named := ["etui/match.efforts"], apart := false, laid := [("etui/match.efforts", laid_etui_match_efforts)] }
def MatchCutsSaid : Prop := matchCutsRow.holds Tryd.pinned (OpenSpec.ofChange matchCutsSpec)

/-- ITS FALSE NEIGHBOUR: 'it returns false'. Refute it at one input. -/
def matchCutsWrong : ChangeSpec := { name := "matchCuts", fn := fun _ => fun
  | [d1, d2, d3] => { results := [.lit (.bool false)], args := [d1, d2, d3] }
  | _ => none }
def MatchCutsWrongFalsely : Prop := matchCutsRow.holds Tryd.pinned (OpenSpec.ofChange matchCutsWrong)

/- THE SECOND FORM. 'bulk': how many values and letters a reading holds, each counted each time it is reached (what is shared counts as often as it is met; a slice's spare places count too). A statement '..UptoSaid' is the law's where the arguments, and the package variables that the reading takes, are together of bulk at most 1048576: NARROWER than '..Said'. Prove '..Said' where nothing that the law and all that it calls make is longer than what came in: it says more and counts as full. Else prove '..UptoSaid'. A law counts once. -/
mutual
def uptoBulk {H : Type} : DataW H → Nat
  | .lit (.string bytes) => bytes.length + 1
  | .lit _ => 1
  | .nil => 1
  | .ptr d => uptoBulk d + 1
  | .slice elems spare => uptoBulkAll elems + uptoBulkAll spare + 1
  | .agg parts => uptoBulkAll parts + 1
  | .iface _ d => uptoBulk d + 1
  | .map entries => uptoBulkEntries entries + 1
  | .held _ => 1
def uptoBulkAll {H : Type} : List (DataW H) → Nat
  | [] => 0
  | d :: r => uptoBulk d + uptoBulkAll r
def uptoBulkEntries {H : Type} : List (Lit × DataW H) → Nat
  | [] => 0
  | x :: r => uptoBulkEntry x + uptoBulkEntries r
def uptoBulkEntry {H : Type} : Lit × DataW H → Nat
  | (.string bytes, d) => bytes.length + uptoBulk d + 1
  | (_, d) => uptoBulk d + 1
 end
def uptoSmall : (H : Type) → List (DataW H) → Bool := fun _ ds => decide (uptoBulkAll ds ≤ 1048576)
def OpenSpec.upto (s : _root_.Go.ChangeSpec) : _root_.Go.OpenSpec := { _root_.Go.OpenSpec.ofChange s with cond := some uptoSmall }

/-- 'etuilaw07.MatchFinds', WHERE WHAT IT READS IS OF BULK AT MOST 1048576: true; the input reads as it did. -/
def matchFindsUptoRow : OpenClaim := { program := "ytjjjchdocnoabaadoor", sum := "2aef32c50f8555fa7396abf800c7c26cf21e3120e6477cb9039791242f49ec56", func := "etui/etuilaw07.MatchFinds", spec := "matchFinds", named := ["etui/match.efforts"], apart := false, laid := [("etui/match.efforts", laid_etui_match_efforts)], narrowed := true }
def MatchFindsUptoSaid : Prop := matchFindsUptoRow.holds Tryd.pinned (OpenSpec.upto matchFindsSpec)

/-- 'etuilaw07.MatchLevels', WHERE WHAT IT READS IS OF BULK AT MOST 1048576: true; the input reads as it did. -/
def matchLevelsUptoRow : OpenClaim := { program := "ytjjjchdocnoabaadoor", sum := "2aef32c50f8555fa7396abf800c7c26cf21e3120e6477cb9039791242f49ec56", func := "etui/etuilaw07.MatchLevels", spec := "matchLevels", named := ["etui/match.efforts"], apart := false, laid := [("etui/match.efforts", laid_etui_match_efforts)], narrowed := true }
def MatchLevelsUptoSaid : Prop := matchLevelsUptoRow.holds Tryd.pinned (OpenSpec.upto matchLevelsSpec)

/-- 'etuilaw07.MatchCuts', WHERE WHAT IT READS IS OF BULK AT MOST 1048576: true; the input reads as it did. -/
def matchCutsUptoRow : OpenClaim := { program := "ytjjjchdocnoabaadoor", sum := "2aef32c50f8555fa7396abf800c7c26cf21e3120e6477cb9039791242f49ec56", func := "etui/etuilaw07.MatchCuts", spec := "matchCuts", named := ["etui/match.efforts"], apart := false, laid := [("etui/match.efforts", laid_etui_match_efforts)], narrowed := true }
def MatchCutsUptoSaid : Prop := matchCutsUptoRow.holds Tryd.pinned (OpenSpec.upto matchCutsSpec)

end Rows
end Go.Proofs.YtjjjchdocnoabaaDoor
