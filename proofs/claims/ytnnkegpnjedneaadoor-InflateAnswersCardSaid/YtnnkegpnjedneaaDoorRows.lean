/-
  NARROWER THAN 'FOR EVERY INPUT', by the rows' own cells (each row's printed sentence says how): InflateAnswers: laid · InflateTables: laid · InflateLimit: laid · InflateCuts: laid · InflateStored: laid · InflateFixed: laid · InflateTwo: laid.
  DERIVED. THE GIVEN ROWS OF THIS SEAT. 7 by the template 'for every input the law returns true; each argument reads behind the call as it read before'; 0 by the template 'total and deterministic' (their statements: YtnnkegpnjedneaaDoorTotals.lean).
  GIVEN WITH THE SEED: the statements are not yours to turn. If you find one false, say at which input.
  Laid BY PROGRAM, IN A SANDBOX (cutbox-rows.mjs): the forced cells as the released guide's own fill.sh prints them over the translation bd41661087a97932… (all of the seat's roots in one cut). By AI agents, Wed Nov 11 2026. No macro, syntax, notation, axiom, sorry.
-/
import Derived.Test.YtnnkegpnjedneaaDoorChecked
import GoSem.Claim
import GoSem.ClaimJoined
import GoSem.ClaimMapViews
import Derived.JoinedTies
import Derived.KernelRfl
namespace Go.Proofs.YtnnkegpnjedneaaDoor
/- THE CELL 'sum', in the pinned program and in every row, IS THE sha256 OF THE DUMP (.gsa) THAT YtnnkegpnjedneaaDoorProg.lean LOADS. Nothing in Lean hashes anything: it is a label: what it is worth is what the hold of that sum in a sandbox is worth. -/
noncomputable def Tryd.pinned : Pinned := { name := "ytnnkegpnjedneaadoor", sum := "bd41661087a979323c27e08676fb6f87b8d9ff06cf1c0a8eb6ae6d3a987a1ec4", checked := Tryd.checked }
namespace Rows
def none {H : Type} : Left H := { results := [], args := [] }

/- WHAT THE LISTED PACKAGE-LEVEL VARIABLES READ AS WHEN THE CALL BEGINS. Each datum BY PROGRAM (the guide's laid-datum.mjs) off the statement by which the dump's own 'gosem.cut.vars' lays the variable. In a bare row this is a premise. The card (YtnnkegpnjedneaaDoorCards.lean) ties it to the program's text. -/
def laid_etui_inflate_ownOrder {H : Type} : DataW H := .agg [.lit (.int .i64 16), .lit (.int .i64 17), .lit (.int .i64 18), .lit (.int .i64 0), .lit (.int .i64 8), .lit (.int .i64 7), .lit (.int .i64 9), .lit (.int .i64 6), .lit (.int .i64 10), .lit (.int .i64 5), .lit (.int .i64 11), .lit (.int .i64 4), .lit (.int .i64 12), .lit (.int .i64 3), .lit (.int .i64 13), .lit (.int .i64 2), .lit (.int .i64 14), .lit (.int .i64 1), .lit (.int .i64 15)]

/-- 'etuilaw06.InflateAnswers': WHATEVER THE INPUT: true; the input reads as it did. -/
def inflateAnswersSpec : ChangeSpec := { name := "inflateAnswers", fn := fun _ => fun
  | [d1, d2] => { results := [.lit (.bool true)], args := [d1, d2] }
  | _ => none }
def inflateAnswersRow : OpenClaim := { program := "ytnnkegpnjedneaadoor", sum := "bd41661087a979323c27e08676fb6f87b8d9ff06cf1c0a8eb6ae6d3a987a1ec4", func := "etui/etuilaw06.InflateAnswers", spec := "inflateAnswers", unfollowed := true, recurses := true, named := ["etui/inflate.ownOrder"], apart := false, laid := [("etui/inflate.ownOrder", laid_etui_inflate_ownOrder)] }
def InflateAnswersSaid : Prop := inflateAnswersRow.holds Tryd.pinned (OpenSpec.ofChange inflateAnswersSpec)

/-- ITS FALSE NEIGHBOUR: 'it returns false'. Refute it at one input. -/
def inflateAnswersWrong : ChangeSpec := { name := "inflateAnswers", fn := fun _ => fun
  | [d1, d2] => { results := [.lit (.bool false)], args := [d1, d2] }
  | _ => none }
def InflateAnswersWrongFalsely : Prop := inflateAnswersRow.holds Tryd.pinned (OpenSpec.ofChange inflateAnswersWrong)

/-- 'etuilaw06.InflateTables': WHATEVER THE INPUT: true; the input reads as it did. -/
def inflateTablesSpec : ChangeSpec := { name := "inflateTables", fn := fun _ => fun
  | [d] => { results := [.lit (.bool true)], args := [d] }
  | _ => none }
def inflateTablesRow : OpenClaim := { program := "ytnnkegpnjedneaadoor", sum := "bd41661087a979323c27e08676fb6f87b8d9ff06cf1c0a8eb6ae6d3a987a1ec4", func := "etui/etuilaw06.InflateTables", spec := "inflateTables", unfollowed := true, recurses := true, named := ["etui/inflate.ownOrder"], apart := false, laid := [("etui/inflate.ownOrder", laid_etui_inflate_ownOrder)] }
def InflateTablesSaid : Prop := inflateTablesRow.holds Tryd.pinned (OpenSpec.ofChange inflateTablesSpec)

/-- ITS FALSE NEIGHBOUR: 'it returns false'. Refute it at one input. -/
def inflateTablesWrong : ChangeSpec := { name := "inflateTables", fn := fun _ => fun
  | [d] => { results := [.lit (.bool false)], args := [d] }
  | _ => none }
def InflateTablesWrongFalsely : Prop := inflateTablesRow.holds Tryd.pinned (OpenSpec.ofChange inflateTablesWrong)

/-- 'etuilaw06.InflateLimit': WHATEVER THE INPUT: true; the input reads as it did. -/
def inflateLimitSpec : ChangeSpec := { name := "inflateLimit", fn := fun _ => fun
  | [d1, d2] => { results := [.lit (.bool true)], args := [d1, d2] }
  | _ => none }
def inflateLimitRow : OpenClaim := { program := "ytnnkegpnjedneaadoor", sum := "bd41661087a979323c27e08676fb6f87b8d9ff06cf1c0a8eb6ae6d3a987a1ec4", func := "etui/etuilaw06.InflateLimit", spec := "inflateLimit", unfollowed := true, recurses := true, named := ["etui/inflate.ownOrder"], apart := false, laid := [("etui/inflate.ownOrder", laid_etui_inflate_ownOrder)] }
def InflateLimitSaid : Prop := inflateLimitRow.holds Tryd.pinned (OpenSpec.ofChange inflateLimitSpec)

/-- ITS FALSE NEIGHBOUR: 'it returns false'. Refute it at one input. -/
def inflateLimitWrong : ChangeSpec := { name := "inflateLimit", fn := fun _ => fun
  | [d1, d2] => { results := [.lit (.bool false)], args := [d1, d2] }
  | _ => none }
def InflateLimitWrongFalsely : Prop := inflateLimitRow.holds Tryd.pinned (OpenSpec.ofChange inflateLimitWrong)

/-- 'etuilaw06.InflateCuts': WHATEVER THE INPUT: true; the input reads as it did. -/
def inflateCutsSpec : ChangeSpec := { name := "inflateCuts", fn := fun _ => fun
  | [d1, d2, d3] => { results := [.lit (.bool true)], args := [d1, d2, d3] }
  | _ => none }
def inflateCutsRow : OpenClaim := { program := "ytnnkegpnjedneaadoor", sum := "bd41661087a979323c27e08676fb6f87b8d9ff06cf1c0a8eb6ae6d3a987a1ec4", func := "etui/etuilaw06.InflateCuts", spec := "inflateCuts", unfollowed := true, recurses := true, named := ["etui/inflate.ownOrder"], apart := false, laid := [("etui/inflate.ownOrder", laid_etui_inflate_ownOrder)] }
def InflateCutsSaid : Prop := inflateCutsRow.holds Tryd.pinned (OpenSpec.ofChange inflateCutsSpec)

/-- ITS FALSE NEIGHBOUR: 'it returns false'. Refute it at one input. -/
def inflateCutsWrong : ChangeSpec := { name := "inflateCuts", fn := fun _ => fun
  | [d1, d2, d3] => { results := [.lit (.bool false)], args := [d1, d2, d3] }
  | _ => none }
def InflateCutsWrongFalsely : Prop := inflateCutsRow.holds Tryd.pinned (OpenSpec.ofChange inflateCutsWrong)

/-- 'etuilaw06.InflateStored': WHATEVER THE INPUT: true; the input reads as it did. -/
def inflateStoredSpec : ChangeSpec := { name := "inflateStored", fn := fun _ => fun
  | [d] => { results := [.lit (.bool true)], args := [d] }
  | _ => none }
def inflateStoredRow : OpenClaim := { program := "ytnnkegpnjedneaadoor", sum := "bd41661087a979323c27e08676fb6f87b8d9ff06cf1c0a8eb6ae6d3a987a1ec4", func := "etui/etuilaw06.InflateStored", spec := "inflateStored", unfollowed := true, recurses := true, named := ["etui/inflate.ownOrder"], apart := false, laid := [("etui/inflate.ownOrder", laid_etui_inflate_ownOrder)] }
def InflateStoredSaid : Prop := inflateStoredRow.holds Tryd.pinned (OpenSpec.ofChange inflateStoredSpec)

/-- ITS FALSE NEIGHBOUR: 'it returns false'. Refute it at one input. -/
def inflateStoredWrong : ChangeSpec := { name := "inflateStored", fn := fun _ => fun
  | [d] => { results := [.lit (.bool false)], args := [d] }
  | _ => none }
def InflateStoredWrongFalsely : Prop := inflateStoredRow.holds Tryd.pinned (OpenSpec.ofChange inflateStoredWrong)

/-- 'etuilaw06.InflateFixed': WHATEVER THE INPUT: true; the input reads as it did. -/
def inflateFixedSpec : ChangeSpec := { name := "inflateFixed", fn := fun _ => fun
  | [d1, d2, d3, d4, d5] => { results := [.lit (.bool true)], args := [d1, d2, d3, d4, d5] }
  | _ => none }
def inflateFixedRow : OpenClaim := { program := "ytnnkegpnjedneaadoor", sum := "bd41661087a979323c27e08676fb6f87b8d9ff06cf1c0a8eb6ae6d3a987a1ec4", func := "etui/etuilaw06.InflateFixed", spec := "inflateFixed", unfollowed := true, recurses := true, named := ["etui/inflate.ownOrder"], apart := false, laid := [("etui/inflate.ownOrder", laid_etui_inflate_ownOrder)] }
def InflateFixedSaid : Prop := inflateFixedRow.holds Tryd.pinned (OpenSpec.ofChange inflateFixedSpec)

/-- ITS FALSE NEIGHBOUR: 'it returns false'. Refute it at one input. -/
def inflateFixedWrong : ChangeSpec := { name := "inflateFixed", fn := fun _ => fun
  | [d1, d2, d3, d4, d5] => { results := [.lit (.bool false)], args := [d1, d2, d3, d4, d5] }
  | _ => none }
def InflateFixedWrongFalsely : Prop := inflateFixedRow.holds Tryd.pinned (OpenSpec.ofChange inflateFixedWrong)

/-- 'etuilaw06.InflateTwo': WHATEVER THE INPUT: true; the input reads as it did. -/
def inflateTwoSpec : ChangeSpec := { name := "inflateTwo", fn := fun _ => fun
  | [d1, d2] => { results := [.lit (.bool true)], args := [d1, d2] }
  | _ => none }
def inflateTwoRow : OpenClaim := { program := "ytnnkegpnjedneaadoor", sum := "bd41661087a979323c27e08676fb6f87b8d9ff06cf1c0a8eb6ae6d3a987a1ec4", func := "etui/etuilaw06.InflateTwo", spec := "inflateTwo", unfollowed := true, recurses := true, named := ["etui/inflate.ownOrder"], apart := false, laid := [("etui/inflate.ownOrder", laid_etui_inflate_ownOrder)] }
def InflateTwoSaid : Prop := inflateTwoRow.holds Tryd.pinned (OpenSpec.ofChange inflateTwoSpec)

/-- ITS FALSE NEIGHBOUR: 'it returns false'. Refute it at one input. -/
def inflateTwoWrong : ChangeSpec := { name := "inflateTwo", fn := fun _ => fun
  | [d1, d2] => { results := [.lit (.bool false)], args := [d1, d2] }
  | _ => none }
def InflateTwoWrongFalsely : Prop := inflateTwoRow.holds Tryd.pinned (OpenSpec.ofChange inflateTwoWrong)

/- THE SECOND FORM. 'bulk': how many values and letters a reading holds, each counted each time it is reached (what is shared counts as often as it is met; a slice's spare places count too). A statement '..UptoSaid' is the law's where the arguments, and the package variables that the reading takes, are together of bulk at most 1048576: NARROWER than '..Said'. Prove '..Said' where nothing that the law and all that it calls make is longer than what came in: it says more and counts as full. Else prove '..UptoSaid'. A law counts once. -/
mutual
def uptoBulk {H : Type} : DataW H → Nat
  | .lit (.string bytes) => bytes.length + 1
  | .lit _ => 1
  | .nil => 1
  | .ptr d => uptoBulk d + 1
  | .slice elems spare => uptoBulkAll elems + uptoBulkAll spare + 1
  | .agg parts => uptoBulkAll parts + 1
  | .iface _ d => uptoBulk d + 1
  | .map entries => uptoBulkEntries entries + 1
  | .held _ => 1
def uptoBulkAll {H : Type} : List (DataW H) → Nat
  | [] => 0
  | d :: r => uptoBulk d + uptoBulkAll r
def uptoBulkEntries {H : Type} : List (Lit × DataW H) → Nat
  | [] => 0
  | x :: r => uptoBulkEntry x + uptoBulkEntries r
def uptoBulkEntry {H : Type} : Lit × DataW H → Nat
  | (.string bytes, d) => bytes.length + uptoBulk d + 1
  | (_, d) => uptoBulk d + 1
 end
def uptoSmall : (H : Type) → List (DataW H) → Bool := fun _ ds => decide (uptoBulkAll ds ≤ 1048576)
def OpenSpec.upto (s : _root_.Go.ChangeSpec) : _root_.Go.OpenSpec := { _root_.Go.OpenSpec.ofChange s with cond := some uptoSmall }

/-- 'etuilaw06.InflateAnswers', WHERE WHAT IT READS IS OF BULK AT MOST 1048576: true; the input reads as it did. -/
def inflateAnswersUptoRow : OpenClaim := { program := "ytnnkegpnjedneaadoor", sum := "bd41661087a979323c27e08676fb6f87b8d9ff06cf1c0a8eb6ae6d3a987a1ec4", func := "etui/etuilaw06.InflateAnswers", spec := "inflateAnswers", unfollowed := true, recurses := true, named := ["etui/inflate.ownOrder"], apart := false, laid := [("etui/inflate.ownOrder", laid_etui_inflate_ownOrder)], narrowed := true }
def InflateAnswersUptoSaid : Prop := inflateAnswersUptoRow.holds Tryd.pinned (OpenSpec.upto inflateAnswersSpec)

/-- 'etuilaw06.InflateTables', WHERE WHAT IT READS IS OF BULK AT MOST 1048576: true; the input reads as it did. -/
def inflateTablesUptoRow : OpenClaim := { program := "ytnnkegpnjedneaadoor", sum := "bd41661087a979323c27e08676fb6f87b8d9ff06cf1c0a8eb6ae6d3a987a1ec4", func := "etui/etuilaw06.InflateTables", spec := "inflateTables", unfollowed := true, recurses := true, named := ["etui/inflate.ownOrder"], apart := false, laid := [("etui/inflate.ownOrder", laid_etui_inflate_ownOrder)], narrowed := true }
def InflateTablesUptoSaid : Prop := inflateTablesUptoRow.holds Tryd.pinned (OpenSpec.upto inflateTablesSpec)

/-- 'etuilaw06.InflateLimit', WHERE WHAT IT READS IS OF BULK AT MOST 1048576: true; the input reads as it did. -/
def inflateLimitUptoRow : OpenClaim := { program := "ytnnkegpnjedneaadoor", sum := "bd41661087a979323c27e08676fb6f87b8d9ff06cf1c0a8eb6ae6d3a987a1ec4", func := "etui/etuilaw06.InflateLimit", spec := "inflateLimit", unfollowed := true, recurses := true, named := ["etui/inflate.ownOrder"], apart := false, laid := [("etui/inflate.ownOrder", laid_etui_inflate_ownOrder)], narrowed := true }
def InflateLimitUptoSaid : Prop := inflateLimitUptoRow.holds Tryd.pinned (OpenSpec.upto inflateLimitSpec)

/-- 'etuilaw06.InflateCuts', WHERE WHAT IT READS IS OF BULK AT MOST 1048576: true; the input reads as it did. -/
def inflateCutsUptoRow : OpenClaim := { program := "ytnnkegpnjedneaadoor", sum := "bd41661087a979323c27e08676fb6f87b8d9ff06cf1c0a8eb6ae6d3a987a1ec4", func := "etui/etuilaw06.InflateCuts", spec := "inflateCuts", unfollowed := true, recurses := true, named := ["etui/inflate.ownOrder"], apart := false, laid := [("etui/inflate.ownOrder", laid_etui_inflate_ownOrder)], narrowed := true }
def InflateCutsUptoSaid : Prop := inflateCutsUptoRow.holds Tryd.pinned (OpenSpec.upto inflateCutsSpec)

/-- 'etuilaw06.InflateStored', WHERE WHAT IT READS IS OF BULK AT MOST 1048576: true; the input reads as it did. -/
def inflateStoredUptoRow : OpenClaim := { program := "ytnnkegpnjedneaadoor", sum := "bd41661087a979323c27e08676fb6f87b8d9ff06cf1c0a8eb6ae6d3a987a1ec4", func := "etui/etuilaw06.InflateStored", spec := "inflateStored", unfollowed := true, recurses := true, named := ["etui/inflate.ownOrder"], apart := false, laid := [("etui/inflate.ownOrder", laid_etui_inflate_ownOrder)], narrowed := true }
def InflateStoredUptoSaid : Prop := inflateStoredUptoRow.holds Tryd.pinned (OpenSpec.upto inflateStoredSpec)

/-- 'etuilaw06.InflateFixed', WHERE WHAT IT READS IS OF BULK AT MOST 1048576: true; the input reads as it did. -/
def inflateFixedUptoRow : OpenClaim := { program := "ytnnkegpnjedneaadoor", sum := "bd41661087a979323c27e08676fb6f87b8d9ff06cf1c0a8eb6ae6d3a987a1ec4", func := "etui/etuilaw06.InflateFixed", spec := "inflateFixed", unfollowed := true, recurses := true, named := ["etui/inflate.ownOrder"], apart := false, laid := [("etui/inflate.ownOrder", laid_etui_inflate_ownOrder)], narrowed := true }
def InflateFixedUptoSaid : Prop := inflateFixedUptoRow.holds Tryd.pinned (OpenSpec.upto inflateFixedSpec)

/-- 'etuilaw06.InflateTwo', WHERE WHAT IT READS IS OF BULK AT MOST 1048576: true; the input reads as it did. -/
def inflateTwoUptoRow : OpenClaim := { program := "ytnnkegpnjedneaadoor", sum := "bd41661087a979323c27e08676fb6f87b8d9ff06cf1c0a8eb6ae6d3a987a1ec4", func := "etui/etuilaw06.InflateTwo", spec := "inflateTwo", unfollowed := true, recurses := true, named := ["etui/inflate.ownOrder"], apart := false, laid := [("etui/inflate.ownOrder", laid_etui_inflate_ownOrder)], narrowed := true }
def InflateTwoUptoSaid : Prop := inflateTwoUptoRow.holds Tryd.pinned (OpenSpec.upto inflateTwoSpec)

end Rows
end Go.Proofs.YtnnkegpnjedneaaDoor
