/-
  NARROWER THAN 'FOR EVERY INPUT', by the rows' own cells (each row's printed sentence says how): ZiprReads: laid · ZiprNames: laid · ZiprStored: laid · ZiprLimits: laid · ZiprFlips: laid · ZiprRemark: laid.
  DERIVED. THE GIVEN ROWS OF THIS SEAT. 6 by the template 'for every input the law returns true; each argument reads behind the call as it read before'; 0 by the template 'total and deterministic' (their statements: YthbbpooobaahiaaGreatDoorTotals.lean).
  GIVEN WITH THE SEED: the statements are not yours to turn. If you find one false, say at which input.
  Laid BY PROGRAM, IN A SANDBOX (cutbox-rows.mjs): the forced cells as the released guide's own fill.sh prints them over the translation 34d0a2d25c8bf52f… (all of the seat's roots in one cut). By AI agents, Wed Nov 11 2026. No macro, syntax, notation, axiom, sorry.
-/
import Derived.Test.YthbbpooobaahiaaGreatDoorChecked
import GoSem.PinnedTables
import GoSem.Claim
import GoSem.ClaimJoined
import GoSem.ClaimMapViews
import Derived.JoinedTies
import Derived.KernelRfl
namespace Go.Proofs.YthbbpooobaahiaaGreatDoor
/- THE CELL 'sum', in the pinned program and in every row, IS THE sha256 OF THE DUMP (.gsa) THAT YthbbpooobaahiaaGreatDoorProg.lean LOADS. Nothing in Lean hashes anything: it is a label: what it is worth is what the hold of that sum in a sandbox is worth. -/
noncomputable def Tryz.pinned : Pinned := { name := "ythbbpooobaahiaagreatdoor", sum := "34d0a2d25c8bf52f692f7c19feffad2091aabca0db75ed59339d3848fac92db4", checked := Tryz.checked }
namespace Rows
def none {H : Type} : Left H := { results := [], args := [] }

/- WHAT THE LISTED PACKAGE-LEVEL VARIABLES READ AS WHEN THE CALL BEGINS. Each datum BY PROGRAM (the guide's laid-datum.mjs) off the statement by which the dump's own 'gosem.cut.vars' lays the variable. In a bare row this is a premise. The card (YthbbpooobaahiaaGreatDoorCards.lean) ties it to the program's text. -/
def laid_unicode_utf8_acceptRanges {H : Type} : DataW H := .agg [.agg [.lit (.int .u8 128), .lit (.int .u8 191)], .agg [.lit (.int .u8 160), .lit (.int .u8 191)], .agg [.lit (.int .u8 128), .lit (.int .u8 159)], .agg [.lit (.int .u8 144), .lit (.int .u8 191)], .agg [.lit (.int .u8 128), .lit (.int .u8 143)], .agg [.lit (.int .u8 0), .lit (.int .u8 0)], .agg [.lit (.int .u8 0), .lit (.int .u8 0)], .agg [.lit (.int .u8 0), .lit (.int .u8 0)], .agg [.lit (.int .u8 0), .lit (.int .u8 0)], .agg [.lit (.int .u8 0), .lit (.int .u8 0)], .agg [.lit (.int .u8 0), .lit (.int .u8 0)], .agg [.lit (.int .u8 0), .lit (.int .u8 0)], .agg [.lit (.int .u8 0), .lit (.int .u8 0)], .agg [.lit (.int .u8 0), .lit (.int .u8 0)], .agg [.lit (.int .u8 0), .lit (.int .u8 0)], .agg [.lit (.int .u8 0), .lit (.int .u8 0)]]
def laid_etui_inflate_ownOrder {H : Type} : DataW H := .agg [.lit (.int .i64 16), .lit (.int .i64 17), .lit (.int .i64 18), .lit (.int .i64 0), .lit (.int .i64 8), .lit (.int .i64 7), .lit (.int .i64 9), .lit (.int .i64 6), .lit (.int .i64 10), .lit (.int .i64 5), .lit (.int .i64 11), .lit (.int .i64 4), .lit (.int .i64 12), .lit (.int .i64 3), .lit (.int .i64 13), .lit (.int .i64 2), .lit (.int .i64 14), .lit (.int .i64 1), .lit (.int .i64 15)]
/-- One of Go's own tables, pinned by name: the form's constant. -/
def laid_unicode_utf8_first : DataW Unit := Go.Pinned.utf8First

/-- 'etuilaw09.ZiprReads': WHATEVER THE INPUT: true; the input reads as it did. -/
def ziprReadsSpec : ChangeSpec := { name := "ziprReads", fn := fun _ => fun
  | [d1, d2] => { results := [.lit (.bool true)], args := [d1, d2] }
  | _ => none }
def ziprReadsRow : OpenClaim := { program := "ythbbpooobaahiaagreatdoor", sum := "34d0a2d25c8bf52f692f7c19feffad2091aabca0db75ed59339d3848fac92db4", func := "etui/etuilaw09.ZiprReads", spec := "ziprReads", inPlace := ["internal/bytealg.CountString", "internal/bytealg.IndexByteString", "internal/bytealg.IndexString"], unfollowed := true, recurses := true, named := ["unicode/utf8.first", "unicode/utf8.acceptRanges", "internal/bytealg.MaxLen", "etui/inflate.ownOrder"], apart := false, laid := [("unicode/utf8.acceptRanges", laid_unicode_utf8_acceptRanges), ("etui/inflate.ownOrder", laid_etui_inflate_ownOrder), ("unicode/utf8.first", laid_unicode_utf8_first)] }
def ZiprReadsSaid : Prop := ziprReadsRow.holds Tryz.pinned (OpenSpec.ofChange ziprReadsSpec)

/-- ITS FALSE NEIGHBOUR: 'it returns false'. Refute it at one input. -/
def ziprReadsWrong : ChangeSpec := { name := "ziprReads", fn := fun _ => fun
  | [d1, d2] => { results := [.lit (.bool false)], args := [d1, d2] }
  | _ => none }
def ZiprReadsWrongFalsely : Prop := ziprReadsRow.holds Tryz.pinned (OpenSpec.ofChange ziprReadsWrong)

/-- 'etuilaw09.ZiprNames': WHATEVER THE INPUT: true; the input reads as it did. -/
def ziprNamesSpec : ChangeSpec := { name := "ziprNames", fn := fun _ => fun
  | [d1, d2] => { results := [.lit (.bool true)], args := [d1, d2] }
  | _ => none }
def ziprNamesRow : OpenClaim := { program := "ythbbpooobaahiaagreatdoor", sum := "34d0a2d25c8bf52f692f7c19feffad2091aabca0db75ed59339d3848fac92db4", func := "etui/etuilaw09.ZiprNames", spec := "ziprNames", inPlace := ["internal/bytealg.CountString", "internal/bytealg.IndexByteString", "internal/bytealg.IndexString"], unfollowed := true, recurses := true, named := ["unicode/utf8.first", "unicode/utf8.acceptRanges", "internal/bytealg.MaxLen", "etui/inflate.ownOrder"], apart := false, laid := [("unicode/utf8.acceptRanges", laid_unicode_utf8_acceptRanges), ("etui/inflate.ownOrder", laid_etui_inflate_ownOrder), ("unicode/utf8.first", laid_unicode_utf8_first)] }
def ZiprNamesSaid : Prop := ziprNamesRow.holds Tryz.pinned (OpenSpec.ofChange ziprNamesSpec)

/-- ITS FALSE NEIGHBOUR: 'it returns false'. Refute it at one input. -/
def ziprNamesWrong : ChangeSpec := { name := "ziprNames", fn := fun _ => fun
  | [d1, d2] => { results := [.lit (.bool false)], args := [d1, d2] }
  | _ => none }
def ZiprNamesWrongFalsely : Prop := ziprNamesRow.holds Tryz.pinned (OpenSpec.ofChange ziprNamesWrong)

/-- 'etuilaw09.ZiprStored': WHATEVER THE INPUT: true; the input reads as it did. -/
def ziprStoredSpec : ChangeSpec := { name := "ziprStored", fn := fun _ => fun
  | [d1, d2, d3] => { results := [.lit (.bool true)], args := [d1, d2, d3] }
  | _ => none }
def ziprStoredRow : OpenClaim := { program := "ythbbpooobaahiaagreatdoor", sum := "34d0a2d25c8bf52f692f7c19feffad2091aabca0db75ed59339d3848fac92db4", func := "etui/etuilaw09.ZiprStored", spec := "ziprStored", inPlace := ["internal/bytealg.CountString", "internal/bytealg.IndexByteString", "internal/bytealg.IndexString"], unfollowed := true, recurses := true, named := ["unicode/utf8.first", "unicode/utf8.acceptRanges", "internal/bytealg.MaxLen", "etui/inflate.ownOrder"], apart := false, laid := [("unicode/utf8.acceptRanges", laid_unicode_utf8_acceptRanges), ("etui/inflate.ownOrder", laid_etui_inflate_ownOrder), ("unicode/utf8.first", laid_unicode_utf8_first)] }
def ZiprStoredSaid : Prop := ziprStoredRow.holds Tryz.pinned (OpenSpec.ofChange ziprStoredSpec)

/-- ITS FALSE NEIGHBOUR: 'it returns false'. Refute it at one input. -/
def ziprStoredWrong : ChangeSpec := { name := "ziprStored", fn := fun _ => fun
  | [d1, d2, d3] => { results := [.lit (.bool false)], args := [d1, d2, d3] }
  | _ => none }
def ZiprStoredWrongFalsely : Prop := ziprStoredRow.holds Tryz.pinned (OpenSpec.ofChange ziprStoredWrong)

/-- 'etuilaw09.ZiprLimits': WHATEVER THE INPUT: true; the input reads as it did. -/
def ziprLimitsSpec : ChangeSpec := { name := "ziprLimits", fn := fun _ => fun
  | [d] => { results := [.lit (.bool true)], args := [d] }
  | _ => none }
def ziprLimitsRow : OpenClaim := { program := "ythbbpooobaahiaagreatdoor", sum := "34d0a2d25c8bf52f692f7c19feffad2091aabca0db75ed59339d3848fac92db4", func := "etui/etuilaw09.ZiprLimits", spec := "ziprLimits", inPlace := ["internal/bytealg.CountString", "internal/bytealg.IndexByteString", "internal/bytealg.IndexString"], unfollowed := true, recurses := true, named := ["unicode/utf8.first", "unicode/utf8.acceptRanges", "internal/bytealg.MaxLen", "etui/inflate.ownOrder"], apart := false, laid := [("unicode/utf8.acceptRanges", laid_unicode_utf8_acceptRanges), ("etui/inflate.ownOrder", laid_etui_inflate_ownOrder), ("unicode/utf8.first", laid_unicode_utf8_first)] }
def ZiprLimitsSaid : Prop := ziprLimitsRow.holds Tryz.pinned (OpenSpec.ofChange ziprLimitsSpec)

/-- ITS FALSE NEIGHBOUR: 'it returns false'. Refute it at one input. -/
def ziprLimitsWrong : ChangeSpec := { name := "ziprLimits", fn := fun _ => fun
  | [d] => { results := [.lit (.bool false)], args := [d] }
  | _ => none }
def ZiprLimitsWrongFalsely : Prop := ziprLimitsRow.holds Tryz.pinned (OpenSpec.ofChange ziprLimitsWrong)

/-- 'etuilaw09.ZiprFlips': WHATEVER THE INPUT: true; the input reads as it did. -/
def ziprFlipsSpec : ChangeSpec := { name := "ziprFlips", fn := fun _ => fun
  | [d1, d2, d3, d4] => { results := [.lit (.bool true)], args := [d1, d2, d3, d4] }
  | _ => none }
def ziprFlipsRow : OpenClaim := { program := "ythbbpooobaahiaagreatdoor", sum := "34d0a2d25c8bf52f692f7c19feffad2091aabca0db75ed59339d3848fac92db4", func := "etui/etuilaw09.ZiprFlips", spec := "ziprFlips", inPlace := ["internal/bytealg.CountString", "internal/bytealg.IndexByteString", "internal/bytealg.IndexString"], unfollowed := true, recurses := true, named := ["unicode/utf8.first", "unicode/utf8.acceptRanges", "internal/bytealg.MaxLen", "etui/inflate.ownOrder"], apart := false, laid := [("unicode/utf8.acceptRanges", laid_unicode_utf8_acceptRanges), ("etui/inflate.ownOrder", laid_etui_inflate_ownOrder), ("unicode/utf8.first", laid_unicode_utf8_first)] }
def ZiprFlipsSaid : Prop := ziprFlipsRow.holds Tryz.pinned (OpenSpec.ofChange ziprFlipsSpec)

/-- ITS FALSE NEIGHBOUR: 'it returns false'. Refute it at one input. -/
def ziprFlipsWrong : ChangeSpec := { name := "ziprFlips", fn := fun _ => fun
  | [d1, d2, d3, d4] => { results := [.lit (.bool false)], args := [d1, d2, d3, d4] }
  | _ => none }
def ZiprFlipsWrongFalsely : Prop := ziprFlipsRow.holds Tryz.pinned (OpenSpec.ofChange ziprFlipsWrong)

/-- 'etuilaw09.ZiprRemark': WHATEVER THE INPUT: true; the input reads as it did. -/
def ziprRemarkSpec : ChangeSpec := { name := "ziprRemark", fn := fun _ => fun
  | [d1, d2, d3] => { results := [.lit (.bool true)], args := [d1, d2, d3] }
  | _ => none }
def ziprRemarkRow : OpenClaim := { program := "ythbbpooobaahiaagreatdoor", sum := "34d0a2d25c8bf52f692f7c19feffad2091aabca0db75ed59339d3848fac92db4", func := "etui/etuilaw09.ZiprRemark", spec := "ziprRemark", inPlace := ["internal/bytealg.CountString", "internal/bytealg.IndexByteString", "internal/bytealg.IndexString"], unfollowed := true, recurses := true, named := ["unicode/utf8.first", "unicode/utf8.acceptRanges", "internal/bytealg.MaxLen", "etui/inflate.ownOrder"], apart := false, laid := [("unicode/utf8.acceptRanges", laid_unicode_utf8_acceptRanges), ("etui/inflate.ownOrder", laid_etui_inflate_ownOrder), ("unicode/utf8.first", laid_unicode_utf8_first)] }
def ZiprRemarkSaid : Prop := ziprRemarkRow.holds Tryz.pinned (OpenSpec.ofChange ziprRemarkSpec)

/-- ITS FALSE NEIGHBOUR: 'it returns false'. Refute it at one input. -/
def ziprRemarkWrong : ChangeSpec := { name := "ziprRemark", fn := fun _ => fun
  | [d1, d2, d3] => { results := [.lit (.bool false)], args := [d1, d2, d3] }
  | _ => none }
def ZiprRemarkWrongFalsely : Prop := ziprRemarkRow.holds Tryz.pinned (OpenSpec.ofChange ziprRemarkWrong)

/- THE SECOND FORM. 'bulk': how many values and letters a reading holds, each counted each time it is reached (what is shared counts as often as it is met; a slice's spare places count too). A statement '..UptoSaid' is the law's where the arguments, and the package variables that the reading takes, are together of bulk at most 1048576: NARROWER than '..Said'. Prove '..Said' where nothing that the law and all that it calls make is longer than what came in: it says more and counts as full. Else prove '..UptoSaid'. A law counts once. -/
mutual
def uptoBulk {H : Type} : DataW H → Nat
  | .lit (.string bytes) => bytes.length + 1
  | .lit _ => 1
  | .nil => 1
  | .ptr d => uptoBulk d + 1
  | .slice elems spare => uptoBulkAll elems + uptoBulkAll spare + 1
  | .agg parts => uptoBulkAll parts + 1
  | .iface _ d => uptoBulk d + 1
  | .map entries => uptoBulkEntries entries + 1
  | .held _ => 1
def uptoBulkAll {H : Type} : List (DataW H) → Nat
  | [] => 0
  | d :: r => uptoBulk d + uptoBulkAll r
def uptoBulkEntries {H : Type} : List (Lit × DataW H) → Nat
  | [] => 0
  | x :: r => uptoBulkEntry x + uptoBulkEntries r
def uptoBulkEntry {H : Type} : Lit × DataW H → Nat
  | (.string bytes, d) => bytes.length + uptoBulk d + 1
  | (_, d) => uptoBulk d + 1
 end
def uptoSmall : (H : Type) → List (DataW H) → Bool := fun _ ds => decide (uptoBulkAll ds ≤ 1048576)
def OpenSpec.upto (s : _root_.Go.ChangeSpec) : _root_.Go.OpenSpec := { _root_.Go.OpenSpec.ofChange s with cond := some uptoSmall }

/-- 'etuilaw09.ZiprReads', WHERE WHAT IT READS IS OF BULK AT MOST 1048576: true; the input reads as it did. -/
def ziprReadsUptoRow : OpenClaim := { program := "ythbbpooobaahiaagreatdoor", sum := "34d0a2d25c8bf52f692f7c19feffad2091aabca0db75ed59339d3848fac92db4", func := "etui/etuilaw09.ZiprReads", spec := "ziprReads", inPlace := ["internal/bytealg.CountString", "internal/bytealg.IndexByteString", "internal/bytealg.IndexString"], unfollowed := true, recurses := true, named := ["unicode/utf8.first", "unicode/utf8.acceptRanges", "internal/bytealg.MaxLen", "etui/inflate.ownOrder"], apart := false, laid := [("unicode/utf8.acceptRanges", laid_unicode_utf8_acceptRanges), ("etui/inflate.ownOrder", laid_etui_inflate_ownOrder), ("unicode/utf8.first", laid_unicode_utf8_first)], narrowed := true }
def ZiprReadsUptoSaid : Prop := ziprReadsUptoRow.holds Tryz.pinned (OpenSpec.upto ziprReadsSpec)

/-- 'etuilaw09.ZiprNames', WHERE WHAT IT READS IS OF BULK AT MOST 1048576: true; the input reads as it did. -/
def ziprNamesUptoRow : OpenClaim := { program := "ythbbpooobaahiaagreatdoor", sum := "34d0a2d25c8bf52f692f7c19feffad2091aabca0db75ed59339d3848fac92db4", func := "etui/etuilaw09.ZiprNames", spec := "ziprNames", inPlace := ["internal/bytealg.CountString", "internal/bytealg.IndexByteString", "internal/bytealg.IndexString"], unfollowed := true, recurses := true, named := ["unicode/utf8.first", "unicode/utf8.acceptRanges", "internal/bytealg.MaxLen", "etui/inflate.ownOrder"], apart := false, laid := [("unicode/utf8.acceptRanges", laid_unicode_utf8_acceptRanges), ("etui/inflate.ownOrder", laid_etui_inflate_ownOrder), ("unicode/utf8.first", laid_unicode_utf8_first)], narrowed := true }
def ZiprNamesUptoSaid : Prop := ziprNamesUptoRow.holds Tryz.pinned (OpenSpec.upto ziprNamesSpec)

/-- 'etuilaw09.ZiprStored', WHERE WHAT IT READS IS OF BULK AT MOST 1048576: true; the input reads as it did. -/
def ziprStoredUptoRow : OpenClaim := { program := "ythbbpooobaahiaagreatdoor", sum := "34d0a2d25c8bf52f692f7c19feffad2091aabca0db75ed59339d3848fac92db4", func := "etui/etuilaw09.ZiprStored", spec := "ziprStored", inPlace := ["internal/bytealg.CountString", "internal/bytealg.IndexByteString", "internal/bytealg.IndexString"], unfollowed := true, recurses := true, named := ["unicode/utf8.first", "unicode/utf8.acceptRanges", "internal/bytealg.MaxLen", "etui/inflate.ownOrder"], apart := false, laid := [("unicode/utf8.acceptRanges", laid_unicode_utf8_acceptRanges), ("etui/inflate.ownOrder", laid_etui_inflate_ownOrder), ("unicode/utf8.first", laid_unicode_utf8_first)], narrowed := true }
def ZiprStoredUptoSaid : Prop := ziprStoredUptoRow.holds Tryz.pinned (OpenSpec.upto ziprStoredSpec)

/-- 'etuilaw09.ZiprLimits', WHERE WHAT IT READS IS OF BULK AT MOST 1048576: true; the input reads as it did. -/
def ziprLimitsUptoRow : OpenClaim := { program := "ythbbpooobaahiaagreatdoor", sum := "34d0a2d25c8bf52f692f7c19feffad2091aabca0db75ed59339d3848fac92db4", func := "etui/etuilaw09.ZiprLimits", spec := "ziprLimits", inPlace := ["internal/bytealg.CountString", "internal/bytealg.IndexByteString", "internal/bytealg.IndexString"], unfollowed := true, recurses := true, named := ["unicode/utf8.first", "unicode/utf8.acceptRanges", "internal/bytealg.MaxLen", "etui/inflate.ownOrder"], apart := false, laid := [("unicode/utf8.acceptRanges", laid_unicode_utf8_acceptRanges), ("etui/inflate.ownOrder", laid_etui_inflate_ownOrder), ("unicode/utf8.first", laid_unicode_utf8_first)], narrowed := true }
def ZiprLimitsUptoSaid : Prop := ziprLimitsUptoRow.holds Tryz.pinned (OpenSpec.upto ziprLimitsSpec)

/-- 'etuilaw09.ZiprFlips', WHERE WHAT IT READS IS OF BULK AT MOST 1048576: true; the input reads as it did. -/
def ziprFlipsUptoRow : OpenClaim := { program := "ythbbpooobaahiaagreatdoor", sum := "34d0a2d25c8bf52f692f7c19feffad2091aabca0db75ed59339d3848fac92db4", func := "etui/etuilaw09.ZiprFlips", spec := "ziprFlips", inPlace := ["internal/bytealg.CountString", "internal/bytealg.IndexByteString", "internal/bytealg.IndexString"], unfollowed := true, recurses := true, named := ["unicode/utf8.first", "unicode/utf8.acceptRanges", "internal/bytealg.MaxLen", "etui/inflate.ownOrder"], apart := false, laid := [("unicode/utf8.acceptRanges", laid_unicode_utf8_acceptRanges), ("etui/inflate.ownOrder", laid_etui_inflate_ownOrder), ("unicode/utf8.first", laid_unicode_utf8_first)], narrowed := true }
def ZiprFlipsUptoSaid : Prop := ziprFlipsUptoRow.holds Tryz.pinned (OpenSpec.upto ziprFlipsSpec)

/-- 'etuilaw09.ZiprRemark', WHERE WHAT IT READS IS OF BULK AT MOST 1048576: true; the input reads as it did. -/
def ziprRemarkUptoRow : OpenClaim := { program := "ythbbpooobaahiaagreatdoor", sum := "34d0a2d25c8bf52f692f7c19feffad2091aabca0db75ed59339d3848fac92db4", func := "etui/etuilaw09.ZiprRemark", spec := "ziprRemark", inPlace := ["internal/bytealg.CountString", "internal/bytealg.IndexByteString", "internal/bytealg.IndexString"], unfollowed := true, recurses := true, named := ["unicode/utf8.first", "unicode/utf8.acceptRanges", "internal/bytealg.MaxLen", "etui/inflate.ownOrder"], apart := false, laid := [("unicode/utf8.acceptRanges", laid_unicode_utf8_acceptRanges), ("etui/inflate.ownOrder", laid_etui_inflate_ownOrder), ("unicode/utf8.first", laid_unicode_utf8_first)], narrowed := true }
def ZiprRemarkUptoSaid : Prop := ziprRemarkUptoRow.holds Tryz.pinned (OpenSpec.upto ziprRemarkSpec)

end Rows
end Go.Proofs.YthbbpooobaahiaaGreatDoor
