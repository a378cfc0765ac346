/-
  NARROWER THAN 'FOR EVERY INPUT', by the rows' own cells (each row's printed sentence says how): CursPlays: laid · CursViews: laid · CursBack: laid · CursNone: laid · CursSeams: laid.
  DERIVED. THE GIVEN ROWS OF THIS SEAT. 5 by the template 'for every input the law returns true; each argument reads behind the call as it read before'; 0 by the template 'total and deterministic' (their statements: YtdpjcbljeklhmaaDoorTotals.lean).
  GIVEN WITH THE SEED: the statements are not yours to turn. If you find one false, say at which input.
  Laid BY PROGRAM, IN A SANDBOX (cutbox-rows.mjs): the forced cells as the released guide's own fill.sh prints them over the translation e5a410e0a683522f… (all of the seat's roots in one cut). By AI agents, Wed Nov 11 2026. No macro, syntax, notation, axiom, sorry.
-/
import Derived.Test.YtdpjcbljeklhmaaDoorChecked
import GoSem.PinnedTables
import GoSem.Claim
import GoSem.ClaimJoined
import GoSem.ClaimMapViews
import Derived.JoinedTies
import Derived.KernelRfl
namespace Go.Proofs.YtdpjcbljeklhmaaDoor
/- THE CELL 'sum', in the pinned program and in every row, IS THE sha256 OF THE DUMP (.gsa) THAT YtdpjcbljeklhmaaDoorProg.lean LOADS. Nothing in Lean hashes anything: it is a label: what it is worth is what the hold of that sum in a sandbox is worth. -/
noncomputable def Tryd.pinned : Pinned := { name := "ytdpjcbljeklhmaadoor", sum := "e5a410e0a683522f6682cf2809c7847a2e2a03b4983d2d379f233942be5aea6f", checked := Tryd.checked }
namespace Rows
def none {H : Type} : Left H := { results := [], args := [] }

/- WHAT THE LISTED PACKAGE-LEVEL VARIABLES READ AS WHEN THE CALL BEGINS. Each datum BY PROGRAM (the guide's laid-datum.mjs) off the statement by which the dump's own 'gosem.cut.vars' lays the variable. In a bare row this is a premise. The card (YtdpjcbljeklhmaaDoorCards.lean) ties it to the program's text. -/
def laid_unicode_utf8_acceptRanges {H : Type} : DataW H := .agg [.agg [.lit (.int .u8 128), .lit (.int .u8 191)], .agg [.lit (.int .u8 160), .lit (.int .u8 191)], .agg [.lit (.int .u8 128), .lit (.int .u8 159)], .agg [.lit (.int .u8 144), .lit (.int .u8 191)], .agg [.lit (.int .u8 128), .lit (.int .u8 143)], .agg [.lit (.int .u8 0), .lit (.int .u8 0)], .agg [.lit (.int .u8 0), .lit (.int .u8 0)], .agg [.lit (.int .u8 0), .lit (.int .u8 0)], .agg [.lit (.int .u8 0), .lit (.int .u8 0)], .agg [.lit (.int .u8 0), .lit (.int .u8 0)], .agg [.lit (.int .u8 0), .lit (.int .u8 0)], .agg [.lit (.int .u8 0), .lit (.int .u8 0)], .agg [.lit (.int .u8 0), .lit (.int .u8 0)], .agg [.lit (.int .u8 0), .lit (.int .u8 0)], .agg [.lit (.int .u8 0), .lit (.int .u8 0)], .agg [.lit (.int .u8 0), .lit (.int .u8 0)]]
/-- One of Go's own tables, pinned by name: the form's constant. -/
def laid_unicode_utf8_first : DataW Unit := Go.Pinned.utf8First

/-- 'obeluslaw5.CursPlays': WHATEVER THE INPUT: true; the input reads as it did. -/
def cursPlaysSpec : ChangeSpec := { name := "cursPlays", fn := fun _ => fun
  | [d1, d2, d3, d4] => { results := [.lit (.bool true)], args := [d1, d2, d3, d4] }
  | _ => none }
def cursPlaysRow : OpenClaim := { program := "ytdpjcbljeklhmaadoor", sum := "e5a410e0a683522f6682cf2809c7847a2e2a03b4983d2d379f233942be5aea6f", func := "obelus/obeluslaw5.CursPlays", spec := "cursPlays", inPlace := ["slices.overlaps[*obelus/gap.Chunk]", "internal/abi.NoEscape", "internal/bytealg.MakeNoZero"], named := ["unicode/utf8.first", "unicode/utf8.acceptRanges"], apart := false, laid := [("unicode/utf8.acceptRanges", laid_unicode_utf8_acceptRanges), ("unicode/utf8.first", laid_unicode_utf8_first)] }
def CursPlaysSaid : Prop := cursPlaysRow.holds Tryd.pinned (OpenSpec.ofChange cursPlaysSpec)

/-- ITS FALSE NEIGHBOUR: 'it returns false'. Refute it at one input. -/
def cursPlaysWrong : ChangeSpec := { name := "cursPlays", fn := fun _ => fun
  | [d1, d2, d3, d4] => { results := [.lit (.bool false)], args := [d1, d2, d3, d4] }
  | _ => none }
def CursPlaysWrongFalsely : Prop := cursPlaysRow.holds Tryd.pinned (OpenSpec.ofChange cursPlaysWrong)

/-- 'obeluslaw5.CursViews': WHATEVER THE INPUT: true; the input reads as it did. -/
def cursViewsSpec : ChangeSpec := { name := "cursViews", fn := fun _ => fun
  | [d1, d2, d3, d4] => { results := [.lit (.bool true)], args := [d1, d2, d3, d4] }
  | _ => none }
def cursViewsRow : OpenClaim := { program := "ytdpjcbljeklhmaadoor", sum := "e5a410e0a683522f6682cf2809c7847a2e2a03b4983d2d379f233942be5aea6f", func := "obelus/obeluslaw5.CursViews", spec := "cursViews", inPlace := ["slices.overlaps[*obelus/gap.Chunk]", "internal/abi.NoEscape", "internal/bytealg.MakeNoZero"], named := ["unicode/utf8.first", "unicode/utf8.acceptRanges"], apart := false, laid := [("unicode/utf8.acceptRanges", laid_unicode_utf8_acceptRanges), ("unicode/utf8.first", laid_unicode_utf8_first)] }
def CursViewsSaid : Prop := cursViewsRow.holds Tryd.pinned (OpenSpec.ofChange cursViewsSpec)

/-- ITS FALSE NEIGHBOUR: 'it returns false'. Refute it at one input. -/
def cursViewsWrong : ChangeSpec := { name := "cursViews", fn := fun _ => fun
  | [d1, d2, d3, d4] => { results := [.lit (.bool false)], args := [d1, d2, d3, d4] }
  | _ => none }
def CursViewsWrongFalsely : Prop := cursViewsRow.holds Tryd.pinned (OpenSpec.ofChange cursViewsWrong)

/-- 'obeluslaw5.CursBack': WHATEVER THE INPUT: true; the input reads as it did. -/
def cursBackSpec : ChangeSpec := { name := "cursBack", fn := fun _ => fun
  | [d1, d2, d3] => { results := [.lit (.bool true)], args := [d1, d2, d3] }
  | _ => none }
def cursBackRow : OpenClaim := { program := "ytdpjcbljeklhmaadoor", sum := "e5a410e0a683522f6682cf2809c7847a2e2a03b4983d2d379f233942be5aea6f", func := "obelus/obeluslaw5.CursBack", spec := "cursBack", inPlace := ["slices.overlaps[*obelus/gap.Chunk]", "internal/abi.NoEscape", "internal/bytealg.MakeNoZero"], named := ["unicode/utf8.first", "unicode/utf8.acceptRanges"], apart := false, laid := [("unicode/utf8.acceptRanges", laid_unicode_utf8_acceptRanges), ("unicode/utf8.first", laid_unicode_utf8_first)] }
def CursBackSaid : Prop := cursBackRow.holds Tryd.pinned (OpenSpec.ofChange cursBackSpec)

/-- ITS FALSE NEIGHBOUR: 'it returns false'. Refute it at one input. -/
def cursBackWrong : ChangeSpec := { name := "cursBack", fn := fun _ => fun
  | [d1, d2, d3] => { results := [.lit (.bool false)], args := [d1, d2, d3] }
  | _ => none }
def CursBackWrongFalsely : Prop := cursBackRow.holds Tryd.pinned (OpenSpec.ofChange cursBackWrong)

/-- 'obeluslaw5.CursNone': WHATEVER THE INPUT: true; the input reads as it did. -/
def cursNoneSpec : ChangeSpec := { name := "cursNone", fn := fun _ => fun
  | [d] => { results := [.lit (.bool true)], args := [d] }
  | _ => none }
def cursNoneRow : OpenClaim := { program := "ytdpjcbljeklhmaadoor", sum := "e5a410e0a683522f6682cf2809c7847a2e2a03b4983d2d379f233942be5aea6f", func := "obelus/obeluslaw5.CursNone", spec := "cursNone", inPlace := ["internal/abi.NoEscape", "internal/bytealg.MakeNoZero", "slices.overlaps[*obelus/gap.Chunk]"], named := ["unicode/utf8.first", "unicode/utf8.acceptRanges"], apart := false, laid := [("unicode/utf8.acceptRanges", laid_unicode_utf8_acceptRanges), ("unicode/utf8.first", laid_unicode_utf8_first)] }
def CursNoneSaid : Prop := cursNoneRow.holds Tryd.pinned (OpenSpec.ofChange cursNoneSpec)

/-- ITS FALSE NEIGHBOUR: 'it returns false'. Refute it at one input. -/
def cursNoneWrong : ChangeSpec := { name := "cursNone", fn := fun _ => fun
  | [d] => { results := [.lit (.bool false)], args := [d] }
  | _ => none }
def CursNoneWrongFalsely : Prop := cursNoneRow.holds Tryd.pinned (OpenSpec.ofChange cursNoneWrong)

/-- 'obeluslaw5.CursSeams': WHATEVER THE INPUT: true; the input reads as it did. -/
def cursSeamsSpec : ChangeSpec := { name := "cursSeams", fn := fun _ => fun
  | [d1, d2, d3, d4] => { results := [.lit (.bool true)], args := [d1, d2, d3, d4] }
  | _ => none }
def cursSeamsRow : OpenClaim := { program := "ytdpjcbljeklhmaadoor", sum := "e5a410e0a683522f6682cf2809c7847a2e2a03b4983d2d379f233942be5aea6f", func := "obelus/obeluslaw5.CursSeams", spec := "cursSeams", inPlace := ["slices.overlaps[*obelus/gap.Chunk]", "internal/abi.NoEscape", "internal/bytealg.MakeNoZero"], named := ["unicode/utf8.first", "unicode/utf8.acceptRanges"], apart := false, laid := [("unicode/utf8.acceptRanges", laid_unicode_utf8_acceptRanges), ("unicode/utf8.first", laid_unicode_utf8_first)] }
def CursSeamsSaid : Prop := cursSeamsRow.holds Tryd.pinned (OpenSpec.ofChange cursSeamsSpec)

/-- ITS FALSE NEIGHBOUR: 'it returns false'. Refute it at one input. -/
def cursSeamsWrong : ChangeSpec := { name := "cursSeams", fn := fun _ => fun
  | [d1, d2, d3, d4] => { results := [.lit (.bool false)], args := [d1, d2, d3, d4] }
  | _ => none }
def CursSeamsWrongFalsely : Prop := cursSeamsRow.holds Tryd.pinned (OpenSpec.ofChange cursSeamsWrong)

/- THE SECOND FORM. 'bulk': how many values and letters a reading holds, each counted each time it is reached (what is shared counts as often as it is met; a slice's spare places count too). A statement '..UptoSaid' is the law's where the arguments, and the package variables that the reading takes, are together of bulk at most 1048576: NARROWER than '..Said'. Prove '..Said' where nothing that the law and all that it calls make is longer than what came in: it says more and counts as full. Else prove '..UptoSaid'. A law counts once. -/
mutual
def uptoBulk {H : Type} : DataW H → Nat
  | .lit (.string bytes) => bytes.length + 1
  | .lit _ => 1
  | .nil => 1
  | .ptr d => uptoBulk d + 1
  | .slice elems spare => uptoBulkAll elems + uptoBulkAll spare + 1
  | .agg parts => uptoBulkAll parts + 1
  | .iface _ d => uptoBulk d + 1
  | .map entries => uptoBulkEntries entries + 1
  | .held _ => 1
def uptoBulkAll {H : Type} : List (DataW H) → Nat
  | [] => 0
  | d :: r => uptoBulk d + uptoBulkAll r
def uptoBulkEntries {H : Type} : List (Lit × DataW H) → Nat
  | [] => 0
  | x :: r => uptoBulkEntry x + uptoBulkEntries r
def uptoBulkEntry {H : Type} : Lit × DataW H → Nat
  | (.string bytes, d) => bytes.length + uptoBulk d + 1
  | (_, d) => uptoBulk d + 1
 end
def uptoSmall : (H : Type) → List (DataW H) → Bool := fun _ ds => decide (uptoBulkAll ds ≤ 1048576)
def OpenSpec.upto (s : _root_.Go.ChangeSpec) : _root_.Go.OpenSpec := { _root_.Go.OpenSpec.ofChange s with cond := some uptoSmall }

/-- 'obeluslaw5.CursPlays', WHERE WHAT IT READS IS OF BULK AT MOST 1048576: true; the input reads as it did. -/
def cursPlaysUptoRow : OpenClaim := { program := "ytdpjcbljeklhmaadoor", sum := "e5a410e0a683522f6682cf2809c7847a2e2a03b4983d2d379f233942be5aea6f", func := "obelus/obeluslaw5.CursPlays", spec := "cursPlays", inPlace := ["slices.overlaps[*obelus/gap.Chunk]", "internal/abi.NoEscape", "internal/bytealg.MakeNoZero"], named := ["unicode/utf8.first", "unicode/utf8.acceptRanges"], apart := false, laid := [("unicode/utf8.acceptRanges", laid_unicode_utf8_acceptRanges), ("unicode/utf8.first", laid_unicode_utf8_first)], narrowed := true }
def CursPlaysUptoSaid : Prop := cursPlaysUptoRow.holds Tryd.pinned (OpenSpec.upto cursPlaysSpec)

/-- 'obeluslaw5.CursViews', WHERE WHAT IT READS IS OF BULK AT MOST 1048576: true; the input reads as it did. -/
def cursViewsUptoRow : OpenClaim := { program := "ytdpjcbljeklhmaadoor", sum := "e5a410e0a683522f6682cf2809c7847a2e2a03b4983d2d379f233942be5aea6f", func := "obelus/obeluslaw5.CursViews", spec := "cursViews", inPlace := ["slices.overlaps[*obelus/gap.Chunk]", "internal/abi.NoEscape", "internal/bytealg.MakeNoZero"], named := ["unicode/utf8.first", "unicode/utf8.acceptRanges"], apart := false, laid := [("unicode/utf8.acceptRanges", laid_unicode_utf8_acceptRanges), ("unicode/utf8.first", laid_unicode_utf8_first)], narrowed := true }
def CursViewsUptoSaid : Prop := cursViewsUptoRow.holds Tryd.pinned (OpenSpec.upto cursViewsSpec)

/-- 'obeluslaw5.CursBack', WHERE WHAT IT READS IS OF BULK AT MOST 1048576: true; the input reads as it did. -/
def cursBackUptoRow : OpenClaim := { program := "ytdpjcbljeklhmaadoor", sum := "e5a410e0a683522f6682cf2809c7847a2e2a03b4983d2d379f233942be5aea6f", func := "obelus/obeluslaw5.CursBack", spec := "cursBack", inPlace := ["slices.overlaps[*obelus/gap.Chunk]", "internal/abi.NoEscape", "internal/bytealg.MakeNoZero"], named := ["unicode/utf8.first", "unicode/utf8.acceptRanges"], apart := false, laid := [("unicode/utf8.acceptRanges", laid_unicode_utf8_acceptRanges), ("unicode/utf8.first", laid_unicode_utf8_first)], narrowed := true }
def CursBackUptoSaid : Prop := cursBackUptoRow.holds Tryd.pinned (OpenSpec.upto cursBackSpec)

/-- 'obeluslaw5.CursNone', WHERE WHAT IT READS IS OF BULK AT MOST 1048576: true; the input reads as it did. -/
def cursNoneUptoRow : OpenClaim := { program := "ytdpjcbljeklhmaadoor", sum := "e5a410e0a683522f6682cf2809c7847a2e2a03b4983d2d379f233942be5aea6f", func := "obelus/obeluslaw5.CursNone", spec := "cursNone", inPlace := ["internal/abi.NoEscape", "internal/bytealg.MakeNoZero", "slices.overlaps[*obelus/gap.Chunk]"], named := ["unicode/utf8.first", "unicode/utf8.acceptRanges"], apart := false, laid := [("unicode/utf8.acceptRanges", laid_unicode_utf8_acceptRanges), ("unicode/utf8.first", laid_unicode_utf8_first)], narrowed := true }
def CursNoneUptoSaid : Prop := cursNoneUptoRow.holds Tryd.pinned (OpenSpec.upto cursNoneSpec)

/-- 'obeluslaw5.CursSeams', WHERE WHAT IT READS IS OF BULK AT MOST 1048576: true; the input reads as it did. -/
def cursSeamsUptoRow : OpenClaim := { program := "ytdpjcbljeklhmaadoor", sum := "e5a410e0a683522f6682cf2809c7847a2e2a03b4983d2d379f233942be5aea6f", func := "obelus/obeluslaw5.CursSeams", spec := "cursSeams", inPlace := ["slices.overlaps[*obelus/gap.Chunk]", "internal/abi.NoEscape", "internal/bytealg.MakeNoZero"], named := ["unicode/utf8.first", "unicode/utf8.acceptRanges"], apart := false, laid := [("unicode/utf8.acceptRanges", laid_unicode_utf8_acceptRanges), ("unicode/utf8.first", laid_unicode_utf8_first)], narrowed := true }
def CursSeamsUptoSaid : Prop := cursSeamsUptoRow.holds Tryd.pinned (OpenSpec.upto cursSeamsSpec)

end Rows
end Go.Proofs.YtdpjcbljeklhmaaDoor
