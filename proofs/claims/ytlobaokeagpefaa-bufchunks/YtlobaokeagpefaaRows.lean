/-
  No cell of these rows narrows 'for every input' (looked for: loops, veiled, ifaces, maps, wideKeys, modest, calm, conditions, laid).
  DERIVED. THE GIVEN ROWS OF THIS SEAT. 6 by the template 'for every input the law returns true; each argument reads behind the call as it read before'; 0 by the template 'total and deterministic' (their statements: YtlobaokeagpefaaTotals.lean).
  GIVEN WITH THE SEED: the statements are not yours to turn. If you find one false, say at which input.
  Laid BY PROGRAM, IN A SANDBOX (cutbox-rows.mjs): the forced cells as the released guide's own fill.sh prints them over the translation af97a274fb5577c4… (all of the seat's roots in one cut). By AI agents, Wed Nov 11 2026. No macro, syntax, notation, axiom, sorry.
-/
import Derived.Test.YtlobaokeagpefaaChecked
import GoSem.Claim
import GoSem.ClaimJoined
import GoSem.ClaimMapViews
import Derived.JoinedTies
import Derived.KernelRfl
namespace Go.Proofs.Ytlobaokeagpefaa
/- THE CELL 'sum', in the pinned program and in every row, IS THE sha256 OF THE DUMP (.gsa) THAT YtlobaokeagpefaaProg.lean LOADS. Nothing in Lean hashes anything: it is a label: what it is worth is what the hold of that sum in a sandbox is worth. -/
noncomputable def Try.pinned : Pinned := { name := "ytlobaokeagpefaa", sum := "af97a274fb5577c4035d905211366c49a42971567d2e2d953a084681ffcd5062", checked := Try.checked }
namespace Rows
def none {H : Type} : Left H := { results := [], args := [] }

/-- 'obeluslaw4.BufPlays': WHATEVER THE INPUT: true; the input reads as it did. -/
def bufPlaysSpec : ChangeSpec := { name := "bufPlays", fn := fun _ => fun
  | [d1, d2, d3, d4] => { results := [.lit (.bool true)], args := [d1, d2, d3, d4] }
  | _ => none }
def bufPlaysRow : OpenClaim := { program := "ytlobaokeagpefaa", sum := "af97a274fb5577c4035d905211366c49a42971567d2e2d953a084681ffcd5062", func := "obelus/obeluslaw4.BufPlays", spec := "bufPlays", inPlace := ["slices.overlaps[*obelus/gap.Chunk]", "internal/abi.NoEscape", "internal/bytealg.MakeNoZero"], apart := false }
def BufPlaysSaid : Prop := bufPlaysRow.holds Try.pinned (OpenSpec.ofChange bufPlaysSpec)

/-- ITS FALSE NEIGHBOUR: 'it returns false'. Refute it at one input. -/
def bufPlaysWrong : ChangeSpec := { name := "bufPlays", fn := fun _ => fun
  | [d1, d2, d3, d4] => { results := [.lit (.bool false)], args := [d1, d2, d3, d4] }
  | _ => none }
def BufPlaysWrongFalsely : Prop := bufPlaysRow.holds Try.pinned (OpenSpec.ofChange bufPlaysWrong)

/-- 'obeluslaw4.BufSizes': WHATEVER THE INPUT: true; the input reads as it did. -/
def bufSizesSpec : ChangeSpec := { name := "bufSizes", fn := fun _ => fun
  | [d1, d2] => { results := [.lit (.bool true)], args := [d1, d2] }
  | _ => none }
def bufSizesRow : OpenClaim := { program := "ytlobaokeagpefaa", sum := "af97a274fb5577c4035d905211366c49a42971567d2e2d953a084681ffcd5062", func := "obelus/obeluslaw4.BufSizes", spec := "bufSizes", inPlace := ["slices.overlaps[*obelus/gap.Chunk]", "internal/abi.NoEscape", "internal/bytealg.MakeNoZero"], apart := false }
def BufSizesSaid : Prop := bufSizesRow.holds Try.pinned (OpenSpec.ofChange bufSizesSpec)

/-- ITS FALSE NEIGHBOUR: 'it returns false'. Refute it at one input. -/
def bufSizesWrong : ChangeSpec := { name := "bufSizes", fn := fun _ => fun
  | [d1, d2] => { results := [.lit (.bool false)], args := [d1, d2] }
  | _ => none }
def BufSizesWrongFalsely : Prop := bufSizesRow.holds Try.pinned (OpenSpec.ofChange bufSizesWrong)

/-- 'obeluslaw4.BufChunks': WHATEVER THE INPUT: true; the input reads as it did. -/
def bufChunksSpec : ChangeSpec := { name := "bufChunks", fn := fun _ => fun
  | [d1, d2, d3] => { results := [.lit (.bool true)], args := [d1, d2, d3] }
  | _ => none }
def bufChunksRow : OpenClaim := { program := "ytlobaokeagpefaa", sum := "af97a274fb5577c4035d905211366c49a42971567d2e2d953a084681ffcd5062", func := "obelus/obeluslaw4.BufChunks", spec := "bufChunks", inPlace := ["slices.overlaps[*obelus/gap.Chunk]", "internal/abi.NoEscape", "internal/bytealg.MakeNoZero"], apart := false }
def BufChunksSaid : Prop := bufChunksRow.holds Try.pinned (OpenSpec.ofChange bufChunksSpec)

/-- ITS FALSE NEIGHBOUR: 'it returns false'. Refute it at one input. -/
def bufChunksWrong : ChangeSpec := { name := "bufChunks", fn := fun _ => fun
  | [d1, d2, d3] => { results := [.lit (.bool false)], args := [d1, d2, d3] }
  | _ => none }
def BufChunksWrongFalsely : Prop := bufChunksRow.holds Try.pinned (OpenSpec.ofChange bufChunksWrong)

/-- 'obeluslaw4.BufClones': WHATEVER THE INPUT: true; the input reads as it did. -/
def bufClonesSpec : ChangeSpec := { name := "bufClones", fn := fun _ => fun
  | [d1, d2, d3] => { results := [.lit (.bool true)], args := [d1, d2, d3] }
  | _ => none }
def bufClonesRow : OpenClaim := { program := "ytlobaokeagpefaa", sum := "af97a274fb5577c4035d905211366c49a42971567d2e2d953a084681ffcd5062", func := "obelus/obeluslaw4.BufClones", spec := "bufClones", inPlace := ["slices.overlaps[*obelus/gap.Chunk]", "internal/abi.NoEscape", "internal/bytealg.MakeNoZero"], apart := false }
def BufClonesSaid : Prop := bufClonesRow.holds Try.pinned (OpenSpec.ofChange bufClonesSpec)

/-- ITS FALSE NEIGHBOUR: 'it returns false'. Refute it at one input. -/
def bufClonesWrong : ChangeSpec := { name := "bufClones", fn := fun _ => fun
  | [d1, d2, d3] => { results := [.lit (.bool false)], args := [d1, d2, d3] }
  | _ => none }
def BufClonesWrongFalsely : Prop := bufClonesRow.holds Try.pinned (OpenSpec.ofChange bufClonesWrong)

/-- 'obeluslaw4.BufNone': WHATEVER THE INPUT: true; the input reads as it did. -/
def bufNoneSpec : ChangeSpec := { name := "bufNone", fn := fun _ => fun
  | [d] => { results := [.lit (.bool true)], args := [d] }
  | _ => none }
def bufNoneRow : OpenClaim := { program := "ytlobaokeagpefaa", sum := "af97a274fb5577c4035d905211366c49a42971567d2e2d953a084681ffcd5062", func := "obelus/obeluslaw4.BufNone", spec := "bufNone", inPlace := ["internal/abi.NoEscape", "internal/bytealg.MakeNoZero", "slices.overlaps[*obelus/gap.Chunk]"], apart := false }
def BufNoneSaid : Prop := bufNoneRow.holds Try.pinned (OpenSpec.ofChange bufNoneSpec)

/-- ITS FALSE NEIGHBOUR: 'it returns false'. Refute it at one input. -/
def bufNoneWrong : ChangeSpec := { name := "bufNone", fn := fun _ => fun
  | [d] => { results := [.lit (.bool false)], args := [d] }
  | _ => none }
def BufNoneWrongFalsely : Prop := bufNoneRow.holds Try.pinned (OpenSpec.ofChange bufNoneWrong)

/-- 'obeluslaw4.BufFull': WHATEVER THE INPUT: true; the input reads as it did. -/
def bufFullSpec : ChangeSpec := { name := "bufFull", fn := fun _ => fun
  | [d1, d2] => { results := [.lit (.bool true)], args := [d1, d2] }
  | _ => none }
def bufFullRow : OpenClaim := { program := "ytlobaokeagpefaa", sum := "af97a274fb5577c4035d905211366c49a42971567d2e2d953a084681ffcd5062", func := "obelus/obeluslaw4.BufFull", spec := "bufFull", inPlace := ["slices.overlaps[*obelus/gap.Chunk]", "internal/abi.NoEscape", "internal/bytealg.MakeNoZero"], apart := false }
def BufFullSaid : Prop := bufFullRow.holds Try.pinned (OpenSpec.ofChange bufFullSpec)

/-- ITS FALSE NEIGHBOUR: 'it returns false'. Refute it at one input. -/
def bufFullWrong : ChangeSpec := { name := "bufFull", fn := fun _ => fun
  | [d1, d2] => { results := [.lit (.bool false)], args := [d1, d2] }
  | _ => none }
def BufFullWrongFalsely : Prop := bufFullRow.holds Try.pinned (OpenSpec.ofChange bufFullWrong)

/- THE SECOND FORM. 'bulk': how many values and letters a reading holds, each counted each time it is reached (what is shared counts as often as it is met; a slice's spare places count too). A statement '..UptoSaid' is the law's where the arguments, and the package variables that the reading takes, are together of bulk at most 1048576: NARROWER than '..Said'. Prove '..Said' where nothing that the law and all that it calls make is longer than what came in: it says more and counts as full. Else prove '..UptoSaid'. A law counts once. -/
mutual
def uptoBulk {H : Type} : DataW H → Nat
  | .lit (.string bytes) => bytes.length + 1
  | .lit _ => 1
  | .nil => 1
  | .ptr d => uptoBulk d + 1
  | .slice elems spare => uptoBulkAll elems + uptoBulkAll spare + 1
  | .agg parts => uptoBulkAll parts + 1
  | .iface _ d => uptoBulk d + 1
  | .map entries => uptoBulkEntries entries + 1
  | .held _ => 1
def uptoBulkAll {H : Type} : List (DataW H) → Nat
  | [] => 0
  | d :: r => uptoBulk d + uptoBulkAll r
def uptoBulkEntries {H : Type} : List (Lit × DataW H) → Nat
  | [] => 0
  | x :: r => uptoBulkEntry x + uptoBulkEntries r
def uptoBulkEntry {H : Type} : Lit × DataW H → Nat
  | (.string bytes, d) => bytes.length + uptoBulk d + 1
  | (_, d) => uptoBulk d + 1
 end
def uptoSmall : (H : Type) → List (DataW H) → Bool := fun _ ds => decide (uptoBulkAll ds ≤ 1048576)
def OpenSpec.upto (s : _root_.Go.ChangeSpec) : _root_.Go.OpenSpec := { _root_.Go.OpenSpec.ofChange s with cond := some uptoSmall }

/-- 'obeluslaw4.BufPlays', WHERE WHAT IT READS IS OF BULK AT MOST 1048576: true; the input reads as it did. -/
def bufPlaysUptoRow : OpenClaim := { program := "ytlobaokeagpefaa", sum := "af97a274fb5577c4035d905211366c49a42971567d2e2d953a084681ffcd5062", func := "obelus/obeluslaw4.BufPlays", spec := "bufPlays", inPlace := ["slices.overlaps[*obelus/gap.Chunk]", "internal/abi.NoEscape", "internal/bytealg.MakeNoZero"], apart := false, narrowed := true }
def BufPlaysUptoSaid : Prop := bufPlaysUptoRow.holds Try.pinned (OpenSpec.upto bufPlaysSpec)

/-- 'obeluslaw4.BufSizes', WHERE WHAT IT READS IS OF BULK AT MOST 1048576: true; the input reads as it did. -/
def bufSizesUptoRow : OpenClaim := { program := "ytlobaokeagpefaa", sum := "af97a274fb5577c4035d905211366c49a42971567d2e2d953a084681ffcd5062", func := "obelus/obeluslaw4.BufSizes", spec := "bufSizes", inPlace := ["slices.overlaps[*obelus/gap.Chunk]", "internal/abi.NoEscape", "internal/bytealg.MakeNoZero"], apart := false, narrowed := true }
def BufSizesUptoSaid : Prop := bufSizesUptoRow.holds Try.pinned (OpenSpec.upto bufSizesSpec)

/-- 'obeluslaw4.BufChunks', WHERE WHAT IT READS IS OF BULK AT MOST 1048576: true; the input reads as it did. -/
def bufChunksUptoRow : OpenClaim := { program := "ytlobaokeagpefaa", sum := "af97a274fb5577c4035d905211366c49a42971567d2e2d953a084681ffcd5062", func := "obelus/obeluslaw4.BufChunks", spec := "bufChunks", inPlace := ["slices.overlaps[*obelus/gap.Chunk]", "internal/abi.NoEscape", "internal/bytealg.MakeNoZero"], apart := false, narrowed := true }
def BufChunksUptoSaid : Prop := bufChunksUptoRow.holds Try.pinned (OpenSpec.upto bufChunksSpec)

/-- 'obeluslaw4.BufClones', WHERE WHAT IT READS IS OF BULK AT MOST 1048576: true; the input reads as it did. -/
def bufClonesUptoRow : OpenClaim := { program := "ytlobaokeagpefaa", sum := "af97a274fb5577c4035d905211366c49a42971567d2e2d953a084681ffcd5062", func := "obelus/obeluslaw4.BufClones", spec := "bufClones", inPlace := ["slices.overlaps[*obelus/gap.Chunk]", "internal/abi.NoEscape", "internal/bytealg.MakeNoZero"], apart := false, narrowed := true }
def BufClonesUptoSaid : Prop := bufClonesUptoRow.holds Try.pinned (OpenSpec.upto bufClonesSpec)

/-- 'obeluslaw4.BufNone', WHERE WHAT IT READS IS OF BULK AT MOST 1048576: true; the input reads as it did. -/
def bufNoneUptoRow : OpenClaim := { program := "ytlobaokeagpefaa", sum := "af97a274fb5577c4035d905211366c49a42971567d2e2d953a084681ffcd5062", func := "obelus/obeluslaw4.BufNone", spec := "bufNone", inPlace := ["internal/abi.NoEscape", "internal/bytealg.MakeNoZero", "slices.overlaps[*obelus/gap.Chunk]"], apart := false, narrowed := true }
def BufNoneUptoSaid : Prop := bufNoneUptoRow.holds Try.pinned (OpenSpec.upto bufNoneSpec)

/-- 'obeluslaw4.BufFull', WHERE WHAT IT READS IS OF BULK AT MOST 1048576: true; the input reads as it did. -/
def bufFullUptoRow : OpenClaim := { program := "ytlobaokeagpefaa", sum := "af97a274fb5577c4035d905211366c49a42971567d2e2d953a084681ffcd5062", func := "obelus/obeluslaw4.BufFull", spec := "bufFull", inPlace := ["slices.overlaps[*obelus/gap.Chunk]", "internal/abi.NoEscape", "internal/bytealg.MakeNoZero"], apart := false, narrowed := true }
def BufFullUptoSaid : Prop := bufFullUptoRow.holds Try.pinned (OpenSpec.upto bufFullSpec)

end Rows
end Go.Proofs.Ytlobaokeagpefaa
