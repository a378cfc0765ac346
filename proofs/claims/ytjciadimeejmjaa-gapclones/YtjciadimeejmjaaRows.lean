/-
  No cell of these rows narrows 'for every input' (looked for: loops, veiled, ifaces, maps, wideKeys, modest, calm, conditions, laid).
  DERIVED. THE GIVEN ROWS OF THIS SEAT. 5 by the template 'for every input the law returns true; each argument reads behind the call as it read before'; 0 by the template 'total and deterministic' (their statements: YtjciadimeejmjaaTotals.lean).
  GIVEN WITH THE SEED: the statements are not yours to turn. If you find one false, say at which input.
  Laid BY PROGRAM, IN A SANDBOX (cutbox-rows.mjs): the forced cells as the released guide's own fill.sh prints them over the translation 2dc7ad55c98ebd9e… (all of the seat's roots in one cut). By AI agents, Wed Nov 11 2026. No macro, syntax, notation, axiom, sorry.
-/
import Derived.Test.YtjciadimeejmjaaChecked
import GoSem.Claim
import GoSem.ClaimJoined
import GoSem.ClaimMapViews
import Derived.JoinedTies
import Derived.KernelRfl
namespace Go.Proofs.Ytjciadimeejmjaa
/- THE CELL 'sum', in the pinned program and in every row, IS THE sha256 OF THE DUMP (.gsa) THAT YtjciadimeejmjaaProg.lean LOADS. Nothing in Lean hashes anything: it is a label: what it is worth is what the hold of that sum in a sandbox is worth. -/
noncomputable def Try.pinned : Pinned := { name := "ytjciadimeejmjaa", sum := "2dc7ad55c98ebd9e47aded6521008cf0a1ca7de44f3b4b315ca10be6a316e1b7", checked := Try.checked }
namespace Rows
def none {H : Type} : Left H := { results := [], args := [] }

/-- 'obeluslaw3.GapPlays': WHATEVER THE INPUT: true; the input reads as it did. -/
def gapPlaysSpec : ChangeSpec := { name := "gapPlays", fn := fun _ => fun
  | [d1, d2, d3] => { results := [.lit (.bool true)], args := [d1, d2, d3] }
  | _ => none }
def gapPlaysRow : OpenClaim := { program := "ytjciadimeejmjaa", sum := "2dc7ad55c98ebd9e47aded6521008cf0a1ca7de44f3b4b315ca10be6a316e1b7", func := "obelus/obeluslaw3.GapPlays", spec := "gapPlays", apart := false }
def GapPlaysSaid : Prop := gapPlaysRow.holds Try.pinned (OpenSpec.ofChange gapPlaysSpec)

/-- ITS FALSE NEIGHBOUR: 'it returns false'. Refute it at one input. -/
def gapPlaysWrong : ChangeSpec := { name := "gapPlays", fn := fun _ => fun
  | [d1, d2, d3] => { results := [.lit (.bool false)], args := [d1, d2, d3] }
  | _ => none }
def GapPlaysWrongFalsely : Prop := gapPlaysRow.holds Try.pinned (OpenSpec.ofChange gapPlaysWrong)

/-- 'obeluslaw3.GapMoves': WHATEVER THE INPUT: true; the input reads as it did. -/
def gapMovesSpec : ChangeSpec := { name := "gapMoves", fn := fun _ => fun
  | [d1, d2] => { results := [.lit (.bool true)], args := [d1, d2] }
  | _ => none }
def gapMovesRow : OpenClaim := { program := "ytjciadimeejmjaa", sum := "2dc7ad55c98ebd9e47aded6521008cf0a1ca7de44f3b4b315ca10be6a316e1b7", func := "obelus/obeluslaw3.GapMoves", spec := "gapMoves", apart := false }
def GapMovesSaid : Prop := gapMovesRow.holds Try.pinned (OpenSpec.ofChange gapMovesSpec)

/-- ITS FALSE NEIGHBOUR: 'it returns false'. Refute it at one input. -/
def gapMovesWrong : ChangeSpec := { name := "gapMoves", fn := fun _ => fun
  | [d1, d2] => { results := [.lit (.bool false)], args := [d1, d2] }
  | _ => none }
def GapMovesWrongFalsely : Prop := gapMovesRow.holds Try.pinned (OpenSpec.ofChange gapMovesWrong)

/-- 'obeluslaw3.GapClones': WHATEVER THE INPUT: true; the input reads as it did. -/
def gapClonesSpec : ChangeSpec := { name := "gapClones", fn := fun _ => fun
  | [d1, d2] => { results := [.lit (.bool true)], args := [d1, d2] }
  | _ => none }
def gapClonesRow : OpenClaim := { program := "ytjciadimeejmjaa", sum := "2dc7ad55c98ebd9e47aded6521008cf0a1ca7de44f3b4b315ca10be6a316e1b7", func := "obelus/obeluslaw3.GapClones", spec := "gapClones", apart := false }
def GapClonesSaid : Prop := gapClonesRow.holds Try.pinned (OpenSpec.ofChange gapClonesSpec)

/-- ITS FALSE NEIGHBOUR: 'it returns false'. Refute it at one input. -/
def gapClonesWrong : ChangeSpec := { name := "gapClones", fn := fun _ => fun
  | [d1, d2] => { results := [.lit (.bool false)], args := [d1, d2] }
  | _ => none }
def GapClonesWrongFalsely : Prop := gapClonesRow.holds Try.pinned (OpenSpec.ofChange gapClonesWrong)

/-- 'obeluslaw3.GapNone': WHATEVER THE INPUT: true; the input reads as it did. -/
def gapNoneSpec : ChangeSpec := { name := "gapNone", fn := fun _ => fun
  | [d] => { results := [.lit (.bool true)], args := [d] }
  | _ => none }
def gapNoneRow : OpenClaim := { program := "ytjciadimeejmjaa", sum := "2dc7ad55c98ebd9e47aded6521008cf0a1ca7de44f3b4b315ca10be6a316e1b7", func := "obelus/obeluslaw3.GapNone", spec := "gapNone", apart := false }
def GapNoneSaid : Prop := gapNoneRow.holds Try.pinned (OpenSpec.ofChange gapNoneSpec)

/-- ITS FALSE NEIGHBOUR: 'it returns false'. Refute it at one input. -/
def gapNoneWrong : ChangeSpec := { name := "gapNone", fn := fun _ => fun
  | [d] => { results := [.lit (.bool false)], args := [d] }
  | _ => none }
def GapNoneWrongFalsely : Prop := gapNoneRow.holds Try.pinned (OpenSpec.ofChange gapNoneWrong)

/-- 'obeluslaw3.GapBack': WHATEVER THE INPUT: true; the input reads as it did. -/
def gapBackSpec : ChangeSpec := { name := "gapBack", fn := fun _ => fun
  | [d1, d2, d3] => { results := [.lit (.bool true)], args := [d1, d2, d3] }
  | _ => none }
def gapBackRow : OpenClaim := { program := "ytjciadimeejmjaa", sum := "2dc7ad55c98ebd9e47aded6521008cf0a1ca7de44f3b4b315ca10be6a316e1b7", func := "obelus/obeluslaw3.GapBack", spec := "gapBack", apart := false }
def GapBackSaid : Prop := gapBackRow.holds Try.pinned (OpenSpec.ofChange gapBackSpec)

/-- ITS FALSE NEIGHBOUR: 'it returns false'. Refute it at one input. -/
def gapBackWrong : ChangeSpec := { name := "gapBack", fn := fun _ => fun
  | [d1, d2, d3] => { results := [.lit (.bool false)], args := [d1, d2, d3] }
  | _ => none }
def GapBackWrongFalsely : Prop := gapBackRow.holds Try.pinned (OpenSpec.ofChange gapBackWrong)

/- THE SECOND FORM. 'bulk': how many values and letters a reading holds, each counted each time it is reached (what is shared counts as often as it is met; a slice's spare places count too). A statement '..UptoSaid' is the law's where the arguments, and the package variables that the reading takes, are together of bulk at most 1048576: NARROWER than '..Said'. Prove '..Said' where nothing that the law and all that it calls make is longer than what came in: it says more and counts as full. Else prove '..UptoSaid'. A law counts once. -/
mutual
def uptoBulk {H : Type} : DataW H → Nat
  | .lit (.string bytes) => bytes.length + 1
  | .lit _ => 1
  | .nil => 1
  | .ptr d => uptoBulk d + 1
  | .slice elems spare => uptoBulkAll elems + uptoBulkAll spare + 1
  | .agg parts => uptoBulkAll parts + 1
  | .iface _ d => uptoBulk d + 1
  | .map entries => uptoBulkEntries entries + 1
  | .held _ => 1
def uptoBulkAll {H : Type} : List (DataW H) → Nat
  | [] => 0
  | d :: r => uptoBulk d + uptoBulkAll r
def uptoBulkEntries {H : Type} : List (Lit × DataW H) → Nat
  | [] => 0
  | x :: r => uptoBulkEntry x + uptoBulkEntries r
def uptoBulkEntry {H : Type} : Lit × DataW H → Nat
  | (.string bytes, d) => bytes.length + uptoBulk d + 1
  | (_, d) => uptoBulk d + 1
 end
def uptoSmall : (H : Type) → List (DataW H) → Bool := fun _ ds => decide (uptoBulkAll ds ≤ 1048576)
def OpenSpec.upto (s : _root_.Go.ChangeSpec) : _root_.Go.OpenSpec := { _root_.Go.OpenSpec.ofChange s with cond := some uptoSmall }

/-- 'obeluslaw3.GapPlays', WHERE WHAT IT READS IS OF BULK AT MOST 1048576: true; the input reads as it did. -/
def gapPlaysUptoRow : OpenClaim := { program := "ytjciadimeejmjaa", sum := "2dc7ad55c98ebd9e47aded6521008cf0a1ca7de44f3b4b315ca10be6a316e1b7", func := "obelus/obeluslaw3.GapPlays", spec := "gapPlays", apart := false, narrowed := true }
def GapPlaysUptoSaid : Prop := gapPlaysUptoRow.holds Try.pinned (OpenSpec.upto gapPlaysSpec)

/-- 'obeluslaw3.GapMoves', WHERE WHAT IT READS IS OF BULK AT MOST 1048576: true; the input reads as it did. -/
def gapMovesUptoRow : OpenClaim := { program := "ytjciadimeejmjaa", sum := "2dc7ad55c98ebd9e47aded6521008cf0a1ca7de44f3b4b315ca10be6a316e1b7", func := "obelus/obeluslaw3.GapMoves", spec := "gapMoves", apart := false, narrowed := true }
def GapMovesUptoSaid : Prop := gapMovesUptoRow.holds Try.pinned (OpenSpec.upto gapMovesSpec)

/-- 'obeluslaw3.GapClones', WHERE WHAT IT READS IS OF BULK AT MOST 1048576: true; the input reads as it did. -/
def gapClonesUptoRow : OpenClaim := { program := "ytjciadimeejmjaa", sum := "2dc7ad55c98ebd9e47aded6521008cf0a1ca7de44f3b4b315ca10be6a316e1b7", func := "obelus/obeluslaw3.GapClones", spec := "gapClones", apart := false, narrowed := true }
def GapClonesUptoSaid : Prop := gapClonesUptoRow.holds Try.pinned (OpenSpec.upto gapClonesSpec)

/-- 'obeluslaw3.GapNone', WHERE WHAT IT READS IS OF BULK AT MOST 1048576: true; the input reads as it did. -/
def gapNoneUptoRow : OpenClaim := { program := "ytjciadimeejmjaa", sum := "2dc7ad55c98ebd9e47aded6521008cf0a1ca7de44f3b4b315ca10be6a316e1b7", func := "obelus/obeluslaw3.GapNone", spec := "gapNone", apart := false, narrowed := true }
def GapNoneUptoSaid : Prop := gapNoneUptoRow.holds Try.pinned (OpenSpec.upto gapNoneSpec)

/-- 'obeluslaw3.GapBack', WHERE WHAT IT READS IS OF BULK AT MOST 1048576: true; the input reads as it did. -/
def gapBackUptoRow : OpenClaim := { program := "ytjciadimeejmjaa", sum := "2dc7ad55c98ebd9e47aded6521008cf0a1ca7de44f3b4b315ca10be6a316e1b7", func := "obelus/obeluslaw3.GapBack", spec := "gapBack", apart := false, narrowed := true }
def GapBackUptoSaid : Prop := gapBackUptoRow.holds Try.pinned (OpenSpec.upto gapBackSpec)

end Rows
end Go.Proofs.Ytjciadimeejmjaa
