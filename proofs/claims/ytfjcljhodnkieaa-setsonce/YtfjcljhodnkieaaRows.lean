/-
  No cell of these rows narrows 'for every input' (looked for: loops, veiled, ifaces, maps, wideKeys, modest, calm, conditions, laid).
  DERIVED. THE GIVEN ROWS OF THIS SEAT. 5 by the template 'for every input the law returns true; each argument reads behind the call as it read before'; 0 by the template 'total and deterministic' (their statements: YtfjcljhodnkieaaTotals.lean).
  GIVEN WITH THE SEED: the statements are not yours to turn. If you find one false, say at which input.
  Laid BY PROGRAM, IN A SANDBOX (cutbox-rows.mjs): the forced cells as the released guide's own fill.sh prints them over the translation 33f07428f1086ced… (all of the seat's roots in one cut). By AI agents, Wed Nov 11 2026. No macro, syntax, notation, axiom, sorry.
-/
import Derived.Test.YtfjcljhodnkieaaChecked
import GoSem.Claim
import GoSem.ClaimJoined
import GoSem.ClaimMapViews
import Derived.JoinedTies
import Derived.KernelRfl
namespace Go.Proofs.Ytfjcljhodnkieaa
/- THE CELL 'sum', in the pinned program and in every row, IS THE sha256 OF THE DUMP (.gsa) THAT YtfjcljhodnkieaaProg.lean LOADS. Nothing in Lean hashes anything: it is a label: what it is worth is what the hold of that sum in a sandbox is worth. -/
noncomputable def Try.pinned : Pinned := { name := "ytfjcljhodnkieaa", sum := "33f07428f1086ced7ba769a4ba2e73d983c9835d1b346beded6913d45a18baef", checked := Try.checked }
namespace Rows
def none {H : Type} : Left H := { results := [], args := [] }

/-- 'obeluslaw2.SetsTells': WHATEVER THE INPUT: true; the input reads as it did. -/
def setsTellsSpec : ChangeSpec := { name := "setsTells", fn := fun _ => fun
  | [d1, d2] => { results := [.lit (.bool true)], args := [d1, d2] }
  | _ => none }
def setsTellsRow : OpenClaim := { program := "ytfjcljhodnkieaa", sum := "33f07428f1086ced7ba769a4ba2e73d983c9835d1b346beded6913d45a18baef", func := "obelus/obeluslaw2.SetsTells", spec := "setsTells", unfollowed := true, recurses := true, apart := false }
def SetsTellsSaid : Prop := setsTellsRow.holds Try.pinned (OpenSpec.ofChange setsTellsSpec)

/-- ITS FALSE NEIGHBOUR: 'it returns false'. Refute it at one input. -/
def setsTellsWrong : ChangeSpec := { name := "setsTells", fn := fun _ => fun
  | [d1, d2] => { results := [.lit (.bool false)], args := [d1, d2] }
  | _ => none }
def SetsTellsWrongFalsely : Prop := setsTellsRow.holds Try.pinned (OpenSpec.ofChange setsTellsWrong)

/-- 'obeluslaw2.SetsOps': WHATEVER THE INPUT: true; the input reads as it did. -/
def setsOpsSpec : ChangeSpec := { name := "setsOps", fn := fun _ => fun
  | [d1, d2] => { results := [.lit (.bool true)], args := [d1, d2] }
  | _ => none }
def setsOpsRow : OpenClaim := { program := "ytfjcljhodnkieaa", sum := "33f07428f1086ced7ba769a4ba2e73d983c9835d1b346beded6913d45a18baef", func := "obelus/obeluslaw2.SetsOps", spec := "setsOps", unfollowed := true, recurses := true, apart := false }
def SetsOpsSaid : Prop := setsOpsRow.holds Try.pinned (OpenSpec.ofChange setsOpsSpec)

/-- ITS FALSE NEIGHBOUR: 'it returns false'. Refute it at one input. -/
def setsOpsWrong : ChangeSpec := { name := "setsOps", fn := fun _ => fun
  | [d1, d2] => { results := [.lit (.bool false)], args := [d1, d2] }
  | _ => none }
def SetsOpsWrongFalsely : Prop := setsOpsRow.holds Try.pinned (OpenSpec.ofChange setsOpsWrong)

/-- 'obeluslaw2.SetsLaws': WHATEVER THE INPUT: true; the input reads as it did. -/
def setsLawsSpec : ChangeSpec := { name := "setsLaws", fn := fun _ => fun
  | [d1, d2, d3] => { results := [.lit (.bool true)], args := [d1, d2, d3] }
  | _ => none }
def setsLawsRow : OpenClaim := { program := "ytfjcljhodnkieaa", sum := "33f07428f1086ced7ba769a4ba2e73d983c9835d1b346beded6913d45a18baef", func := "obelus/obeluslaw2.SetsLaws", spec := "setsLaws", unfollowed := true, recurses := true, apart := false }
def SetsLawsSaid : Prop := setsLawsRow.holds Try.pinned (OpenSpec.ofChange setsLawsSpec)

/-- ITS FALSE NEIGHBOUR: 'it returns false'. Refute it at one input. -/
def setsLawsWrong : ChangeSpec := { name := "setsLaws", fn := fun _ => fun
  | [d1, d2, d3] => { results := [.lit (.bool false)], args := [d1, d2, d3] }
  | _ => none }
def SetsLawsWrongFalsely : Prop := setsLawsRow.holds Try.pinned (OpenSpec.ofChange setsLawsWrong)

/-- 'obeluslaw2.SetsOnce': WHATEVER THE INPUT: true; the input reads as it did. -/
def setsOnceSpec : ChangeSpec := { name := "setsOnce", fn := fun _ => fun
  | [d1, d2, d3] => { results := [.lit (.bool true)], args := [d1, d2, d3] }
  | _ => none }
def setsOnceRow : OpenClaim := { program := "ytfjcljhodnkieaa", sum := "33f07428f1086ced7ba769a4ba2e73d983c9835d1b346beded6913d45a18baef", func := "obelus/obeluslaw2.SetsOnce", spec := "setsOnce", unfollowed := true, recurses := true, apart := false }
def SetsOnceSaid : Prop := setsOnceRow.holds Try.pinned (OpenSpec.ofChange setsOnceSpec)

/-- ITS FALSE NEIGHBOUR: 'it returns false'. Refute it at one input. -/
def setsOnceWrong : ChangeSpec := { name := "setsOnce", fn := fun _ => fun
  | [d1, d2, d3] => { results := [.lit (.bool false)], args := [d1, d2, d3] }
  | _ => none }
def SetsOnceWrongFalsely : Prop := setsOnceRow.holds Try.pinned (OpenSpec.ofChange setsOnceWrong)

/-- 'obeluslaw2.SetsFold': WHATEVER THE INPUT: true; the input reads as it did. -/
def setsFoldSpec : ChangeSpec := { name := "setsFold", fn := fun _ => fun
  | [d1, d2] => { results := [.lit (.bool true)], args := [d1, d2] }
  | _ => none }
def setsFoldRow : OpenClaim := { program := "ytfjcljhodnkieaa", sum := "33f07428f1086ced7ba769a4ba2e73d983c9835d1b346beded6913d45a18baef", func := "obelus/obeluslaw2.SetsFold", spec := "setsFold", unfollowed := true, recurses := true, apart := false }
def SetsFoldSaid : Prop := setsFoldRow.holds Try.pinned (OpenSpec.ofChange setsFoldSpec)

/-- ITS FALSE NEIGHBOUR: 'it returns false'. Refute it at one input. -/
def setsFoldWrong : ChangeSpec := { name := "setsFold", fn := fun _ => fun
  | [d1, d2] => { results := [.lit (.bool false)], args := [d1, d2] }
  | _ => none }
def SetsFoldWrongFalsely : Prop := setsFoldRow.holds Try.pinned (OpenSpec.ofChange setsFoldWrong)

/- THE SECOND FORM. 'bulk': how many values and letters a reading holds, each counted each time it is reached (what is shared counts as often as it is met; a slice's spare places count too). A statement '..UptoSaid' is the law's where the arguments, and the package variables that the reading takes, are together of bulk at most 1048576: NARROWER than '..Said'. Prove '..Said' where nothing that the law and all that it calls make is longer than what came in: it says more and counts as full. Else prove '..UptoSaid'. A law counts once. -/
mutual
def uptoBulk {H : Type} : DataW H → Nat
  | .lit (.string bytes) => bytes.length + 1
  | .lit _ => 1
  | .nil => 1
  | .ptr d => uptoBulk d + 1
  | .slice elems spare => uptoBulkAll elems + uptoBulkAll spare + 1
  | .agg parts => uptoBulkAll parts + 1
  | .iface _ d => uptoBulk d + 1
  | .map entries => uptoBulkEntries entries + 1
  | .held _ => 1
def uptoBulkAll {H : Type} : List (DataW H) → Nat
  | [] => 0
  | d :: r => uptoBulk d + uptoBulkAll r
def uptoBulkEntries {H : Type} : List (Lit × DataW H) → Nat
  | [] => 0
  | x :: r => uptoBulkEntry x + uptoBulkEntries r
def uptoBulkEntry {H : Type} : Lit × DataW H → Nat
  | (.string bytes, d) => bytes.length + uptoBulk d + 1
  | (_, d) => uptoBulk d + 1
 end
def uptoSmall : (H : Type) → List (DataW H) → Bool := fun _ ds => decide (uptoBulkAll ds ≤ 1048576)
def OpenSpec.upto (s : _root_.Go.ChangeSpec) : _root_.Go.OpenSpec := { _root_.Go.OpenSpec.ofChange s with cond := some uptoSmall }

/-- 'obeluslaw2.SetsTells', WHERE WHAT IT READS IS OF BULK AT MOST 1048576: true; the input reads as it did. -/
def setsTellsUptoRow : OpenClaim := { program := "ytfjcljhodnkieaa", sum := "33f07428f1086ced7ba769a4ba2e73d983c9835d1b346beded6913d45a18baef", func := "obelus/obeluslaw2.SetsTells", spec := "setsTells", unfollowed := true, recurses := true, apart := false, narrowed := true }
def SetsTellsUptoSaid : Prop := setsTellsUptoRow.holds Try.pinned (OpenSpec.upto setsTellsSpec)

/-- 'obeluslaw2.SetsOps', WHERE WHAT IT READS IS OF BULK AT MOST 1048576: true; the input reads as it did. -/
def setsOpsUptoRow : OpenClaim := { program := "ytfjcljhodnkieaa", sum := "33f07428f1086ced7ba769a4ba2e73d983c9835d1b346beded6913d45a18baef", func := "obelus/obeluslaw2.SetsOps", spec := "setsOps", unfollowed := true, recurses := true, apart := false, narrowed := true }
def SetsOpsUptoSaid : Prop := setsOpsUptoRow.holds Try.pinned (OpenSpec.upto setsOpsSpec)

/-- 'obeluslaw2.SetsLaws', WHERE WHAT IT READS IS OF BULK AT MOST 1048576: true; the input reads as it did. -/
def setsLawsUptoRow : OpenClaim := { program := "ytfjcljhodnkieaa", sum := "33f07428f1086ced7ba769a4ba2e73d983c9835d1b346beded6913d45a18baef", func := "obelus/obeluslaw2.SetsLaws", spec := "setsLaws", unfollowed := true, recurses := true, apart := false, narrowed := true }
def SetsLawsUptoSaid : Prop := setsLawsUptoRow.holds Try.pinned (OpenSpec.upto setsLawsSpec)

/-- 'obeluslaw2.SetsOnce', WHERE WHAT IT READS IS OF BULK AT MOST 1048576: true; the input reads as it did. -/
def setsOnceUptoRow : OpenClaim := { program := "ytfjcljhodnkieaa", sum := "33f07428f1086ced7ba769a4ba2e73d983c9835d1b346beded6913d45a18baef", func := "obelus/obeluslaw2.SetsOnce", spec := "setsOnce", unfollowed := true, recurses := true, apart := false, narrowed := true }
def SetsOnceUptoSaid : Prop := setsOnceUptoRow.holds Try.pinned (OpenSpec.upto setsOnceSpec)

/-- 'obeluslaw2.SetsFold', WHERE WHAT IT READS IS OF BULK AT MOST 1048576: true; the input reads as it did. -/
def setsFoldUptoRow : OpenClaim := { program := "ytfjcljhodnkieaa", sum := "33f07428f1086ced7ba769a4ba2e73d983c9835d1b346beded6913d45a18baef", func := "obelus/obeluslaw2.SetsFold", spec := "setsFold", unfollowed := true, recurses := true, apart := false, narrowed := true }
def SetsFoldUptoSaid : Prop := setsFoldUptoRow.holds Try.pinned (OpenSpec.upto setsFoldSpec)

end Rows
end Go.Proofs.Ytfjcljhodnkieaa
