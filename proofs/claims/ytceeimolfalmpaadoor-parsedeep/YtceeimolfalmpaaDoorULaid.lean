/-
  From the rows' list of package-level variables to what the walks ask of memory: the two tables of unicode/utf8 lie as their text lays them; and a memory in which they do.
-/
import Derived.Test.YtceeimolfalmpaaDoorRows
import Derived.Test.YtceeimolfalmpaaDoorUC
import Derived.Lib.LaidU8
import Derived.ProofKit
import Derived.OpenShut
import Derived.LaidMore
import Derived.Lay
import Derived.MakeChecks
import Derived.Stop.Joined
namespace Go.Proofs.YtceeimolfalmpaaDoor.U
open Go.ChangeShapes Go.WideShapes Go.ChangeAt Go.RowKit

theorem Tryd.own : ownKnob Tryd.prog.godebug = none := by kernel_rfl
theorem u8x : U8Extra Tryd.prog Tryd.lays260_ren := { n3 := by kernel_rfl, n4 := by kernel_rfl, y3 := by kernel_rfl, y4 := by kernel_rfl, c5 := by kernel_rfl, c119 := by kernel_rfl, c138 := by kernel_rfl }
set_option maxRecDepth 100000 in
theorem first_eq : Rows.laid_unicode_utf8_first = Lib.firstData := by kernel_rfl
set_option maxRecDepth 100000 in
theorem accept_eq : (Rows.laid_unicode_utf8_acceptRanges : DataW Unit) = Lib.acceptData := by kernel_rfl
abbrev laid2 : List (String × DataW Unit) := [("unicode/utf8.acceptRanges", Rows.laid_unicode_utf8_acceptRanges), ("unicode/utf8.first", Rows.laid_unicode_utf8_first)]
theorem tb_of_laid {W : World} (h : laidMetH Tryd.prog laid2 W) : Tb W := by
  rw [MakeChecks.laidMetH_plain _ _ _ (by kernel_rfl)] at h
  have h3 := Lib.laidMet.reads h (n := "unicode/utf8.first") (d := Rows.laid_unicode_utf8_first) (by simp [laid2])
  have h4 := Lib.laidMet.reads h (n := "unicode/utf8.acceptRanges") (d := Rows.laid_unicode_utf8_acceptRanges) (by simp [laid2])
  rw [first_eq] at h3
  rw [accept_eq] at h4
  have hT : Lib.Utf8Tabs 0 1 W := utf8Tabs_of_reads Tryd.lays260 u8x h3 h4
  refine ⟨hT, ?_⟩
  have hc := (hT.2 0 (by omega)).1
  rcases Nat.lt_or_ge 1 W.heap.size with h1 | h1
  · omega
  · unfold World.cell? at hc
    rw [Array.getElem?_eq_none h1] at hc
    cases hc
set_option maxRecDepth 100000 in
/-- A memory in which the two tables lie meets the rows' list. -/
theorem laid_all (os : Os) (args : Array Value) : laidMetH Tryd.prog laid2 ((World.laidAll Tryd.prog os laid2).forCall (fun _ _ => 0) ⟨#[], args, []⟩).memory := by
  rw [MakeChecks.laidMetH_plain _ _ _ (by kernel_rfl)]; exact laidMet_laidAll _ (by kernel_rfl) (by kernel_rfl)
end Go.Proofs.YtceeimolfalmpaaDoor.U
