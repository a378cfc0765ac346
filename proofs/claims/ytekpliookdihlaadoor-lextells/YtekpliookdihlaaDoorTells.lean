/-
  The statement on all texts (LexTells) answers true for every text. Condition: the two tables of unicode/utf8 lie as their text lays them.
-/
import Derived.Test.YtekpliookdihlaaDoorV1
namespace Go.Proofs.YtekpliookdihlaaDoor
open Go.RowKit ObUtf ObSets ObLex

set_option maxHeartbeats 1000000 in
set_option maxRecDepth 100000 in
theorem tells_walk (s : ByteArray) (w : World) (hT : U.Tb w) : Calls Tryd.prog 3 #[.string s] w fun e w' => e = .returned (.bool true) ∧ Below w.heap.size w w' := by
  have HT := Lib.hid hT; clear hT
  have HC := Lib.hid (U.cut_any s 200 w (by decide))
  have hsz : (U.cutB s (200 : Int).toNat).size ≤ 200 := U.cutB_size s _
  generalize U.cutB s (200 : Int).toNat = t at *
  have HA := Lib.hid (asks_true t w HT.out (by omega))
  go_enter Tryd.func3, Tryd.ntmps3
  go_wp2_with fail
  refine HC.out.mono ?_
  rintro e w1 ⟨rfl, rfl⟩
  go_wp2_with fail
  refine HA.out.mono ?_
  rintro e w1 ⟨rfl, hb1⟩
  have HW := Lib.hid (wakes_any w1 (HT.out.below hb1))
  go_wp2_with fail
  refine HW.out.mono ?_
  rintro e w2 ⟨rfl, hb2⟩
  go_wp2_with fail
  go_ret
  exact ⟨rfl, bel_trans hb1 hb2⟩
end Go.Proofs.YtekpliookdihlaaDoor
