/-
  The statement on places (UtfAt) answers true for every text and every int. Condition: the two tables of unicode/utf8 lie as their text lays them.
-/
import Derived.Test.YteabicdmgbcpaaaDoorWakes
namespace Go.Proofs.YteabicdmgbcpaaaDoor
open Go.RowKit ObUtf

set_option maxHeartbeats 2000000 in
set_option maxRecDepth 100000 in
theorem at_walk (s : ByteArray) (at' : Int) (w : World) (hT : Tb w) : Calls Tryd.prog 3 #[.string s, .int .i64 at'] w fun e w' => e = .returned (.bool true) ∧ Below w.heap.size w w' := by
  have HT := Lib.hid hT; clear hT
  go_enter Tryd.func3, Tryd.ntmps3
  go_wp2_with fail
  refine (wakes_any _ HT.out).mono ?_
  rintro e w0 ⟨rfl, hb0⟩
  have HC := Lib.hid (cut_any s 60 w0 (by omega))
  have hz := cutB_size s 60
  rw [show (60 : Int).toNat = 60 from rfl] at HC
  generalize cutB s 60 = t at *
  have HL := Lib.hid (show t.size ≤ maxLen by unfold maxLen; omega)
  have HM := Lib.hid (show t.size ≤ 1000000 by omega)
  go_wp2_with fail
  refine HC.out.mono ?_
  rintro e w' ⟨rfl, rfl⟩
  clear HC
  go_wp2_with fail
  go_loopw [5] (fun u wr => ∃ j : Nat, j ≤ t.size + 3 ∧ u = .int .i64 ((j : Int) - 1) ∧ Below w.heap.size w wr) (fun u _ => (((t.size : Int) + 2) - intOf u).toNat)
  case atStart => exact ⟨0, by omega, rfl, hb0⟩
  case round =>
    obtain ⟨j, hj, rfl, hb⟩ := hrel
    clear hb0
    by_cases hlt : j < t.size + 3
    · have hd : decide ((j : Int) - 1 ≤ (t.size : Int) + 1) = true := by simp; omega
      go_wp2_with fail
      refine (at_any t ((j : Int) - 1) _ (HT.out.below hb).1).mono ?_
      rintro e y1 ⟨rfl, c1⟩
      have B1 := bel_trans hb c1
      clear c1
      go_wp2_with fail
      refine (rat_any t ((j : Int) - 1) _ HL.out).mono ?_
      rintro e y2 ⟨rfl, c2⟩
      have B2 := bel_trans B1 c2
      clear c2
      go_wp2_with fail
      refine (before_any t ((j : Int) - 1) _ HL.out (HT.out.below B2)).mono ?_
      rintro e y3 ⟨rfl, c3⟩
      have B3 := bel_trans B2 c3
      clear c3
      go_wp2_with fail
      refine (rbefore_any t ((j : Int) - 1) _ HM.out).mono ?_
      rintro e y4 ⟨rfl, c4⟩
      have B4 := bel_trans B3 c4
      clear c4
      go_wp2_with fail
      refine (is_any t ((j : Int) - 1) _ HL.out (HT.out.below B4)).mono ?_
      rintro e y5 ⟨rfl, c5⟩
      have B5 := bel_trans B4 c5
      clear c5
      go_wp2_with fail
      refine (ris_any t ((j : Int) - 1) _ HM.out).mono ?_
      rintro e y6 ⟨rfl, c6⟩
      have B6 := bel_trans B5 c6
      clear c6
      go_wp2_with fail
      go_roundw
      case rel => exact ⟨j + 1, by omega, by go_num, B6⟩
      case measure => simp [intOf]; omega
    · have hd : decide ((j : Int) - 1 ≤ (t.size : Int) + 1) = false := by simp; omega
      go_wp2_with fail
      refine (at_any t at' _ (HT.out.below hb).1).mono ?_
      rintro e y1 ⟨rfl, c1⟩
      have B1 := bel_trans hb c1
      clear c1
      go_wp2_with fail
      refine (rat_any t at' _ HL.out).mono ?_
      rintro e y2 ⟨rfl, c2⟩
      have B2 := bel_trans B1 c2
      clear c2
      go_wp2_with fail
      refine (before_any t at' _ HL.out (HT.out.below B2)).mono ?_
      rintro e y3 ⟨rfl, c3⟩
      have B3 := bel_trans B2 c3
      clear c3
      go_wp2_with fail
      refine (rbefore_any t at' _ HM.out).mono ?_
      rintro e y4 ⟨rfl, c4⟩
      have B4 := bel_trans B3 c4
      clear c4
      go_wp2_with fail
      refine (is_any t at' _ HL.out (HT.out.below B4)).mono ?_
      rintro e y5 ⟨rfl, c5⟩
      have B5 := bel_trans B4 c5
      clear c5
      go_wp2_with fail
      refine (ris_any t at' _ HM.out).mono ?_
      rintro e y6 ⟨rfl, c6⟩
      have B6 := bel_trans B5 c6
      clear c6
      go_wp2_with fail
      go_ret
      exact ⟨rfl, B6⟩
end Go.Proofs.YteabicdmgbcpaaaDoor
