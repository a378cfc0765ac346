/-
  The statement on single symbols (UtfSyms) answers true for every int. Condition: the two tables of unicode/utf8 lie as their text lays them.
-/
import Derived.Test.YteabicdmgbcpaaaDoorWakes
import Derived.Test.YteabicdmgbcpaaaDoorEnc
namespace Go.Proofs.YteabicdmgbcpaaaDoor
open Go.RowKit ObUtf

theorem syI_0 (s : ByteArray) : syI s 0 = sy s 0 := rfl
theorem wdI_0 (s : ByteArray) : wdI s 0 = (wd s 0 : Int) := rfl
set_option maxHeartbeats 2000000 in
set_option maxRecDepth 100000 in
theorem syms_walk (x : Int) (w : World) (hT : Tb w) : Calls Tryd.prog 5 #[.int .i64 x] w fun e w' => e = .returned (.bool true) ∧ Below w.heap.size w w' := by
  have HT := Lib.hid hT; clear hT
  have q1 : ((bytesB x).toList != (bytesB x).toList) = false := by simp
  go_enter Tryd.func5, Tryd.ntmps5
  go_wp2_with fail
  refine (good_any _ _).mono ?_
  rintro e w' ⟨rfl, rfl⟩
  go_wp2_with fail
  refine (rgood_any _ _).mono ?_
  rintro e w' ⟨rfl, rfl⟩
  go_wp2_with fail
  refine (bytes_any _ _).mono ?_
  rintro e w1 ⟨rfl, hb1⟩
  go_wp2_with fail
  refine (rbytes_any _ _).mono ?_
  rintro e w2 ⟨rfl, hb2⟩
  go_wp2_with fail
  refine (next_any _ _).mono ?_
  rintro e w' ⟨rfl, rfl⟩
  go_wp2_with fail
  refine (rnext_any _ _).mono ?_
  rintro e w' ⟨rfl, rfl⟩
  go_wp2_with fail
  refine (prev_any _ _).mono ?_
  rintro e w' ⟨rfl, rfl⟩
  go_wp2_with fail
  refine (rprev_any _ _).mono ?_
  rintro e w' ⟨rfl, rfl⟩
  go_wp2_with fail
  have hB := bel_trans hb1 hb2
  clear hb1 hb2 q1
  go_loopw [3] (fun t wr => ∃ j : Nat, j ≤ 5 ∧ t = .int .i64 ((j : Int) - 2) ∧ Below w.heap.size w wr) (fun t _ => (3 - intOf t).toNat)
  case atStart => exact ⟨0, by omega, rfl, hB⟩
  case round =>
    obtain ⟨j, hj, rfl, hb⟩ := hrel
    clear hB
    by_cases hlt : j < 5
    · have hd : decide ((j : Int) - 2 ≤ 2) = true := by simp; omega
      have r0 : 0 ≤ x % 1114384 := by omega
      have r1 : x % 1114384 < 1114384 := by omega
      have HW := Lib.hid (within_any x wr)
      generalize x % 1114384 = r at *
      go_wp2_with fail
      refine HW.out.mono ?_
      rintro e w' ⟨rfl, rfl⟩
      go_wp2_with fail
      generalize r + ((j : Int) - 2) = y
      have q1 : ((bytesB y).toList != (bytesB y).toList) = false := by simp
      clear HW r0 r1
      refine (good_any _ _).mono ?_
      rintro e w' ⟨rfl, rfl⟩
      go_wp2_with fail
      refine (rgood_any _ _).mono ?_
      rintro e w' ⟨rfl, rfl⟩
      go_wp2_with fail
      refine (bytes_any _ _).mono ?_
      rintro e w1 ⟨rfl, hb1⟩
      go_wp2_with fail
      refine (rbytes_any _ _).mono ?_
      rintro e w2 ⟨rfl, hb2⟩
      go_wp2_with fail
      refine (next_any _ _).mono ?_
      rintro e w' ⟨rfl, rfl⟩
      go_wp2_with fail
      refine (rnext_any _ _).mono ?_
      rintro e w' ⟨rfl, rfl⟩
      go_wp2_with fail
      refine (prev_any _ _).mono ?_
      rintro e w' ⟨rfl, rfl⟩
      go_wp2_with fail
      refine (rprev_any _ _).mono ?_
      rintro e w' ⟨rfl, rfl⟩
      go_wp2_with fail
      refine (good_any _ _).mono ?_
      rintro e w' ⟨rfl, rfl⟩
      have hB := bel_trans (bel_trans hb hb1) hb2
      clear hb hb1 hb2 q1
      by_cases hg : goodB y = true
      · obtain ⟨e1, e2, e3⟩ := enc_at y hg
        have HN := Lib.hid (next_prev y hg)
        have HP := Lib.hid (prev_next y hg)
        have HA := Lib.hid (fun W hW => at_any (bytesB y) 0 W hW)
        rw [syI_0, wdI_0, e1, e2] at HA
        have q2 : (((bytesB y).size : Int) == 0) = false := beq_eq_false_iff_ne.2 (by omega)
        have q3 : ((bytesB y).size == 0) = false := beq_eq_false_iff_ne.2 (by omega)
        clear e1 e2
        go_wp2_with fail
        refine (bytes_any _ _).mono ?_
        rintro e w3 ⟨rfl, hb3⟩
        have hB3 := bel_trans hB hb3
        go_wp2_with fail
        refine (HA.out _ (HT.out.below hB3).1).mono ?_
        rintro e w4 ⟨rfl, hb4⟩
        have hB4 := bel_trans hB3 hb4
        clear hB hB3 hb3 hb4 HA
        by_cases hn : 0 ≤ nextI y
        · have hdn : decide (0 ≤ nextI y) = true := by simp [hn]
          have en := HN.out hn
          by_cases hp : 0 ≤ prevI y
          · have hdp : decide (0 ≤ prevI y) = true := by simp [hp]
            have ep := HP.out hp
            go_wp2_with (first | (go_at_call 27; refine (next_any _ _).mono ?_; rintro e w' ⟨rfl, rfl⟩) | (go_at_call 29; refine (prev_any _ _).mono ?_; rintro e w' ⟨rfl, rfl⟩))
            go_roundw
            case rel => exact ⟨j + 1, by omega, by go_num, hB4⟩
            case measure => simp [intOf]; omega
          · have hdp : decide (0 ≤ prevI y) = false := by simp; omega
            go_wp2_with (first | (go_at_call 27; refine (next_any _ _).mono ?_; rintro e w' ⟨rfl, rfl⟩) | (go_at_call 29; refine (prev_any _ _).mono ?_; rintro e w' ⟨rfl, rfl⟩))
            go_roundw
            case rel => exact ⟨j + 1, by omega, by go_num, hB4⟩
            case measure => simp [intOf]; omega
        · have hdn : decide (0 ≤ nextI y) = false := by simp; omega
          by_cases hp : 0 ≤ prevI y
          · have hdp : decide (0 ≤ prevI y) = true := by simp [hp]
            have ep := HP.out hp
            go_wp2_with (first | (go_at_call 27; refine (next_any _ _).mono ?_; rintro e w' ⟨rfl, rfl⟩) | (go_at_call 29; refine (prev_any _ _).mono ?_; rintro e w' ⟨rfl, rfl⟩))
            go_roundw
            case rel => exact ⟨j + 1, by omega, by go_num, hB4⟩
            case measure => simp [intOf]; omega
          · have hdp : decide (0 ≤ prevI y) = false := by simp; omega
            go_wp2_with (first | (go_at_call 27; refine (next_any _ _).mono ?_; rintro e w' ⟨rfl, rfl⟩) | (go_at_call 29; refine (prev_any _ _).mono ?_; rintro e w' ⟨rfl, rfl⟩))
            go_roundw
            case rel => exact ⟨j + 1, by omega, by go_num, hB4⟩
            case measure => simp [intOf]; omega
      · have hg' : goodB y = false := by simpa using hg
        clear hg
        go_wp2_with fail
        go_roundw
        case rel => exact ⟨j + 1, by omega, by go_num, hB⟩
        case measure => simp [intOf]; omega
    · have hd : decide ((j : Int) - 2 ≤ 2) = false := by simp; omega
      go_wp2_with (go_at_call 9; refine (wakes_any _ (HT.out.below hb)).mono ?_; rintro e w' ⟨rfl, hbw⟩)
      go_ret
      exact ⟨rfl, bel_trans hb hbw⟩
end Go.Proofs.YteabicdmgbcpaaaDoor
