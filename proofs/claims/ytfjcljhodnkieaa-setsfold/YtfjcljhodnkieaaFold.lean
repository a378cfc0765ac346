/-
  The law SetsFold, walked: for every slice of ranges and every number the call answers true, and what was lies as it did. Conditions: the slice's capacity is a length that a program may have.
-/
import Derived.Test.YtfjcljhodnkieaaW21
namespace Go.Proofs.Ytfjcljhodnkieaa
open Go.RowKit ObSets

theorem fd_great (l : List R) (x : Int) (h1 : 65 ≤ x) (h2 : x ≤ 90) : fd l x = (has l x || has l (x + 32)) := by
  unfold fd
  rw [show decide (65 ≤ x ∧ x ≤ 90) = true from decide_eq_true ⟨h1, h2⟩, show decide (97 ≤ x ∧ x ≤ 122) = false from decide_eq_false (by omega)]
  simp
theorem fd_small (l : List R) (x : Int) (h1 : 65 ≤ x) (h2 : x ≤ 90) : fd l (x + 32) = (has l x || has l (x + 32)) := by
  unfold fd
  rw [show decide (65 ≤ x + 32 ∧ x + 32 ≤ 90) = false from decide_eq_false (by omega), show decide (97 ≤ x + 32 ∧ x + 32 ≤ 122) = true from decide_eq_true (by omega), show x + 32 - 32 = x by omega]
  simp [Bool.or_comm]
theorem fd_other (l : List R) (x : Int) (h1 : ¬ (65 ≤ x ∧ x ≤ 90)) (h2 : ¬ (97 ≤ x ∧ x ≤ 122)) : fd l x = has l x := by
  unfold fd
  rw [show decide (65 ≤ x ∧ x ≤ 90) = false from decide_eq_false h1, show decide (97 ≤ x ∧ x ≤ 122) = false from decide_eq_false h2]
  simp

set_option maxHeartbeats 4000000 in
set_option maxRecDepth 100000 in
theorem fold_walk (A1 : Option Addr) (n1 c1 : Nat) (l1 : List R) (x : Int) (w : World) (hn1 : l1.length = n1) (hc1 : n1 ≤ c1) (hm1 : c1 ≤ maxLen) (h1 : Rgs w w.heap.size A1 (l1.take 8)) (hA1 : A1 = none → l1 = []) :
    Calls Try.prog 7 #[.slice A1 n1 c1, .int .i64 x] w fun e w' => e = .returned (.bool true) ∧ Below w.heap.size w w' := by
  obtain ⟨la, ea⟩ : ∃ la, l1.take 8 = la := ⟨_, rfl⟩
  obtain ⟨y, hy⟩ : ∃ y, x % 1114368 = y := ⟨_, rfl⟩
  have HY := Lib.hid hy
  clear hy
  have hla : la.length ≤ 8 := by rw [← ea, List.length_take]; omega
  have q1 := foldL_len la
  have HB0 := Lib.hid (Below.refl w.heap.size w)
  go_enter Try.func7, Try.ntmps7
  go_wp2_with fail
  refine (set_any A1 n1 c1 8 l1 w hn1 hc1 hm1 h1 hA1 (by omega)).mono ?_
  rintro e w1 ⟨v1, rfl, ho1, hb1⟩
  rw [ea] at ho1
  obtain ⟨B1, d1, rfl, r1⟩ := shape_of ho1
  clear ho1
  have HA1 := Lib.hid hb1
  have HB1 := Lib.hid (bel_trans HB0.out HA1.out)
  clear hb1
  have Q1 := Lib.hid r1
  clear r1
  clear hn1 hc1 hm1 h1 hA1 ea
  go_wp2_with fail
  refine (fold_any B1 d1 la _ Q1.out (by omega)).mono ?_
  rintro e w2 ⟨v2, rfl, ho2, hb2⟩
  obtain ⟨B2, d2, rfl, r2⟩ := shape_of ho2
  clear ho2
  have HA2 := Lib.hid hb2
  have HB2 := Lib.hid (bel_trans HB1.out HA2.out)
  clear hb2
  have Q1_2 := Lib.hid (Q1.out.on HA2.out)
  clear Q1
  have Q2 := Lib.hid r2
  clear r2
  go_wp2_with fail
  refine (fold_any B2 d2 (foldL la) _ Q2.out (by omega)).mono ?_
  rintro e w3 ⟨v3, rfl, ho3, hb3⟩
  rw [fold_twice] at ho3
  obtain ⟨B3, d3, rfl, r3⟩ := shape_of ho3
  clear ho3
  have HA3 := Lib.hid hb3
  have HB3 := Lib.hid (bel_trans HB2.out HA3.out)
  clear hb3
  have Q1_3 := Lib.hid (Q1_2.out.on HA3.out)
  clear Q1_2
  have Q2_3 := Lib.hid (Q2.out.on HA3.out)
  clear Q2
  have Q3 := Lib.hid r3
  clear r3
  go_wp2_with fail
  refine (eqset_any _ _ _ _ (foldL la) (foldL la) _ Q3.out Q2_3.out (by omega) (by omega)).mono ?_
  rintro e w4 ⟨rfl, hb4⟩
  rw [show decide (foldL la = foldL la) = true from decide_eq_true rfl]
  have HA4 := Lib.hid hb4
  have HB4 := Lib.hid (bel_trans HB3.out HA4.out)
  clear hb4
  have Q1_4 := Lib.hid (Q1_3.out.on HA4.out)
  clear Q1_3
  have Q2_4 := Lib.hid (Q2_3.out.on HA4.out)
  clear Q2_3
  have Q3_4 := Lib.hid (Q3.out.on HA4.out)
  clear Q3
  clear Q3_4
  have HHA := Lib.hid (show ∀ (W : World) (z : Int), Below w4.heap.size w4 W → Calls Try.prog 16 #[.slice B1 la.length d1, .int .i64 z] W fun e w' => e = .returned (.bool (has la z)) ∧ Below W.heap.size W w' from fun W z hb => has_any B1 d1 la z W (Q1_4.out.on hb) (by omega))
  have HHF := Lib.hid (show ∀ (W : World) (z : Int), Below w4.heap.size w4 W → Calls Try.prog 16 #[.slice B2 (foldL la).length d2, .int .i64 z] W fun e w' => e = .returned (.bool (fd la z)) ∧ Below W.heap.size W w' from fun W z hb => by have := has_any B2 d2 (foldL la) z W (Q2_4.out.on hb) (by omega); rw [(foldL_ok la).2] at this; exact this)
  clear Q1_4 Q2_4
  go_wp2_with fail
  go_loopw [6, 7] (fun t _ wr => ∃ k : Nat, k ≤ 26 ∧ t = .int .i32 (65 + k) ∧ Below w4.heap.size w4 wr) (fun t _ _ => 200 - (intOf t).toNat)
  case atStart => exact ⟨0, by omega, rfl, Below.refl _ _⟩
  case round =>
    obtain ⟨k, hk, rfl, hb9⟩ := hrel
    by_cases hkn : k < 26
    · have hd : decide ((65 : Int) + k ≤ 90) = true := by simp; omega
      have hdx : (65 : Int) + k ≤ 90 := by omega
      have w8 : IntKind.i64.wrap ((65 : Int) + k + 32) = (65 : Int) + k + 32 := IntWalk.i64_in _ (by omega)
      have G1 := Lib.hid (fd_great la (65 + k) (by omega) (by omega))
      have G2 := Lib.hid (fd_small la (65 + k) (by omega) (by omega))
      obtain ⟨p, hp⟩ : ∃ p, has la (65 + k) = p := ⟨_, rfl⟩
      obtain ⟨q, hq⟩ : ∃ q, has la (65 + k + 32) = q := ⟨_, rfl⟩
      rw [hp, hq] at G1 G2
      have HP := Lib.hid hp; have HQ := Lib.hid hq
      clear hp hq
      cases p with
      | true =>
        cases q
        all_goals (
          go_wp2_with fail
          refine (HHA.out _ (65 + k) hb9).mono ?_
          rintro e x1 ⟨rfl, hx1⟩
          rw [HP.out]
          have HX1 := Lib.hid (bel_trans hb9 hx1)
          clear hx1
          go_wp2_with fail
          refine (HHF.out _ (65 + k) HX1.out).mono ?_
          rintro e x3 ⟨rfl, hx3⟩
          rw [G1.out]
          have HX3 := Lib.hid (bel_trans HX1.out hx3)
          clear hx3
          go_wp2_with fail
          refine (HHF.out _ (65 + k + 32) HX3.out).mono ?_
          rintro e x4 ⟨rfl, hx4⟩
          rw [G2.out]
          have HX4 := Lib.hid (bel_trans HX3.out hx4)
          clear hx4
          go_wp2_with fail
          go_roundw
          case rel => exact ⟨k + 1, by omega, congrArg (Value.int .i32) (by omega), HX4.out⟩
          case measure => simp [intOf]; omega)
      | false =>
        cases q
        all_goals (
          go_wp2_with fail
          refine (HHA.out _ (65 + k) hb9).mono ?_
          rintro e x1 ⟨rfl, hx1⟩
          rw [HP.out]
          have HX1 := Lib.hid (bel_trans hb9 hx1)
          clear hx1
          go_wp2_with fail
          refine (HHA.out _ (65 + k + 32) HX1.out).mono ?_
          rintro e x2 ⟨rfl, hx2⟩
          rw [HQ.out]
          have HX2 := Lib.hid (bel_trans HX1.out hx2)
          clear hx2
          go_wp2_with fail
          refine (HHF.out _ (65 + k) HX2.out).mono ?_
          rintro e x3 ⟨rfl, hx3⟩
          rw [G1.out]
          have HX3 := Lib.hid (bel_trans HX2.out hx3)
          clear hx3
          go_wp2_with fail
          refine (HHF.out _ (65 + k + 32) HX3.out).mono ?_
          rintro e x4 ⟨rfl, hx4⟩
          rw [G2.out]
          have HX4 := Lib.hid (bel_trans HX3.out hx4)
          clear hx4
          go_wp2_with fail
          go_roundw
          case rel => exact ⟨k + 1, by omega, congrArg (Value.int .i32) (by omega), HX4.out⟩
          case measure => simp [intOf]; omega)
    · have hd : decide ((65 : Int) + k ≤ 90) = false := by simp; omega
      have HB9 := Lib.hid (bel_trans HB4.out hb9)
      go_wp2_with fail
      refine (within_any x 1114368 _ (by omega) (by omega)).mono ?_
      rintro e x1 ⟨rfl, rfl⟩
      rw [show x % ((1114368 : Nat) : Int) = y from HY.out]
      rcases (show (65 ≤ y ∧ y ≤ 90) ∨ (97 ≤ y ∧ y ≤ 122) ∨ y < 65 ∨ (90 < y ∧ y < 97) ∨ 122 < y by omega) with ⟨t1, t2⟩ | ⟨t1, t2⟩ | t1 | ⟨t1, t2⟩ | t1
      · have j1 : decide (65 ≤ y) = true := by simp; omega
        have j2 : decide (y ≤ 90) = true := by simp; omega
        go_wp2_with fail
        refine (wakes_any _).mono ?_
        rintro e x2 ⟨rfl, hx2⟩
        go_wp2_with fail
        go_ret
        exact ⟨rfl, bel_trans HB9.out hx2⟩
      · have j1 : decide (65 ≤ y) = true := by simp; omega
        have j2 : decide (y ≤ 90) = false := by simp; omega
        have j3 : decide (97 ≤ y) = true := by simp; omega
        have j4 : decide (y ≤ 122) = true := by simp; omega
        go_wp2_with fail
        refine (wakes_any _).mono ?_
        rintro e x2 ⟨rfl, hx2⟩
        go_wp2_with fail
        go_ret
        exact ⟨rfl, bel_trans HB9.out hx2⟩
      · have j1 : decide (65 ≤ y) = false := by simp; omega
        have j3 : decide (97 ≤ y) = false := by simp; omega
        have G3 := Lib.hid (fd_other la y (by omega) (by omega))
        go_wp2_with fail
        refine (HHF.out _ y hb9).mono ?_
        rintro e x2 ⟨rfl, hx2⟩
        rw [G3.out]
        have HX2 := Lib.hid (bel_trans hb9 hx2)
        clear hx2
        go_wp2_with fail
        refine (HHA.out _ y HX2.out).mono ?_
        rintro e x3 ⟨rfl, hx3⟩
        have HX3 := Lib.hid (bel_trans HX2.out hx3)
        clear hx3 G3
        generalize has la y = bb
        have hbb : (bb == bb) = true := by simp
        go_wp2_with fail
        refine (wakes_any _).mono ?_
        rintro e x4 ⟨rfl, hx4⟩
        go_wp2_with fail
        go_ret
        exact ⟨rfl, bel_trans (bel_trans HB4.out HX3.out) hx4⟩
      · have j1 : decide (65 ≤ y) = true := by simp; omega
        have j2 : decide (y ≤ 90) = false := by simp; omega
        have j3 : decide (97 ≤ y) = false := by simp; omega
        have G3 := Lib.hid (fd_other la y (by omega) (by omega))
        go_wp2_with fail
        refine (HHF.out _ y hb9).mono ?_
        rintro e x2 ⟨rfl, hx2⟩
        rw [G3.out]
        have HX2 := Lib.hid (bel_trans hb9 hx2)
        clear hx2
        go_wp2_with fail
        refine (HHA.out _ y HX2.out).mono ?_
        rintro e x3 ⟨rfl, hx3⟩
        have HX3 := Lib.hid (bel_trans HX2.out hx3)
        clear hx3 G3
        generalize has la y = bb
        have hbb : (bb == bb) = true := by simp
        go_wp2_with fail
        refine (wakes_any _).mono ?_
        rintro e x4 ⟨rfl, hx4⟩
        go_wp2_with fail
        go_ret
        exact ⟨rfl, bel_trans (bel_trans HB4.out HX3.out) hx4⟩
      · have j1 : decide (65 ≤ y) = true := by simp; omega
        have j2 : decide (y ≤ 90) = false := by simp; omega
        have j3 : decide (97 ≤ y) = true := by simp; omega
        have j4 : decide (y ≤ 122) = false := by simp; omega
        have G3 := Lib.hid (fd_other la y (by omega) (by omega))
        go_wp2_with fail
        refine (HHF.out _ y hb9).mono ?_
        rintro e x2 ⟨rfl, hx2⟩
        rw [G3.out]
        have HX2 := Lib.hid (bel_trans hb9 hx2)
        clear hx2
        go_wp2_with fail
        refine (HHA.out _ y HX2.out).mono ?_
        rintro e x3 ⟨rfl, hx3⟩
        have HX3 := Lib.hid (bel_trans HX2.out hx3)
        clear hx3 G3
        generalize has la y = bb
        have hbb : (bb == bb) = true := by simp
        go_wp2_with fail
        refine (wakes_any _).mono ?_
        rintro e x4 ⟨rfl, hx4⟩
        go_wp2_with fail
        go_ret
        exact ⟨rfl, bel_trans (bel_trans HB4.out HX3.out) hx4⟩
end Go.Proofs.Ytfjcljhodnkieaa
