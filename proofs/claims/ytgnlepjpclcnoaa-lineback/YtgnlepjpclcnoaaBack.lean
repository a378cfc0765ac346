/-
  The statement on places of lines and columns (LineBack) answers true for every slice of numbers. No condition.
-/
import Derived.Test.YtgnlepjpclcnoaaTurned
namespace Go.Proofs.Ytgnlepjpclcnoaa
open Go.RowKit ObLine

/-- The line and the column ahead of a place. -/
def wasL (f : Nat → Int) : Nat → Nat
  | 0 => 1
  | p + 1 => ln f p
def wasC (f : Nat → Int) : Nat → Nat
  | 0 => 0
  | p + 1 => p + 1 - st f p
theorem was_step (f : Nat → Int) {m p : Nat} (hp : p ≤ m) : (ln f p = wasL f p ∧ p + 1 - st f p = wasC f p + 1) ∨ (ln f p = wasL f p + 1 ∧ p + 1 - st f p = 1 ∧ bol f m (p : Int) = true) := by
  cases p with
  | zero => left; exact ⟨rfl, rfl⟩
  | succ p =>
    by_cases h : f p = 10
    · right
      refine ⟨ln_10 h, ?_, ?_⟩
      · rw [st_10 h]; omega
      · rw [bol_succ (by omega)]; simpa using h
    · left
      refine ⟨ln_no h, ?_⟩
      rw [st_no h]
      have := st_le f p
      show p + 1 + 1 - st f p = p + 1 - st f p + 1
      omega
theorem wasL_le (f : Nat → Int) (p : Nat) : wasL f p ≤ p + 1 := by
  cases p with
  | zero => exact Nat.le_refl _
  | succ p => show ln f p ≤ _; have := ln_le f p; omega
theorem wasC_le (f : Nat → Int) (p : Nat) : wasC f p ≤ p := by
  cases p with
  | zero => exact Nat.le_refl _
  | succ p => show p + 1 - st f p ≤ _; omega
theorem at_back {A : Option Addr} {n c : Nat} {f : Nat → Int} {w : World} (h : Cells w w.heap.size A n f) (hn : n ≤ 1000000) (hc : n ≤ c) {p : Nat} (hp : p ≤ n) :
    Calls Try.prog 18 #[.slice A n c, .int .i64 (ln f p : Nat), .int .i64 ((p + 1 - st f p : Nat) : Int)] w fun e w' => e = .returned (.tuple #[.int .i64 (p : Int), .int .i64 0]) ∧ Below w.heap.size w w' := by
  have h1 := st_le f p
  have h2 := ln_le f p
  refine (at_any (c := c) h hn hc (Nat.le_refl _) (ln f p : Nat) ((p + 1 - st f p : Nat) : Int) (by omega) (by omega)).mono ?_
  rintro e w' ⟨⟨P, E, rfl, hI⟩, hb⟩
  obtain ⟨rfl, rfl⟩ := hI.uniq (.inl ⟨p, ⟨hp, rfl, by omega⟩, rfl, rfl⟩)
  exact ⟨rfl, hb⟩
theorem of_back {A : Option Addr} {n c : Nat} {f : Nat → Int} {w : World} (h : Cells w w.heap.size A n f) (hn : n ≤ 1000000) (hc : n ≤ c) {p : Nat} (hp : p ≤ n) :
    Calls Try.prog 12 #[.slice A n c, .int .i64 (p : Int)] w fun e w' => e = .returned (.tuple #[.int .i64 (ln f p : Nat), .int .i64 ((p + 1 - st f p : Nat) : Int), .int .i64 0]) ∧ Below w.heap.size w w' := by
  have k := of_any (c := c) h hn hc (p : Int)
  have h1 := st_le f p
  rwa [ofE_in hp, show (p : Int) - (st f p : Nat) + 1 = ((p + 1 - st f p : Nat) : Int) by omega] at k
set_option maxHeartbeats 2000000 in
set_option maxRecDepth 100000 in
theorem back_walk {A : Option Addr} {n : Nat} {f : Nat → Int} {w : World} (c : Nat) (h : Cells w w.heap.size A n f) :
    Calls Try.prog 4 #[.slice A n c] w fun e w' => e = .returned (.bool true) ∧ Below w.heap.size w w' := by
  have HL := Lib.hid (lines_c c h)
  clear h
  go_enter Try.func4, Try.ntmps4
  go_wp2_with fail
  refine HL.out.mono ?_
  rintro e w1 ⟨A1, m, c1, g, rfl, hm, hmc, hcl, hb1⟩
  have HC := Lib.hid hcl
  clear hcl HL
  go_wp2_with fail
  go_loopw [3, 4, 5] (fun a b t wr => ∃ p : Nat, p ≤ m + 1 ∧ t = .int .i64 (p : Int) ∧ a = .int .i64 (wasL g p : Nat) ∧ b = .int .i64 (wasC g p : Nat) ∧ Below w1.heap.size w1 wr) (fun _ _ t _ => m + 1 - (intOf t).toNat)
  case atStart => exact ⟨0, Nat.zero_le _, rfl, rfl, rfl, Below.refl _ _⟩
  case round =>
    obtain ⟨p, hp, rfl, rfl, rfl, hb⟩ := hrel
    by_cases hlt : p ≤ m
    · have hd : decide (p ≤ m) = true := by simp [hlt]
      have hw := wasL_le g p
      have hwc := wasC_le g p
      have H1 := Lib.hid (of_back (HC.out.on hb) (by omega) hmc hlt)
      have H2 := Lib.hid (fun (x : World) (hx : Below w1.heap.size w1 x) => at_back (c := c1) (HC.out.on hx) (by omega) hmc hlt)
      have H3 := Lib.hid (fun (x : World) (hx : Below w1.heap.size w1 x) => bol_any (c := c1) (HC.out.on hx) (by omega) (p : Int))
      have HN1 := Lib.hid (show ln g p = wasL g (p + 1) from rfl)
      have HN2 := Lib.hid (show p + 1 - st g p = wasC g (p + 1) from rfl)
      have hl := ln_le g p
      have hs : p + 1 - st g p ≤ p + 1 := by omega
      have hqp : ((p : Int) != (p : Int)) = false := by simp
      unfold BolC at H3
      rcases was_step g hlt with ⟨s1, s2⟩ | ⟨s1, s2, s3⟩
      · have y1 : (((ln g p : Nat) : Int) == (wasL g p : Nat)) = true := by rw [s1]; simp
        have y2 : (((p + 1 - st g p : Nat) : Int) != ((wasC g p : Nat) : Int) + 1) = false := by rw [s2]; simp
        have y3 : (((ln g p : Nat) : Int) != (wasL g p : Nat)) = false := by rw [s1]; simp
        clear s1 s2 H3 HC
        generalize ln g p = a1 at *
        generalize p + 1 - st g p = b1 at *
        generalize wasL g p = a0 at *
        generalize wasC g p = b0 at *
        go_wp2_with fail
        refine H1.out.mono ?_
        rintro e x1 ⟨rfl, k1⟩
        have K1 := bel_trans hb k1
        clear k1 H1
        go_wp2_with fail
        refine (H2.out _ K1).mono ?_
        rintro e x2 ⟨rfl, k2⟩
        have K2 := bel_trans K1 k2
        clear k2 H2
        go_wp2
        go_roundw
        case rel => exact ⟨p + 1, by omega, by go_num, by rw [HN1.out], by rw [HN2.out], K2⟩
        case measure => simp [intOf]; omega
      · have y1 : (((ln g p : Nat) : Int) == (wasL g p : Nat)) = false := by rw [s1, beq_eq_false_iff_ne]; omega
        have y3 : (((ln g p : Nat) : Int) != (wasL g p : Nat)) = true := by rw [bne_iff_ne, s1]; omega
        have y4 : (((ln g p : Nat) : Int) != ((wasL g p : Nat) : Int) + 1) = false := by rw [s1]; simp
        have y5 : (((p + 1 - st g p : Nat) : Int) != 1) = false := by rw [s2]; rfl
        rw [s3] at H3
        clear s1 s2 s3 HC
        generalize ln g p = a1 at *
        generalize p + 1 - st g p = b1 at *
        generalize wasL g p = a0 at *
        generalize wasC g p = b0 at *
        go_wp2_with fail
        refine H1.out.mono ?_
        rintro e x1 ⟨rfl, k1⟩
        have K1 := bel_trans hb k1
        clear k1 H1
        go_wp2_with fail
        refine (H2.out _ K1).mono ?_
        rintro e x2 ⟨rfl, k2⟩
        have K2 := bel_trans K1 k2
        clear k2 H2
        go_wp2_with fail
        refine (H3.out _ K2).mono ?_
        rintro e x3 ⟨rfl, k3⟩
        have K3 := bel_trans K2 k3
        clear k3 H3
        go_wp2
        go_roundw
        case rel => exact ⟨p + 1, by omega, by go_num, by rw [HN1.out], by rw [HN2.out], K3⟩
        case measure => simp [intOf]; omega
    · obtain rfl : p = m + 1 := by omega
      have hd : decide (m + 1 ≤ m) = false := by simp
      have H1 := Lib.hid (starts_any (c := c1) (HC.out.on hb) (by omega))
      have HW := Lib.hid (show wasL g (m + 1) = (starts g m).length from (starts_len g m).symm)
      rw [HW.out]
      clear HC
      go_wp2_with fail
      refine H1.out.mono ?_
      rintro e x1 ⟨v, rfl, hown, k1⟩
      obtain ⟨A2, c2, rfl, _, _, _⟩ := own_cells hown
      have hq : (((starts g m).length : Int) == ((starts g m).length : Int)) = true := by simp
      have hq2 : ((starts g m).length == (starts g m).length) = true := by simp
      clear hown HW
      generalize (starts g m).length = z at *
      go_wp2_with fail
      refine (wakes_any _).mono ?_
      rintro e x2 ⟨rfl, k2⟩
      go_wp2
      go_ret
      exact ⟨rfl, bel_trans (bel_trans (bel_trans hb1 hb) k1) k2⟩
end Go.Proofs.Ytgnlepjpclcnoaa
