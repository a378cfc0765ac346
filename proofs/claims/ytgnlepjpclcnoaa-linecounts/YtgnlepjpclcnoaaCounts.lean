/-
  The statement on how many lines there are (LineCounts) answers true for every slice of numbers. No condition.
-/
import Derived.Test.YtgnlepjpclcnoaaTurned
namespace Go.Proofs.Ytgnlepjpclcnoaa
open Go.RowKit ObLine

theorem ends_last (f : Nat → Int) (n : Nat) : ends f n (n + 1) = ln f n := by unfold ends; rw [if_neg (by omega)]
theorem begs_le (f : Nat → Int) (p : Nat) : begs f p ≤ p := by
  cases p with
  | zero => exact Nat.le_refl _
  | succ p => exact ln_le f p
theorem ends_le (f : Nat → Int) {n p : Nat} (hp : p ≤ n) : ends f n p ≤ p := by
  unfold ends; rw [if_pos hp]; have := ln_le f p; omega
/-- lines, then Ints. -/
theorem starts_c {A : Option Addr} {n c : Nat} {f : Nat → Int} {w : World} (h : Cells w w.heap.size A n f) (hn : n ≤ 1000000) :
    Calls Try.prog 10 #[.slice A n c] w fun e w' => ∃ A' c', e = .returned (.slice A' (starts f n).length c') ∧ Cells w' w'.heap.size A' (starts f n).length (fun j => (starts f n).getD j 0) ∧ Below w.heap.size w w' := by
  refine (starts_any (c := c) h hn).mono ?_
  rintro e w' ⟨v, rfl, hown, hb⟩
  obtain ⟨A', c', rfl, _, _, hk⟩ := own_cells hown
  exact ⟨A', c', rfl, hk, hb⟩
set_option maxHeartbeats 2000000 in
set_option maxRecDepth 100000 in
theorem counts_walk {A : Option Addr} {n : Nat} {f : Nat → Int} {w : World} (c : Nat) (h : Cells w w.heap.size A n f) :
    Calls Try.prog 5 #[.slice A n c] w fun e w' => e = .returned (.bool true) ∧ Below w.heap.size w w' := by
  have HL := Lib.hid (lines_c c h)
  clear h
  go_enter Try.func5, Try.ntmps5
  go_wp2_with fail
  refine HL.out.mono ?_
  rintro e w1 ⟨A1, m1, c1, g, rfl, hm, hmc, hcl, hb1⟩
  have HI := Lib.hid (ints_any A1 m1 c1 w1 hmc hm)
  have HC0 := Lib.hid hcl
  clear hcl HL
  go_wp2_with fail
  refine HI.out.mono ?_
  rintro e w1' ⟨A2, c2, rfl, hc2, hk2, rfl⟩
  have HC := Lib.hid (hk2 _ _ _ HC0.out)
  have hm2 : min m1 50 ≤ 50 := Nat.min_le_right _ _
  clear hk2 HC0 HI
  generalize min m1 50 = m at *
  go_wp2_with fail
  go_loop [3, 6] (fun a t => ∃ k : Nat, k ≤ m ∧ t = .int .i64 (k : Int) ∧ a = .int .i64 (ln g k : Nat)) (fun _ t => m - (intOf t).toNat)
  case atStart => exact ⟨0, Nat.zero_le _, rfl, rfl⟩
  case round =>
    obtain ⟨k, hk, rfl, rfl⟩ := hrel
    have hl := ln_le g k
    by_cases hlt : k < m
    · obtain ⟨b, off, rfl, hbB, hcl⟩ := HC.out (by omega)
      have hx := hcl k hlt
      have hd : decide (k < m) = true := by simp [hlt]
      clear hcl HC
      by_cases he : g k = 10
      · have HX := Lib.hid (ln_10 he)
        have hq : (g k == 10) = true := by simp [he]
        clear he
        generalize g k = y at *
        generalize ln g k = lj at *
        go_wp2
        go_round
        case rel => exact ⟨k + 1, by omega, by go_num, by rw [HX.out]; go_num⟩
        case measure => simp [intOf]; omega
      · have HX := Lib.hid (ln_no he)
        have hq : (g k == 10) = false := by rw [beq_eq_false_iff_ne]; exact he
        clear he
        generalize g k = y at *
        generalize ln g k = lj at *
        go_wp2
        go_round
        case rel => exact ⟨k + 1, by omega, by go_num, by rw [HX.out]⟩
        case measure => simp [intOf]; omega
    · obtain rfl : k = m := by omega
      have hd : decide (k < k) = false := by simp
      have HS := Lib.hid (starts_c (c := c2) HC.out (by omega))
      go_wp2_with fail
      refine HS.out.mono ?_
      rintro e w2 ⟨A3, c3, rfl, hc3, hb2⟩
      have HD := Lib.hid hc3
      have HC2 := Lib.hid (HC.out.on hb2)
      have hb12 := bel_trans hb1 hb2
      have HN := Lib.hid (starts_len g k)
      have hsl : (starts g k).length ≤ 1000001 := by rw [starts_len]; omega
      clear hc3 HC HS
      go_wp2_with fail
      go_loopw [4, 5, 8] (fun a b t wr => ∃ p : Nat, p ≤ k + 1 ∧ t = .int .i64 (p : Int) ∧ a = .int .i64 (begs g p : Nat) ∧ b = .int .i64 (ends g k p : Nat) ∧ Below w2.heap.size w2 wr) (fun _ _ t _ => k + 1 - (intOf t).toNat)
      case atStart => exact ⟨0, Nat.zero_le _, rfl, rfl, by rw [show ends g k 0 = 0 from Nat.le_zero.1 (ends_le g (Nat.zero_le _))]; rfl, Below.refl _ _⟩
      case round =>
        obtain ⟨p, hp, rfl, rfl, rfl, hb⟩ := hrel
        by_cases hpk : p ≤ k
        · have hdp : decide (p ≤ k) = true := by simp [hpk]
          have hbl := begs_le g p
          have hel := ends_le g hpk
          have HB := Lib.hid (begs_next (f := g) hpk)
          have HE := Lib.hid (ends_next (f := g) hpk)
          have H1 := Lib.hid (fun (x : World) (hx : Below w2.heap.size w2 x) => bol_any (c := c2) (HC2.out.on hx) (by omega) (p : Int))
          have H2 := Lib.hid (fun (x : World) (hx : Below w2.heap.size w2 x) => has_any (c := c3) (HD.out.on hx) hsl (p : Int))
          have H3 := Lib.hid (fun (x : World) (hx : Below w2.heap.size w2 x) => eol_any (c := c2) (HC2.out.on hx) (by omega) (p : Int))
          rw [← starts_bol hpk] at H2
          clear HD HC2 HN hsl
          unfold BolC at H1
          unfold EolC at H3
          generalize (starts g k).length = z at *
          generalize begs g p = b0 at *
          generalize ends g k p = e0 at *
          generalize bol g k (p : Int) = r1 at *
          generalize eol g k (p : Int) = r2 at *
          have y1 : (r1 != r1) = false := by simp
          go_wp2_with fail
          refine (H1.out _ hb).mono ?_
          rintro e x1 ⟨rfl, k1⟩
          have K1 := bel_trans hb k1
          clear k1
          go_wp2_with fail
          refine (H2.out _ K1).mono ?_
          rintro e x2 ⟨rfl, k2⟩
          have K2 := bel_trans K1 k2
          clear k2 H2 K1
          go_wp2_with fail
          refine (H1.out _ K2).mono ?_
          rintro e x3 ⟨rfl, k3⟩
          have K3 := bel_trans K2 k3
          clear k3 H1 K2
          cases r1 with
          | true =>
            rw [if_pos rfl] at HB
            go_wp2_with fail
            refine (H3.out _ K3).mono ?_
            rintro e x4 ⟨rfl, k4⟩
            have K4 := bel_trans K3 k4
            clear k4 H3 K3
            cases r2 with
            | true =>
              rw [if_pos rfl] at HE
              go_wp2
              go_roundw
              case rel => exact ⟨p + 1, by omega, by go_num, by rw [HB.out]; go_num, by rw [HE.out]; go_num, K4⟩
              case measure => simp [intOf]; omega
            | false =>
              rw [if_neg (by decide)] at HE
              go_wp2
              go_roundw
              case rel => exact ⟨p + 1, by omega, by go_num, by rw [HB.out]; go_num, by rw [HE.out]; go_num, K4⟩
              case measure => simp [intOf]; omega
          | false =>
            rw [if_neg (by decide)] at HB
            go_wp2_with fail
            refine (H3.out _ K3).mono ?_
            rintro e x4 ⟨rfl, k4⟩
            have K4 := bel_trans K3 k4
            clear k4 H3 K3
            cases r2 with
            | true =>
              rw [if_pos rfl] at HE
              go_wp2
              go_roundw
              case rel => exact ⟨p + 1, by omega, by go_num, by rw [HB.out]; go_num, by rw [HE.out]; go_num, K4⟩
              case measure => simp [intOf]; omega
            | false =>
              rw [if_neg (by decide)] at HE
              go_wp2
              go_roundw
              case rel => exact ⟨p + 1, by omega, by go_num, by rw [HB.out]; go_num, by rw [HE.out]; go_num, K4⟩
              case measure => simp [intOf]; omega
        · obtain rfl : p = k + 1 := by omega
          have hdp : decide (k + 1 ≤ k) = false := by simp
          rw [ends_last, show begs g (k + 1) = ln g k from rfl]
          have HN' := HN.out
          rw [HN']
          clear HN HN' hsl HD HC2
          have hq : ((ln g k : Int) == (ln g k : Int)) = true := by simp
          have hq2 : (ln g k == ln g k) = true := by simp
          generalize ln g k = z at *
          go_wp2_with fail
          refine (wakes_any _).mono ?_
          rintro e x2 ⟨rfl, k2⟩
          go_wp2
          go_ret
          exact ⟨rfl, bel_trans (bel_trans hb12 hb) k2⟩
end Go.Proofs.Ytgnlepjpclcnoaa
