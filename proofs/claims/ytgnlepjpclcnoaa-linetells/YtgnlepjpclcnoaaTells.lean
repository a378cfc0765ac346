/-
  The statement on where lines begin and end (LineTells) answers true for every slice of numbers, every place, line and column. Condition: line and column fit 64 bits (as all of type int do).
-/
import Derived.Test.YtgnlepjpclcnoaaTurned
import Derived.Deep.RegionHeld3
namespace Go.Proofs.Ytgnlepjpclcnoaa
open Go.RowKit ObLine

theorem ofE_see (f : Nat → Int) (n : Nat) (p : Int) : ∃ a b e : Int, ofE f n p = .returned (.tuple #[.int .i64 a, .int .i64 b, .int .i64 e]) := by
  unfold ofE
  by_cases h : 0 ≤ p ∧ p ≤ n
  · rw [if_pos h]; exact ⟨_, _, _, rfl⟩
  · rw [if_neg h]; exact ⟨_, _, _, rfl⟩
theorem heap_new' (w : World) (o : Obj) : (w.alloc o).heap[w.heap.size]? = some o := by
  show (w.heap.push o)[w.heap.size]? = _
  simp
/-- What is read of the pair, and what stays. -/
def AtS (w2 : World) (r : Nat) (x y : Int) (W : World) : Prop := W.cell? ⟨r, 0, none⟩ = some (.int .i64 x) ∧ W.cell? ⟨r, 1, none⟩ = some (.int .i64 y) ∧ Below w2.heap.size w2 W
theorem ats_below {w W : World} {A B : Prop} (h : A ∧ B ∧ Below w.heap.size w W) : Below w.heap.size w W := h.2.2
/-- Starts of the program and of the page's own, as slices that read. -/
theorem starts_r {A : Option Addr} {n c : Nat} {f : Nat → Int} {w : World} (h : Cells w w.heap.size A n f) (hn : n ≤ 1000000) :
    Calls Try.prog 10 #[.slice A n c] w fun e w' => ∃ A' c', e = .returned (.slice A' (starts f n).length c') ∧ Cells w' w'.heap.size A' (starts f n).length (fun j => (starts f n).getD j 0) ∧ Below w.heap.size w w' := by
  refine (starts_any (c := c) h hn).mono ?_
  rintro e w' ⟨v, rfl, hown, hb⟩
  obtain ⟨A', c', rfl, _, _, hk⟩ := own_cells hown
  exact ⟨A', c', rfl, hk, hb⟩
theorem rstarts_r {A : Option Addr} {n c : Nat} {f : Nat → Int} {w : World} (h : Cells w w.heap.size A n f) (hn : n ≤ 1000000) :
    Calls Try.prog 11 #[.slice A n c] w fun e w' => ∃ A' c', e = .returned (.slice A' (starts f n).length c') ∧ Cells w' w'.heap.size A' (starts f n).length (fun j => (starts f n).getD j 0) ∧ Below w.heap.size w w' := by
  refine (rstarts_any (c := c) h hn).mono ?_
  rintro e w' ⟨v, rfl, hown, hb⟩
  obtain ⟨A', c', rfl, _, _, hk⟩ := own_cells hown
  exact ⟨A', c', rfl, hk, hb⟩
set_option maxHeartbeats 4000000 in
set_option maxRecDepth 100000 in
theorem tells_walk {A : Option Addr} {n : Nat} {f : Nat → Int} {w : World} (c : Nat) (p x y : Int) (hx : x ≤ 9223372036854775807) (hy : y ≤ 9223372036854775807) (h : Cells w w.heap.size A n f) :
    Calls Try.prog 3 #[.slice A n c, .int .i64 p, .agg #[.int .i64 x, .int .i64 y]] w fun e w' => e = .returned (.bool true) ∧ Below w.heap.size w w' := by
  have HA := Lib.hid h
  have HX := Lib.hid hx
  have HY := Lib.hid hy
  clear h hx hy
  go_enter Try.func3, Try.ntmps3
  go_wp2_with fail
  have hn := heap_new' w (.cells #[.int .i64 x, .int .i64 y] 23)
  have q0 : (w.alloc (.cells #[.int .i64 x, .int .i64 y] 23)).cell? ⟨w.heap.size, 0, none⟩ = some (.int .i64 x) := by simp only [World.cell?, hn]; rfl
  have q1 : (w.alloc (.cells #[.int .i64 x, .int .i64 y] 23)).cell? ⟨w.heap.size, 1, none⟩ = some (.int .i64 y) := by simp only [World.cell?, hn]; rfl
  have hb0 : Below w.heap.size w (w.alloc (.cells #[.int .i64 x, .int .i64 y] 23)) := (Below.refl _ _).alloc (Nat.le_refl _) _
  have hr : w.heap.size < (w.alloc (.cells #[.int .i64 x, .int .i64 y] 23)).heap.size := by simp
  clear hn
  generalize w.alloc (.cells #[.int .i64 x, .int .i64 y] 23) = w0 at *
  have HB0 := Lib.hid hb0
  have HQ0 := Lib.hid (show ∀ W, Below w0.heap.size w0 W → W.cell? ⟨w.heap.size, 0, none⟩ = some (.int .i64 x) from fun W hb => (hb.cell hr).trans q0)
  have HQ1 := Lib.hid (show ∀ W, Below w0.heap.size w0 W → W.cell? ⟨w.heap.size, 1, none⟩ = some (.int .i64 y) from fun W hb => (hb.cell hr).trans q1)
  clear q0 q1 hr
  refine (wakes_any w0).mono ?_
  rintro e w1 ⟨rfl, hb1⟩
  have HL := Lib.hid (lines_c c ((HA.out.on hb0).on hb1))
  clear HA hb0
  go_wp2_with fail
  refine HL.out.mono ?_
  rintro e w2 ⟨A2, m, c2, g, rfl, hm, hmc, hcl, hb2⟩
  have HC := Lib.hid hcl
  have hb02 := bel_trans hb1 hb2
  clear hcl HL hb1 hb2
  have HS := Lib.hid (starts_r (c := c2) HC.out (by omega))
  go_wp2_with fail
  refine HS.out.mono ?_
  rintro e w3 ⟨A3, c3, rfl, hc3, hb3⟩
  have HC3 := Lib.hid hc3
  have HR := Lib.hid (rstarts_r (c := c2) (HC.out.on hb3) (by omega))
  clear hc3 HS
  go_wp2_with fail
  refine HR.out.mono ?_
  rintro e w4 ⟨A4, c4, rfl, hc4, hb4⟩
  have hb24 := bel_trans hb3 hb4
  have hsl : (starts g m).length ≤ 1000001 := by rw [starts_len]; have := ln_le g m; omega
  have HE := Lib.hid (eq_same A3 A4 (starts g m).length c3 c4 _ _ _ w4 (HC3.out.on hb4) hc4 hsl (fun _ _ => rfl))
  clear hc4 HR HC3 hb3 hb4 hsl
  generalize (starts g m).length = z at *
  go_wp2_with fail
  refine HE.out.mono ?_
  rintro e w5 ⟨rfl, hb5⟩
  have hb25 := bel_trans hb24 hb5
  clear HE hb24 hb5
  have HQ := Lib.hid (show ∀ W, Below w2.heap.size w2 W → AtS w2 w.heap.size x y W from fun W hb => ⟨HQ0.out W (bel_trans hb02 hb), HQ1.out W (bel_trans hb02 hb), hb⟩)
  have HB02 := Lib.hid (bel_trans HB0.out hb02)
  clear HQ0 HQ1 HB0 hb02
  generalize w.heap.size = r at HQ
  have HOF := Lib.hid (fun (W : World) (hb : Below w2.heap.size w2 W) (i : Int) => of_any (c := c2) (HC.out.on hb) (by omega) hmc i)
  have HRO := Lib.hid (fun (W : World) (hb : Below w2.heap.size w2 W) (i : Int) => rof_any c2 (HC.out.on hb) (by omega) i)
  have HBO := Lib.hid (fun (W : World) (hb : Below w2.heap.size w2 W) (i : Int) => (show BolC A2 m c2 i W (bol g m i) from bol_any (c := c2) (HC.out.on hb) (by omega) i))
  have HRB := Lib.hid (fun (W : World) (hb : Below w2.heap.size w2 W) (i : Int) => (show RbolC A2 m c2 i W (bol g m i) from rbol_any (c := c2) (HC.out.on hb) (by omega) i))
  have HEO := Lib.hid (fun (W : World) (hb : Below w2.heap.size w2 W) (i : Int) => (show EolC A2 m c2 i W (eol g m i) from eol_any (c := c2) (HC.out.on hb) (by omega) i))
  have HRE := Lib.hid (fun (W : World) (hb : Below w2.heap.size w2 W) (i : Int) => (show ReolC A2 m c2 i W (eol g m i) from reol_any (c := c2) (HC.out.on hb) (by omega) i))
  have HAT := Lib.hid (fun (W : World) (hb : Below w2.heap.size w2 W) (L C : Int) (hL : L ≤ 9223372036854775807) (hC : C ≤ 9223372036854775807) => at_any (c := c2) (HC.out.on hb) (by omega) hmc (Nat.le_refl _) L C hL hC)
  have HRA := Lib.hid (fun (W : World) (hb : Below w2.heap.size w2 W) (L C : Int) => rat_any (c := c2) (HC.out.on hb) (by omega) L C)
  unfold BolC RbolC EolC ReolC at *
  clear HC
  go_wp2_with fail
  go_loopw [7] (fun t wr => ∃ i : Int, -1 ≤ i ∧ i ≤ (m : Int) + 2 ∧ t = .int .i64 i ∧ Below w2.heap.size w2 wr) (fun t _ => ((m : Int) + 2 - intOf t).toNat)
  case atStart => exact ⟨-1, by omega, by omega, rfl, hb25⟩
  case round =>
    obtain ⟨i, hi1, hi2, rfl, hb⟩ := hrel
    clear hb25
    by_cases hlt : i ≤ (m : Int) + 1
    · have hd : decide (i ≤ (m : Int) + 1) = true := decide_eq_true hlt
      obtain ⟨a, b, e, he⟩ := ofE_see g m i
      have H1 := Lib.hid (fun (W : World) (hb : Below w2.heap.size w2 W) => HOF.out W hb i)
      have H2 := Lib.hid (fun (W : World) (hb : Below w2.heap.size w2 W) => HRO.out W hb i)
      rw [he] at H1 H2
      have H3 := Lib.hid (fun (W : World) (hb : Below w2.heap.size w2 W) => HBO.out W hb i)
      have H4 := Lib.hid (fun (W : World) (hb : Below w2.heap.size w2 W) => HRB.out W hb i)
      have H5 := Lib.hid (fun (W : World) (hb : Below w2.heap.size w2 W) => HEO.out W hb i)
      have H6 := Lib.hid (fun (W : World) (hb : Below w2.heap.size w2 W) => HRE.out W hb i)
      clear he HOF HRO HBO HRB HEO HRE HAT HRA HQ
      generalize bol g m i = r1 at *
      generalize eol g m i = r2 at *
      have y1 : (r1 != r1) = false := by simp
      have y2 : (r2 != r2) = false := by simp
      have y3 : (a != a) = false := by simp
      have y4 : (b != b) = false := by simp
      have y5 : (e != e) = false := by simp
      go_wp2_with fail
      refine (H1.out _ hb).mono ?_
      rintro e1 x1 ⟨rfl, k1⟩
      have K1 := bel_trans hb k1
      clear k1 H1 hb
      go_wp2_with fail
      refine (H2.out _ K1).mono ?_
      rintro e1 x2 ⟨rfl, k2⟩
      have K2 := bel_trans K1 k2
      clear k2 H2 K1
      go_wp2_with fail
      refine (H3.out _ K2).mono ?_
      rintro e1 x3 ⟨rfl, k3⟩
      have K3 := bel_trans K2 k3
      clear k3 H3 K2
      go_wp2_with fail
      refine (H4.out _ K3).mono ?_
      rintro e1 x4 ⟨rfl, k4⟩
      have K4 := bel_trans K3 k4
      clear k4 H4 K3
      go_wp2_with fail
      refine (H5.out _ K4).mono ?_
      rintro e1 x5 ⟨rfl, k5⟩
      have K5 := bel_trans K4 k5
      clear k5 H5 K4
      go_wp2_with fail
      refine (H6.out _ K5).mono ?_
      rintro e1 x6 ⟨rfl, k6⟩
      have K6 := bel_trans K5 k6
      clear k6 H6 K5
      go_wp2
      go_roundw
      case rel => exact ⟨i + 1, by omega, by omega, by go_num, K6⟩
      case measure => simp [intOf]; omega
    · have hd : decide (i ≤ (m : Int) + 1) = false := decide_eq_false hlt
      clear hi1 hi2 hlt
      obtain ⟨q0, q1, _⟩ := HQ.out wr hb
      go_wp2_with fail
      refine (HAT.out _ hb x y HX.out HY.out).mono ?_
      rintro e1 x1 ⟨⟨P, E, rfl, hI⟩, k1⟩
      have HI := Lib.hid hI
      have K1 := bel_trans hb k1
      clear k1 hI hb q0 q1
      obtain ⟨q0, q1, _⟩ := HQ.out _ K1
      go_wp2_with fail
      refine (HRA.out _ K1 x y).mono ?_
      rintro e1 x2 ⟨⟨P', E', rfl, hI'⟩, k2⟩
      obtain ⟨e1, e2⟩ := hI'.uniq HI.out
      subst e1 e2
      have K2 := bel_trans K1 k2
      clear k2 hI' HI K1 q0 q1
      have HW1 := Lib.hid (fun W => within_any x W)
      have HW2 := Lib.hid (fun W => within_any y W)
      have hx9 : x % 9 < 9 := by omega
      have hy9 : y % 9 < 9 := by omega
      generalize x % 9 = x9 at *
      generalize y % 9 = y9 at *
      have HA9 := Lib.hid (fun (W : World) (hb : Below w2.heap.size w2 W) => HAT.out W hb x9 y9 (by omega) (by omega))
      have HR9 := Lib.hid (fun (W : World) (hb : Below w2.heap.size w2 W) => HRA.out W hb x9 y9)
      clear HAT HRA
      go_wp2_with fail
      go_region_held3 (fun W => W.cell? ⟨r, 0, none⟩ = some (.int .i64 x) ∧ W.cell? ⟨r, 1, none⟩ = some (.int .i64 y) ∧ Below w2.heap.size w2 W) (first | assumption | exact HQ.out _ (below_drews K2 1) | exact HQ.out _ K2.drew | exact HQ.out _ (bel_trans (ats_below (by assumption)) (by assumption)) | fail) (first
        | (go_at_call 20; (with_reducible refine (HW1.out _).mono ?_); rintro e3 w7 ⟨rfl, rfl⟩)
        | (go_at_call 20; (with_reducible refine (HW2.out _).mono ?_); rintro e3 w7 ⟨rfl, rfl⟩)
        | (go_at_call 18; (with_reducible refine (HA9.out _ (ats_below (by assumption))).mono ?_); rintro e3 w7 ⟨⟨P1, E1, rfl, hI1⟩, k7⟩)
        | fail)
      have HI1 := Lib.hid hI1
      clear hI1 HA9
      have K7 : Below w2.heap.size w2 w7 := ats_below (by assumption)
      clear k7 K2
      go_wp2_with fail
      go_region_held3 (fun W => W.cell? ⟨r, 0, none⟩ = some (.int .i64 x) ∧ W.cell? ⟨r, 1, none⟩ = some (.int .i64 y) ∧ Below w2.heap.size w2 W) (first | assumption | exact HQ.out _ K7.drew | exact HQ.out _ (bel_trans (ats_below (by assumption)) (by assumption)) | fail) (first
        | (go_at_call 20; (with_reducible refine (HW1.out _).mono ?_); rintro e3 w8 ⟨rfl, rfl⟩)
        | (go_at_call 20; (with_reducible refine (HW2.out _).mono ?_); rintro e3 w8 ⟨rfl, rfl⟩)
        | (go_at_call 19; (with_reducible refine (HR9.out _ (ats_below (by assumption))).mono ?_); rintro e3 w8 ⟨⟨P2, E2, rfl, hI2⟩, k8⟩)
        | fail)
      have K8 : Below w2.heap.size w2 w8 := ats_below (by assumption)
      obtain ⟨e1, e2⟩ := hI2.uniq HI1.out
      subst e1 e2
      clear k8 K7 hI2 HI1 HW1 HW2 HR9 HQ
      obtain ⟨a, b, e, he⟩ := ofE_see g m p
      have H1 := Lib.hid (fun (W : World) (hb : Below w2.heap.size w2 W) => HOF.out W hb p)
      have H2 := Lib.hid (fun (W : World) (hb : Below w2.heap.size w2 W) => HRO.out W hb p)
      rw [he] at H1 H2
      have H3 := Lib.hid (fun (W : World) (hb : Below w2.heap.size w2 W) => HBO.out W hb p)
      have H4 := Lib.hid (fun (W : World) (hb : Below w2.heap.size w2 W) => HRB.out W hb p)
      have H5 := Lib.hid (fun (W : World) (hb : Below w2.heap.size w2 W) => HEO.out W hb p)
      have H6 := Lib.hid (fun (W : World) (hb : Below w2.heap.size w2 W) => HRE.out W hb p)
      clear he HOF HRO HBO HRB HEO HRE
      generalize bol g m p = r1 at *
      generalize eol g m p = r2 at *
      have y1 : (r1 == r1) = true := by simp
      have y2 : (r2 == r2) = true := by simp
      have y3 : (a == a) = true := by simp
      have y4 : (b == b) = true := by simp
      have y5 : (e == e) = true := by simp
      have y6 : (P' == P') = true := by simp
      have y7 : (E' == E') = true := by simp
      have y8 : (P2 == P2) = true := by simp
      have y9 : (E2 == E2) = true := by simp
      go_wp2_with fail
      refine (H1.out _ K8).mono ?_
      rintro e1 x1 ⟨rfl, k1⟩
      have K1 := bel_trans K8 k1
      clear k1 H1 K8
      go_wp2_with fail
      refine (H2.out _ K1).mono ?_
      rintro e1 x2 ⟨rfl, k2⟩
      have K2 := bel_trans K1 k2
      clear k2 H2 K1
      go_wp2_with fail
      refine (H3.out _ K2).mono ?_
      rintro e1 x3 ⟨rfl, k3⟩
      have K3 := bel_trans K2 k3
      clear k3 H3 K2
      go_wp2_with fail
      refine (H4.out _ K3).mono ?_
      rintro e1 x4 ⟨rfl, k4⟩
      have K4 := bel_trans K3 k4
      clear k4 H4 K3
      go_wp2_with fail
      refine (H5.out _ K4).mono ?_
      rintro e1 x5 ⟨rfl, k5⟩
      have K5 := bel_trans K4 k5
      clear k5 H5 K4
      go_wp2_with fail
      refine (H6.out _ K5).mono ?_
      rintro e1 x6 ⟨rfl, k6⟩
      have K6 := bel_trans K5 k6
      clear k6 H6 K5
      go_wp2
      go_ret
      exact ⟨rfl, bel_trans HB02.out K6⟩
end Go.Proofs.Ytgnlepjpclcnoaa
