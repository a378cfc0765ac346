/-
  The statement on lists turned about (LineTurned) answers true for every slice of numbers. No condition.
-/
import Derived.Test.YtgnlepjpclcnoaaW6
namespace Go.Proofs.Ytgnlepjpclcnoaa
open Go.RowKit ObLine

/-- What lines hands back, as a slice that reads. -/
theorem lines_c {A : Option Addr} {n : Nat} {f : Nat → Int} {w : World} (c : Nat) (h : Cells w w.heap.size A n f) :
    Calls Try.prog 8 #[.slice A n c] w fun e w' => ∃ A' m c' g, e = .returned (.slice A' m c') ∧ m ≤ 60 ∧ m ≤ c' ∧ Cells w' w'.heap.size A' m g ∧ Below w.heap.size w w' := by
  refine (lines_any h).mono ?_
  rintro e w' ⟨zs, hz, v, rfl, hown, hb⟩
  obtain ⟨A', c', rfl, hc, _, hk⟩ := own_cells hown
  exact ⟨A', zs.length, c', _, rfl, hz, hc, hk, hb⟩
/-- The last numbers, turned about. -/
def Tn (g : Nat → Int) (m k : Nat) (ys : List Int) : Prop := ys.length = k ∧ ∀ j, j < k → ys.getD j 0 = g (m - 1 - j)
theorem Tn.zero (g : Nat → Int) (m : Nat) : Tn g m 0 [] := ⟨rfl, fun j h => by omega⟩
theorem Tn.succ {g : Nat → Int} {m k : Nat} {ys : List Int} (h : Tn g m k ys) : Tn g m (k + 1) (ys ++ [g (m - 1 - k)]) := by
  refine ⟨by rw [List.length_append, h.1]; rfl, fun j hj => ?_⟩
  rcases Nat.lt_or_ge j k with h1 | h1
  · rw [← h.2 j h1]
    simp [List.getElem?_append, h.1, h1]
  · obtain rfl : j = k := by omega
    simp [h.1]
set_option maxHeartbeats 2000000 in
set_option maxRecDepth 100000 in
theorem turned_walk {A : Option Addr} {n : Nat} {f : Nat → Int} {w : World} (c : Nat) (h : Cells w w.heap.size A n f) :
    Calls Try.prog 6 #[.slice A n c] w fun e w' => e = .returned (.bool true) ∧ Below w.heap.size w w' := by
  obtain ⟨i0, hi, hz0, hz1, hz2⟩ := info3x
  have HL := Lib.hid (lines_c c h)
  clear h
  go_enter Try.func6, Try.ntmps6
  go_wp2_with fail
  refine HL.out.mono ?_
  rintro e w1 ⟨A1, m, c1, g, rfl, hm, hmc, hcl, hb1⟩
  have HC := Lib.hid hcl
  clear hcl HL
  go_wp2_with fail
  go_loopw [3, 4] (fun v t wr => ∃ (k : Nat) (ys : List Int), k ≤ m ∧ t = .int .i64 ((m : Int) - 1 - k) ∧ Tn g m k ys ∧ wr.ownsRow w1.heap.size 3 1 v k (ys.map (Value.int .i64)) ∧ Below w1.heap.size w1 wr) (fun _ t _ => (intOf t + 1).toNat)
  case atStart => exact ⟨0, [], Nat.zero_le _, by simp, Tn.zero g m, World.ownsRow_nil _ _ _ _, Below.refl _ _⟩
  case round =>
    obtain ⟨k, ys, hk, rfl, hT, hown, hb⟩ := hrel
    have HT := Lib.hid hT
    have HO := Lib.hid hown
    clear hT hown
    by_cases hlt : k < m
    · obtain ⟨b, off, rfl, hbB, hcl⟩ := HC.out (by omega)
      have hx := (hb.cell (p := ⟨b, off + (m - 1 - k), none⟩) hbB).trans (hcl (m - 1 - k) (by omega))
      have HS := Lib.hid HT.out.succ
      have e1 : (m : Int) - 1 - k = ((m - 1 - k : Nat) : Int) := by omega
      have HR := Lib.hid (show (m : Int) - 1 - ((k + 1 : Nat) : Int) = ((m - 1 - k : Nat) : Int) - 1 by omega)
      rw [e1]
      have hq1 : m - 1 - k < m := by omega
      clear hcl HC e1
      generalize g (m - 1 - k) = y at *
      generalize m - 1 - k = q at *
      have hd : decide ((0 : Int) ≤ (q : Int)) = true := decide_eq_true (by omega)
      go_wp2_with (at_builtin; refine wpList_append_own _ rfl _ _ 22 rfl w1.heap.size 3 i0 (.int .i64 0) 1 8 Try.underlying22 hi hz0 hz1 hz2 rfl (by decide) _ _ _ rfl (HO.out.alloc _) ⟨wr.heap.size, 0, none⟩ 1 1 [.int .i64 y] rfl rfl ?c1 ?c2 ?c3 ?c4 ?c5 ?_)
      case c1 => exact one_cell _ _ _
      case c2 => intro u hu; simp at hu; subst hu; rfl
      case c3 => unfold maxLen; omega
      case c4 => omega
      case c5 => have := hb.size; simp; omega
      intro v' w2 hown' hgrow _
      have R := push_rel hb (Below.refl _ _) HO.out hown' hgrow
      clear hown' hgrow
      have R1 := Lib.hid R.1; have R2 := R.2
      clear R
      go_wp2
      go_roundw
      case rel => exact ⟨k + 1, ys ++ [y], by omega, by rw [HR.out], HS.out, by simpa using R1.out, R2⟩
      case measure => simp [intOf]
    · obtain rfl : k = m := by omega
      have e1 : (k : Int) - 1 - k = -1 := by omega
      rw [e1]
      obtain ⟨A2, c2, hv, hc2, _, hcl2⟩ := own_cells (show wr.ownsRow w1.heap.size 3 1 u3 ys.length (ys.map (Value.int .i64)) by rw [HT.out.1]; exact HO.out)
      rw [HT.out.1] at hv hc2 hcl2
      subst hv
      have HM := Lib.hid hcl2
      have HL := Lib.hid (HC.out.on hb)
      have HR := Lib.hid (show ∀ p : Nat, p ≤ k → bol (fun j => ys.getD j 0) k (p : Int) = eol g k ((k : Int) - p) ∧ eol (fun j => ys.getD j 0) k (p : Int) = bol g k ((k : Int) - p) from fun p hp => by
        have := turned (f := g) (g := fun j => ys.getD j 0) (fun j hj => HT.out.2 j hj) hp
        rwa [show ((k - p : Nat) : Int) = (k : Int) - p by omega] at this)
      have hbw := bel_trans hb1 hb
      clear hcl2 HC HO e1
      obtain ⟨wo, rfl⟩ : ∃ x, x = wr := ⟨_, rfl⟩
      go_wp2_with fail
      go_loopw [5] (fun t w2 => ∃ p : Nat, p ≤ k + 1 ∧ t = .int .i64 (p : Int) ∧ Below wo.heap.size wo w2) (fun t _ => k + 1 - (intOf t).toNat)
      case atStart => exact ⟨0, Nat.zero_le _, rfl, Below.refl _ _⟩
      case round =>
        obtain ⟨p, hp, rfl, hb2⟩ := hrel
        by_cases hlt : p ≤ k
        · have hd : decide (p ≤ k) = true := by simp [hlt]
          obtain ⟨q1, q2⟩ := HR.out p hlt
          have H1 := Lib.hid (fun (x : World) (hx : Below wo.heap.size wo x) => bol_any (c := c2) (HM.out.on hx) (by omega) (p : Int))
          have H2 := Lib.hid (fun (x : World) (hx : Below wo.heap.size wo x) => eol_any (c := c1) (HL.out.on hx) (by omega) ((k : Int) - p))
          have H3 := Lib.hid (fun (x : World) (hx : Below wo.heap.size wo x) => eol_any (c := c2) (HM.out.on hx) (by omega) (p : Int))
          have H4 := Lib.hid (fun (x : World) (hx : Below wo.heap.size wo x) => bol_any (c := c1) (HL.out.on hx) (by omega) ((k : Int) - p))
          rw [q1] at H1
          rw [q2] at H3
          clear q1 q2 HR HM HL HT
          unfold BolC at H1 H4
          unfold EolC at H2 H3
          have y1 : (eol g k ((k : Int) - p) != eol g k ((k : Int) - p)) = false := by simp
          have y2 : (bol g k ((k : Int) - p) != bol g k ((k : Int) - p)) = false := by simp
          generalize eol g k ((k : Int) - p) = r1 at *
          generalize bol g k ((k : Int) - p) = r2 at *
          go_wp2_with fail
          refine (H1.out _ hb2).mono ?_
          rintro e x1 ⟨rfl, k1⟩
          have K1 := bel_trans hb2 k1
          clear k1 H1
          go_wp2_with fail
          refine (H2.out _ K1).mono ?_
          rintro e x2 ⟨rfl, k2⟩
          have K2 := bel_trans K1 k2
          clear k2 H2 K1
          go_wp2_with fail
          refine (H3.out _ K2).mono ?_
          rintro e x3 ⟨rfl, k3⟩
          have K3 := bel_trans K2 k3
          clear k3 H3 K2
          go_wp2_with fail
          refine (H4.out _ K3).mono ?_
          rintro e x4 ⟨rfl, k4⟩
          have K4 := bel_trans K3 k4
          clear k4 H4 K3
          go_wp2
          go_roundw
          case rel => exact ⟨p + 1, by omega, by go_num, K4⟩
          case measure => simp [intOf]; omega
        · have hd : decide (p ≤ k) = false := by simp; omega
          clear HR HM HL HT
          go_wp2_with fail
          refine (wakes_any _).mono ?_
          rintro e x1 ⟨rfl, k1⟩
          go_wp2
          go_ret
          exact ⟨rfl, bel_trans (bel_trans hbw hb2) k1⟩
end Go.Proofs.Ytgnlepjpclcnoaa
