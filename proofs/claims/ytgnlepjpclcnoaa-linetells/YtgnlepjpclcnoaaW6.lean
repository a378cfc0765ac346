/-
  The statements' own first look (wakes: what the document fixes at one list) answers true. No condition.
-/
import Derived.Test.YtgnlepjpclcnoaaW5
namespace Go.Proofs.Ytgnlepjpclcnoaa
open Go.RowKit ObLine

def fW (j : Nat) : Int := if j = 0 then 97 else if j = 1 then 10 else 98
theorem v1 : ofE fW 3 3 = .returned (.tuple #[.int .i64 2, .int .i64 2, .int .i64 0]) := by
  rw [show (3 : Int) = ((3 : Nat) : Int) from rfl, ofE_in (Nat.le_refl 3)]; rfl
theorem v2 : Pl fW 3 2 2 3 := ⟨Nat.le_refl _, by decide, by decide⟩
theorem v3 : starts fW 3 = [0, 2] := by decide
theorem v4 : bol fW 3 2 = true := by decide
theorem v5 : bol fW 3 1 = false := by decide
theorem v6 : eol fW 3 1 = true := by decide
theorem v7 : eol fW 3 3 = true := by decide
theorem cells_w (w : World) : Cells (w.alloc (.cells #[.int .i64 97, .int .i64 10, .int .i64 98] 3)) (w.alloc (.cells #[.int .i64 97, .int .i64 10, .int .i64 98] 3)).heap.size (some ⟨w.heap.size, 0, none⟩) 3 fW := fun _ => ⟨w.heap.size, 0, rfl, by simp, fun j hj => by
  rw [World.cell?_alloc_at _ _ _ _ rfl]
  rcases (show j = 0 ∨ j = 1 ∨ j = 2 by omega) with rfl | rfl | rfl <;> rfl⟩
section
variable {w : World} {A : Option Addr} (h : Cells w w.heap.size A 3 fW)
include h
theorem w_of : Calls Try.prog 12 #[.slice A 3 3, .int .i64 3] w fun e w' => e = .returned (.tuple #[.int .i64 2, .int .i64 2, .int .i64 0]) ∧ Below w.heap.size w w' := by
  have k := of_any (c := 3) h (by omega) (by omega) 3
  rwa [v1] at k
theorem w_at : Calls Try.prog 18 #[.slice A 3 3, .int .i64 2, .int .i64 2] w fun e w' => e = .returned (.tuple #[.int .i64 3, .int .i64 0]) ∧ Below w.heap.size w w' := by
  refine (at_any (c := 3) h (by omega) (by omega) (Nat.le_refl _) 2 2 (by omega) (by omega)).mono ?_
  rintro e w' ⟨⟨P, E, rfl, hI⟩, hb⟩
  obtain ⟨rfl, rfl⟩ := hI.uniq (.inl ⟨3, v2, rfl, rfl⟩)
  exact ⟨rfl, hb⟩
theorem w_starts : Calls Try.prog 10 #[.slice A 3 3] w (fun e w' => ∃ A' c', e = .returned (.slice A' 2 c') ∧ Cells w' w'.heap.size A' 2 (fun j => [0, 2].getD j 0) ∧ Below w.heap.size w w') := by
  have k := starts_any (c := 3) h (by omega)
  rw [v3] at k
  refine k.mono ?_
  rintro e w' ⟨v, rfl, hown, hb⟩
  obtain ⟨A', c', rfl, _, _, hc⟩ := own_cells hown
  exact ⟨A', c', rfl, hc, hb⟩
theorem w_bol2 : Calls Try.prog 14 #[.slice A 3 3, .int .i64 2] w fun e w' => e = .returned (.bool true) ∧ Below w.heap.size w w' := by
  have k := bol_any (c := 3) h (by omega) 2
  rwa [v4] at k
theorem w_bol1 : Calls Try.prog 14 #[.slice A 3 3, .int .i64 1] w fun e w' => e = .returned (.bool false) ∧ Below w.heap.size w w' := by
  have k := bol_any (c := 3) h (by omega) 1
  rwa [v5] at k
theorem w_eol1 : Calls Try.prog 16 #[.slice A 3 3, .int .i64 1] w fun e w' => e = .returned (.bool true) ∧ Below w.heap.size w w' := by
  have k := eol_any (c := 3) h (by omega) 1
  rwa [v6] at k
theorem w_eol3 : Calls Try.prog 16 #[.slice A 3 3, .int .i64 3] w fun e w' => e = .returned (.bool true) ∧ Below w.heap.size w w' := by
  have k := eol_any (c := 3) h (by omega) 3
  rwa [v7] at k
end
theorem w_eq {w : World} {A : Option Addr} (c : Nat) (h : Cells w w.heap.size A 2 (fun j => [0, 2].getD j 0)) : Calls Try.prog 9 #[.slice A 2 c, .slice (some ⟨w.heap.size, 0, none⟩) 2 2] (w.alloc (.cells #[.int .i64 0, .int .i64 2] 3)) fun e w' => e = .returned (.bool true) ∧ Below w.heap.size w w' := by
  have hb : Below w.heap.size w (w.alloc (.cells #[.int .i64 0, .int .i64 2] 3)) := (Below.refl _ _).alloc (Nat.le_refl _) _
  refine (eq_same A (some ⟨w.heap.size, 0, none⟩) 2 c 2 (w.heap.size + 1) _ (fun j => [0, 2].getD j 0) _ ((h.below hb).more (by omega)) (fun _ => ⟨w.heap.size, 0, rfl, by simp, fun j hj => by
    rw [World.cell?_alloc_at _ _ _ _ rfl]
    rcases (show j = 0 ∨ j = 1 by omega) with rfl | rfl <;> rfl⟩) (by omega) (fun _ _ => rfl)).mono ?_
  rintro e w' ⟨rfl, hb2⟩
  exact ⟨rfl, hb.trans (hb2.mono (by simp))⟩
set_option maxHeartbeats 1000000 in
set_option maxRecDepth 100000 in
theorem wakes_any (w : World) : Calls Try.prog 7 #[] w fun e w' => e = .returned (.bool true) ∧ Below w.heap.size w w' := by
  have HC := Lib.hid (cells_w w)
  have hb0 : Below w.heap.size w (w.alloc (.cells #[.int .i64 97, .int .i64 10, .int .i64 98] 3)) := (Below.refl _ _).alloc (Nat.le_refl _) _
  go_enter Try.func7, Try.ntmps7
  go_wp2_with fail
  generalize (w.alloc (.cells #[.int .i64 97, .int .i64 10, .int .i64 98] 3)) = w0 at *
  refine (w_of HC.out).mono ?_
  rintro e w1 ⟨rfl, hb1⟩
  have H1 := Lib.hid (HC.out.on hb1)
  go_wp2_with fail
  refine (w_at H1.out).mono ?_
  rintro e w2 ⟨rfl, hb2⟩
  have H2 := Lib.hid (H1.out.on hb2)
  go_wp2_with fail
  refine (w_starts H2.out).mono ?_
  rintro e w3 ⟨A', c', rfl, hc3, hb3⟩
  have K3 := Lib.hid hc3
  have H3 := Lib.hid (H2.out.on hb3)
  clear hc3
  go_wp2_with fail
  refine (w_eq c' K3.out).mono ?_
  rintro e w4 ⟨rfl, hb4⟩
  have H4 := Lib.hid (H3.out.on hb4)
  go_wp2_with fail
  refine (w_bol2 H4.out).mono ?_
  rintro e w5 ⟨rfl, hb5⟩
  have H5 := Lib.hid (H4.out.on hb5)
  go_wp2_with fail
  refine (w_bol1 H5.out).mono ?_
  rintro e w6 ⟨rfl, hb6⟩
  have H6 := Lib.hid (H5.out.on hb6)
  go_wp2_with fail
  refine (w_eol1 H6.out).mono ?_
  rintro e w7 ⟨rfl, hb7⟩
  have H7 := Lib.hid (H6.out.on hb7)
  go_wp2_with fail
  refine (w_eol3 H7.out).mono ?_
  rintro e w8 ⟨rfl, hb8⟩
  go_wp2
  go_ret
  exact ⟨rfl, hb0.trans ((bel_trans (bel_trans (bel_trans (bel_trans (bel_trans (bel_trans (bel_trans hb1 hb2) hb3) hb4) hb5) hb6) hb7) hb8).mono hb0.size)⟩
end Go.Proofs.Ytgnlepjpclcnoaa
