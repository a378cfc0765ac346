/-
  What the statements' own first look answers: true.
-/
import Derived.Test.YtjciadimeejmjaaW12
namespace Go.Proofs.Ytjciadimeejmjaa
open Go.RowKit ObGap

theorem Ex.belowNew {c g B : Nat} {w w1 w2 : World} (hb : Below B w w1) (hB : B ≤ w.heap.size) (hx : Ex c g w1 w2) (hc : B ≤ c) (hg : B ≤ g) : Below B w w2 := hb.trans (hx.below (Nat.le_trans hB hb.size) hc hg)
theorem below_on {B : Nat} {w w1 w2 : World} (hb : Below B w w1) (hB : B ≤ w.heap.size) (h : Below w1.heap.size w1 w2) : Below B w w2 := hb.trans (h.mono (Nat.le_trans hB hb.size))
set_option maxHeartbeats 4000000 in
set_option maxRecDepth 100000 in
theorem wakes_any (w : World) : Calls Try.prog 8 #[] w fun e w' => e = .returned (.bool true) ∧ Below w.heap.size w w' := by
  go_enter Try.func8, Try.ntmps8
  go_wp2_with fail
  refine (new_chk 4 _ (by omega) (by omega)).mono ?_
  rintro e w1 ⟨rfl, hc1, hb1⟩
  have C1 := Lib.hid hc1
  have B1 := Lib.hid hb1
  clear hc1 hb1
  have H2 := insert_chk C1.out 0 [97, 98, 99]
  rw [show insE 4 [] 0 [97, 98, 99] = 0 from rfl, show insS 4 [] 0 [97, 98, 99] = [97, 98, 99] from rfl, show insP 4 [] 0 0 [97, 98, 99] = 3 from rfl] at H2
  have G2 := Lib.hid H2
  clear H2
  go_wp2_with fail
  refine G2.out.mono ?_
  rintro e w2 ⟨rfl, hc2, hx2⟩
  have C2 := Lib.hid hc2
  have B2 := Lib.hid (Ex.belowNew B1.out (Nat.le_refl _) hx2 (Nat.le_succ _) (Nat.le_refl _))
  clear hc2 hx2 C1 B1 G2
  have H3 := insert_chk C2.out 1 [120, 121]
  rw [show insE 4 [97, 98, 99] 1 [120, 121] = 3 from rfl, show insS 4 [97, 98, 99] 1 [120, 121] = [97, 98, 99] from rfl, show insP 4 [97, 98, 99] 3 1 [120, 121] = 3 from rfl] at H3
  have G3 := Lib.hid H3
  clear H3
  go_wp2_with fail
  refine G3.out.mono ?_
  rintro e w3 ⟨rfl, hc3, hx3⟩
  have C3 := Lib.hid hc3
  have B3 := Lib.hid (Ex.belowNew B2.out (Nat.le_refl _) hx3 (Nat.le_succ _) (Nat.le_refl _))
  clear hc3 hx3 C2 B2 G3
  have H4 := insert_chk C3.out 1 [120]
  rw [show insE 4 [97, 98, 99] 1 [120] = 0 from rfl, show insS 4 [97, 98, 99] 1 [120] = [97, 120, 98, 99] from rfl, show insP 4 [97, 98, 99] 3 1 [120] = 2 from rfl] at H4
  have G4 := Lib.hid H4
  clear H4
  go_wp2_with fail
  refine G4.out.mono ?_
  rintro e w4 ⟨rfl, hc4, hx4⟩
  have C4 := Lib.hid hc4
  have B4 := Lib.hid (Ex.belowNew B3.out (Nat.le_refl _) hx4 (Nat.le_succ _) (Nat.le_refl _))
  clear hc4 hx4 C3 B3 G4
  have H5 := cut_chk C4.out 3
  rw [show cutT [97, 120, 98, 99] 3 = [99] from rfl, show movE [97, 120, 98, 99] 3 = 0 from rfl, show cutS [97, 120, 98, 99] 3 = [97, 120, 98] from rfl, show movP [97, 120, 98, 99] 2 3 = 3 from rfl] at H5
  have G5 := Lib.hid H5
  clear H5
  go_wp2_with fail
  refine G5.out.mono ?_
  rintro e w5 ⟨rfl, hc5, hx5⟩
  have C5 := Lib.hid hc5
  have B5 := Lib.hid (Ex.belowNew B4.out (Nat.le_refl _) hx5 (Nat.le_succ _) (Nat.le_refl _))
  clear hc5 hx5 C4 B4 G5
  have H6 := text_chk C5.out 
  have G6 := Lib.hid H6
  clear H6
  go_wp2_with fail
  refine G6.out.mono ?_
  rintro e w6 ⟨rfl, hb6⟩
  have C6 := Lib.hid (C5.out.on hb6)
  have B6 := Lib.hid (below_on B5.out (Nat.le_refl _) hb6)
  clear hb6 C5 B5 G6
  have H7 := place_chk C6.out 
  have G7 := Lib.hid H7
  clear H7
  go_wp2_with fail
  refine G7.out.mono ?_
  rintro e w7 ⟨rfl, hb7⟩
  have C7 := Lib.hid (C6.out.on hb7)
  have B7 := Lib.hid (below_on B6.out (Nat.le_refl _) hb7)
  clear hb7 C6 B6 G7
  have H8 := len_chk C7.out 
  have G8 := Lib.hid H8
  clear H8
  go_wp2_with fail
  refine G8.out.mono ?_
  rintro e w8 ⟨rfl, hb8⟩
  have C8 := Lib.hid (C7.out.on hb8)
  have B8 := Lib.hid (below_on B7.out (Nat.le_refl _) hb8)
  clear hb8 C7 B7 G8
  have H9 := size_chk C8.out 
  have G9 := Lib.hid H9
  clear H9
  go_wp2_with fail
  refine G9.out.mono ?_
  rintro e w9 ⟨rfl, hb9⟩
  have C9 := Lib.hid (C8.out.on hb9)
  have B9 := Lib.hid (below_on B8.out (Nat.le_refl _) hb9)
  clear hb9 C8 B8 G9
  have H10 := byte_chk C9.out 1
  rw [show byt [97, 120, 98] 1 = 120 from rfl] at H10
  have G10 := Lib.hid H10
  clear H10
  go_wp2_with fail
  refine G10.out.mono ?_
  rintro e w10 ⟨rfl, hb10⟩
  have C10 := Lib.hid (C9.out.on hb10)
  have B10 := Lib.hid (below_on B9.out (Nat.le_refl _) hb10)
  clear hb10 C9 B9 G10
  have H11 := byte_chk C10.out 3
  rw [show byt [97, 120, 98] 3 = -1 from rfl] at H11
  have G11 := Lib.hid H11
  clear H11
  go_wp2_with fail
  refine G11.out.mono ?_
  rintro e w11 ⟨rfl, hb11⟩
  have C11 := Lib.hid (C10.out.on hb11)
  have B11 := Lib.hid (below_on B10.out (Nat.le_refl _) hb11)
  clear hb11 C10 B10 G11
  have H12 := delete_chk C11.out 0 1
  rw [show delE [97, 120, 98] 0 1 = 0 from rfl, show delS [97, 120, 98] 0 1 = [120, 98] from rfl, show delP [97, 120, 98] 3 0 1 = 0 from rfl] at H12
  have G12 := Lib.hid H12
  clear H12
  go_wp2_with fail
  refine G12.out.mono ?_
  rintro e w12 ⟨rfl, hc12, hx12⟩
  have C12 := Lib.hid hc12
  have B12 := Lib.hid (Ex.belowNew B11.out (Nat.le_refl _) hx12 (Nat.le_succ _) (Nat.le_refl _))
  clear hc12 hx12 C11 B11 G12
  have H13 := place_chk C12.out 
  have G13 := Lib.hid H13
  clear H13
  go_wp2_with fail
  refine G13.out.mono ?_
  rintro e w13 ⟨rfl, hb13⟩
  have C13 := Lib.hid (C12.out.on hb13)
  have B13 := Lib.hid (below_on B12.out (Nat.le_refl _) hb13)
  clear hb13 C12 B12 G13
  have H14 := move_chk C13.out 3
  rw [show movE [120, 98] 3 = 2 from rfl, show movP [120, 98] 0 3 = 0 from rfl] at H14
  have G14 := Lib.hid H14
  clear H14
  go_wp2_with fail
  refine G14.out.mono ?_
  rintro e w14 ⟨rfl, hc14, hx14⟩
  have C14 := Lib.hid hc14
  have B14 := Lib.hid (Ex.belowNew B13.out (Nat.le_refl _) hx14 (Nat.le_succ _) (Nat.le_refl _))
  clear hc14 hx14 C13 B13 G14
  go_wp2_with fail
  go_ret
  exact ⟨rfl, B14.out⟩
end Go.Proofs.Ytjciadimeejmjaa
