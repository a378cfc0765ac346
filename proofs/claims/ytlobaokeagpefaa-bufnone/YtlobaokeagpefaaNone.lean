/-
  BufNone answers true at every edit.
-/
import Derived.Test.YtlobaokeagpefaaB17
namespace Go.Proofs.Ytlobaokeagpefaa
open Go.RowKit ObGap

theorem EdAt.bel {w w' : World} {b o : Nat} {x : Ed} (h : EdAt w b o x) (hl : b < w.heap.size) (hb : Below w.heap.size w w') : EdAt w' b o x := h.keep (hb.block _ hl)
set_option maxHeartbeats 4000000 in
set_option maxRecDepth 100000 in
theorem none_walk (k a n : Int) (z : Bs) (w : World) : Calls Try.prog 7 #[edv ⟨k, a, n, z⟩] w fun e w' => e = .returned (.bool true) ∧ Below w.heap.size w w' := by
  have X1 := Lib.hid (boxed w k a n z)
  have B1 := Lib.hid (alloc_below w (.cells #[.int .i64 k, .int .i64 a, .int .i64 n, str z] 34))
  obtain ⟨w1, hW⟩ : ∃ W, W = w.alloc (.cells #[.int .i64 k, .int .i64 a, .int .i64 n, str z] 34) := ⟨_, rfl⟩
  rw [← hW] at X1 B1
  have HWE := Lib.hid hW
  have L1 := Lib.hid (show w.heap.size < w1.heap.size by rw [hW]; simp)
  clear hW
  go_enter Try.func7, Try.ntmps7
  go_wp2_with fail
  rw [← HWE.out]
  refine (bslice_nil a n _).mono ?_
  rintro e w2 ⟨rfl, hb2⟩
  have X2 := Lib.hid (X1.out.bel L1.out hb2)
  have B2 := Lib.hid (bel_trans B1.out hb2)
  have L2 := Lib.hid (Nat.lt_of_lt_of_le L1.out hb2.size)
  clear hb2 X1 B1 L1
  obtain ⟨b0, b1, b2, b3⟩ := X2.out
  simp only [Nat.zero_add] at b0 b1 b2 b3
  go_wp2_with fail
  clear b0 b1 b2 b3
  refine (binsert_nil a z _).mono ?_
  rintro e w3 ⟨rfl, hb3⟩
  have X3 := Lib.hid (X2.out.bel L2.out hb3)
  have B3 := Lib.hid (bel_trans B2.out hb3)
  have L3 := Lib.hid (Nat.lt_of_lt_of_le L2.out hb3.size)
  clear hb3 X2 B2 L2
  obtain ⟨b0, b1, b2, b3⟩ := X3.out
  simp only [Nat.zero_add] at b0 b1 b2 b3
  go_wp2_with fail
  clear b0 b1 b2 b3
  refine (bdelete_nil a n _).mono ?_
  rintro e w4 ⟨rfl, hb4⟩
  have X4 := Lib.hid (X3.out.bel L3.out hb4)
  have B4 := Lib.hid (bel_trans B3.out hb4)
  have L4 := Lib.hid (Nat.lt_of_lt_of_le L3.out hb4.size)
  clear hb4 X3 B3 L3
  obtain ⟨b0, b1, b2, b3⟩ := X4.out
  simp only [Nat.zero_add] at b0 b1 b2 b3
  go_wp2_with fail
  clear b0 b1 b2 b3
  refine (bmove_nil a _).mono ?_
  rintro e w5 ⟨rfl, hb5⟩
  have X5 := Lib.hid (X4.out.bel L4.out hb5)
  have B5 := Lib.hid (bel_trans B4.out hb5)
  have L5 := Lib.hid (Nat.lt_of_lt_of_le L4.out hb5.size)
  clear hb5 X4 B4 L4
  obtain ⟨b0, b1, b2, b3⟩ := X5.out
  simp only [Nat.zero_add] at b0 b1 b2 b3
  go_wp2_with fail
  clear b0 b1 b2 b3
  refine (blen_nil _).mono ?_
  rintro e w6 ⟨rfl, hb6⟩
  have X6 := Lib.hid (X5.out.bel L5.out hb6)
  have B6 := Lib.hid (bel_trans B5.out hb6)
  have L6 := Lib.hid (Nat.lt_of_lt_of_le L5.out hb6.size)
  clear hb6 X5 B5 L5
  obtain ⟨b0, b1, b2, b3⟩ := X6.out
  simp only [Nat.zero_add] at b0 b1 b2 b3
  go_wp2_with fail
  clear b0 b1 b2 b3
  refine (btext_nil _).mono ?_
  rintro e w7 ⟨rfl, hb7⟩
  have X7 := Lib.hid (X6.out.bel L6.out hb7)
  have B7 := Lib.hid (bel_trans B6.out hb7)
  have L7 := Lib.hid (Nat.lt_of_lt_of_le L6.out hb7.size)
  clear hb7 X6 B6 L6
  obtain ⟨b0, b1, b2, b3⟩ := X7.out
  simp only [Nat.zero_add] at b0 b1 b2 b3
  go_wp2_with fail
  clear b0 b1 b2 b3
  refine (bplace_nil _).mono ?_
  rintro e w8 ⟨rfl, hb8⟩
  have X8 := Lib.hid (X7.out.bel L7.out hb8)
  have B8 := Lib.hid (bel_trans B7.out hb8)
  have L8 := Lib.hid (Nat.lt_of_lt_of_le L7.out hb8.size)
  clear hb8 X7 B7 L7
  obtain ⟨b0, b1, b2, b3⟩ := X8.out
  simp only [Nat.zero_add] at b0 b1 b2 b3
  go_wp2_with fail
  clear b0 b1 b2 b3
  refine (bbyte_nil a _).mono ?_
  rintro e w9 ⟨rfl, hb9⟩
  have X9 := Lib.hid (X8.out.bel L8.out hb9)
  have B9 := Lib.hid (bel_trans B8.out hb9)
  have L9 := Lib.hid (Nat.lt_of_lt_of_le L8.out hb9.size)
  clear hb9 X8 B8 L8
  obtain ⟨b0, b1, b2, b3⟩ := X9.out
  simp only [Nat.zero_add] at b0 b1 b2 b3
  go_wp2_with fail
  clear b0 b1 b2 b3
  refine (bsizes_nil _).mono ?_
  rintro e w10 ⟨rfl, hb10⟩
  have X10 := Lib.hid (X9.out.bel L9.out hb10)
  have B10 := Lib.hid (bel_trans B9.out hb10)
  have L10 := Lib.hid (Nat.lt_of_lt_of_le L9.out hb10.size)
  clear hb10 X9 B9 L9
  obtain ⟨b0, b1, b2, b3⟩ := X10.out
  simp only [Nat.zero_add] at b0 b1 b2 b3
  go_wp2_with fail
  clear b0 b1 b2 b3
  refine (bclone_nil _).mono ?_
  rintro e w11 ⟨rfl, hb11⟩
  have X11 := Lib.hid (X10.out.bel L10.out hb11)
  have B11 := Lib.hid (bel_trans B10.out hb11)
  have L11 := Lib.hid (Nat.lt_of_lt_of_le L10.out hb11.size)
  clear hb11 X10 B10 L10
  obtain ⟨b0, b1, b2, b3⟩ := X11.out
  simp only [Nat.zero_add] at b0 b1 b2 b3
  go_wp2_with fail
  clear b0 b1 b2 b3
  refine (wakes_any _).mono ?_
  rintro e w12 ⟨rfl, hb12⟩
  have X12 := Lib.hid (X11.out.bel L11.out hb12)
  have B12 := Lib.hid (bel_trans B11.out hb12)
  have L12 := Lib.hid (Nat.lt_of_lt_of_le L11.out hb12.size)
  clear hb12 X11 B11 L11
  obtain ⟨b0, b1, b2, b3⟩ := X12.out
  simp only [Nat.zero_add] at b0 b1 b2 b3
  go_wp2_with fail
  clear b0 b1 b2 b3
  go_ret
  exact ⟨rfl, B12.out⟩
end Go.Proofs.Ytlobaokeagpefaa
