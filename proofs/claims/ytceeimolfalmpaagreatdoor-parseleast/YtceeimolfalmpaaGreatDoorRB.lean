/-
  What the page's own braces answers. Conditions: the text has at most 100000 bytes; the place lies within it.
  What the page's own braces answers, in one. Conditions: the text has at most 100000 bytes; the place lies within it.
-/
import Derived.Test.YtceeimolfalmpaaGreatDoorRA
import Derived.Test.YtceeimolfalmpaaGreatDoorLD
namespace Go.Proofs.YtceeimolfalmpaaGreatDoor
open Go.RowKit ObUtf ObSets ObLex

/-- What the page's own braces hands back. -/
def RetB (i : Nat) (r : Res (Int × Int × Int × Nat)) (w : World) (e : Ending) (w' : World) : Prop :=
  match r with
  | .error (er, a) => e = .returned (.tuple #[tv 0 0 nls 0 0, .int .i64 0, fv er (a : Int)]) ∧ Below w.heap.size w w' ∧ (er = 4 ∨ er = 5 ∨ er = 7)
  | .ok (k, a, b, j) => e = .returned (.tuple #[tv k (i : Int) nls a b, .int .i64 ((j : Int) - (i : Int)), fv 0 0]) ∧ Below w.heap.size w w'
theorem is_at {s : ByteArray} {i c : Nat} {b : Bool} (hb : b = decide (bt s i = c)) (hc : c ≠ 0) {j : Int} (hj : (i : Int) = j) (w : World) : Calls Tryz.prog 73 #[.string s, .int .i64 j, .int .u8 (c : Int)] w fun e w' => e = .returned (.bool b) ∧ w = w' := by
  subst hj; exact is_any s i c b hb hc w
theorem num_at {s : ByteArray} {i : Nat} (hi : i ≤ s.size) (hs : s.size ≤ 100000) {V D : Nat} (hV : V = min (num s i) 100000) (hD : D = dg s i) {j : Int} (hj : (i : Int) = j) (w : World) : Calls Tryz.prog 116 #[.string s, .int .i64 j] w fun e w' => e = .returned (.tuple #[.int .i64 (V : Int), .int .i64 (D : Int)]) ∧ w = w' := by
  subst hj; exact rnumber_any s i w hi hs hV hD
section
variable {s : ByteArray} {i : Nat} (w : World) (hs : s.size ≤ 100000) (hi : i < s.size)
include hs hi
set_option maxHeartbeats 2000000 in
set_option maxRecDepth 100000 in
theorem rb_b0 (ht : bt s (i + 1) = 126) (h0 : dg s (i + 2) = 0) : Calls Tryz.prog 71 #[.string s, .int .i64 (i : Int)] w (RetB i (.error (4, i)) w) := by
  have HT := Lib.hid (w0_tok w)
  have HF := Lib.hid (w0_fault w)
  have HB0 := Lib.hid (w0_below w)
  have hi' := hi
  have hi1 : i + 1 < s.size := bt_in (by omega)
  have HI1 := Lib.hid (is_at (s := s) (i := i + 1) (c := 126) (b := true) (by rw [ht]; rfl) (by omega) (show ((i + 1 : Nat) : Int) = (i : Int) + 1 by omega))
  obtain ⟨V, hV⟩ : ∃ V, V = min (num s (i + 2)) 100000 := ⟨_, rfl⟩
  have HN := Lib.hid (num_at (s := s) (i := i + 2) (by omega) hs hV rfl (show ((i + 2 : Nat) : Int) = (i : Int) + 2 by omega))
  have hfit := dg_fit s _ (i + 2) (Nat.le_refl _) (by omega)
  rw [h0] at HN
  clear ht hV h0 hfit
  go_enter Tryz.func71, Tryz.ntmps71
  go_wp2_with fail
  refine (bad_any 4 (i : Int) _).mono ?_
  rintro e w1 ⟨rfl, hb1⟩
  have bN := hb1.alloc (by have := hb1.size; omega) (.cells #[.int .i64 4, .int .i64 (i : Int)] 34)
  have hT1 := keepL HT.out bN
  have hF1 := keepL HF.out bN
  have hN1 := heap_new w1 (.cells #[.int .i64 4, .int .i64 (i : Int)] 34)
  obtain ⟨⟨t0, t1, t2, t3, t4⟩, f0, f1, f2, f3, f4⟩ := blk5 (keepL HT.out hb1)
  obtain ⟨q0, q1, q2, q3⟩ := blk2 (keepL HF.out hb1)
  obtain ⟨n0, n1, n2, n3⟩ := blk2 hN1
  have HT1 := Lib.hid hT1; have HF1 := Lib.hid hF1
  have hbw := bel_trans HB0.out bN
  have hbw1 := bel_trans HB0.out hb1
  have hz1 := hb1.size
  rw [w0_size] at hz1
  have s1 : w.heap.size < w1.heap.size := by omega
  have s2 : w.heap.size + 1 < w1.heap.size := by omega
  clear hT1 hF1 hN1 bN hb1
  go_wp2_with fail
  refine (HI1.out _).mono ?_
  rintro e w' ⟨rfl, rfl⟩
  go_wp2_with fail
  refine (HN.out _).mono ?_
  rintro e w' ⟨rfl, rfl⟩
  go_wp2_with fail
  go_region
  all_goals (
    go_wp2_with fail
    refine bodyPost_ret (v := .tuple #[tv 0 0 nls 0 0, .int .i64 0, fv 4 (i : Int)]) ?_ rfl ⟨rfl, ?_, .inl rfl⟩
    · rw [results_ctc rfl]; go_simp
    · repeat' (first | with_reducible exact hbw | with_reducible exact hbw1 | with_reducible refine Below.drew ?_ | with_reducible refine Below.alloc ?_ ?_ _ | with_reducible refine Below.setCell ?_ ?_ _ | (simp; done) | (simp; omega)))
set_option maxHeartbeats 2000000 in
set_option maxRecDepth 100000 in
theorem rb_b1 (ht : bt s (i + 1) = 126) (h0 : 0 < dg s (i + 2)) (he : bt s (i + 2 + dg s (i + 2)) ≠ 125) : Calls Tryz.prog 71 #[.string s, .int .i64 (i : Int)] w (RetB i (.error (4, i)) w) := by
  have HT := Lib.hid (w0_tok w)
  have HF := Lib.hid (w0_fault w)
  have HB0 := Lib.hid (w0_below w)
  have hi' := hi
  have hi1 : i + 1 < s.size := bt_in (by omega)
  have HI1 := Lib.hid (is_at (s := s) (i := i + 1) (c := 126) (b := true) (by rw [ht]; rfl) (by omega) (show ((i + 1 : Nat) : Int) = (i : Int) + 1 by omega))
  obtain ⟨V, hV⟩ : ∃ V, V = min (num s (i + 2)) 100000 := ⟨_, rfl⟩
  have HN := Lib.hid (num_at (s := s) (i := i + 2) (by omega) hs hV rfl (show ((i + 2 : Nat) : Int) = (i : Int) + 2 by omega))
  have hfit := dg_fit s _ (i + 2) (Nat.le_refl _) (by omega)
  have HI2 := Lib.hid (is_at (s := s) (i := i + 2 + dg s (i + 2)) (c := 125) (b := false) (by rw [decide_eq_false he]) (by omega) (show ((i + 2 + dg s (i + 2) : Nat) : Int) = (i : Int) + 2 + (dg s (i + 2) : Int) by omega))
  clear he
  clear ht hV
  generalize dg s (i + 2) = d at *
  have e0 : ((d : Int) == 0) = false := beq_eq_false_iff_ne.2 (by omega)
  go_enter Tryz.func71, Tryz.ntmps71
  go_wp2_with fail
  refine (bad_any 4 (i : Int) _).mono ?_
  rintro e w1 ⟨rfl, hb1⟩
  have bN := hb1.alloc (by have := hb1.size; omega) (.cells #[.int .i64 4, .int .i64 (i : Int)] 34)
  have hT1 := keepL HT.out bN
  have hF1 := keepL HF.out bN
  have hN1 := heap_new w1 (.cells #[.int .i64 4, .int .i64 (i : Int)] 34)
  obtain ⟨⟨t0, t1, t2, t3, t4⟩, f0, f1, f2, f3, f4⟩ := blk5 (keepL HT.out hb1)
  obtain ⟨q0, q1, q2, q3⟩ := blk2 (keepL HF.out hb1)
  obtain ⟨n0, n1, n2, n3⟩ := blk2 hN1
  have HT1 := Lib.hid hT1; have HF1 := Lib.hid hF1
  have hbw := bel_trans HB0.out bN
  have hbw1 := bel_trans HB0.out hb1
  have hz1 := hb1.size
  rw [w0_size] at hz1
  have s1 : w.heap.size < w1.heap.size := by omega
  have s2 : w.heap.size + 1 < w1.heap.size := by omega
  clear hT1 hF1 hN1 bN hb1
  go_wp2_with fail
  refine (HI1.out _).mono ?_
  rintro e w' ⟨rfl, rfl⟩
  go_wp2_with fail
  refine (HN.out _).mono ?_
  rintro e w' ⟨rfl, rfl⟩
  go_wp2_with fail
  refine (HI2.out _).mono ?_
  rintro e w' ⟨rfl, rfl⟩
  go_wp2_with fail
  go_region
  all_goals (
    go_wp2_with fail
    refine bodyPost_ret (v := .tuple #[tv 0 0 nls 0 0, .int .i64 0, fv 4 (i : Int)]) ?_ rfl ⟨rfl, ?_, .inl rfl⟩
    · rw [results_ctc rfl]; go_simp
    · repeat' (first | with_reducible exact hbw | with_reducible exact hbw1 | with_reducible refine Below.drew ?_ | with_reducible refine Below.alloc ?_ ?_ _ | with_reducible refine Below.setCell ?_ ?_ _ | (simp; done) | (simp; omega)))
set_option maxHeartbeats 2000000 in
set_option maxRecDepth 100000 in
theorem rb_b2 (ht : bt s (i + 1) = 126) (h0 : 0 < dg s (i + 2)) (he : bt s (i + 2 + dg s (i + 2)) = 125) (hn : 255 < num s (i + 2)) : Calls Tryz.prog 71 #[.string s, .int .i64 (i : Int)] w (RetB i (.error (7, i + 2)) w) := by
  have HT := Lib.hid (w0_tok w)
  have HF := Lib.hid (w0_fault w)
  have HB0 := Lib.hid (w0_below w)
  have hi' := hi
  have hi1 : i + 1 < s.size := bt_in (by omega)
  have HI1 := Lib.hid (is_at (s := s) (i := i + 1) (c := 126) (b := true) (by rw [ht]; rfl) (by omega) (show ((i + 1 : Nat) : Int) = (i : Int) + 1 by omega))
  obtain ⟨V, hV⟩ : ∃ V, V = min (num s (i + 2)) 100000 := ⟨_, rfl⟩
  have HN := Lib.hid (num_at (s := s) (i := i + 2) (by omega) hs hV rfl (show ((i + 2 : Nat) : Int) = (i : Int) + 2 by omega))
  have hfit := dg_fit s _ (i + 2) (Nat.le_refl _) (by omega)
  have HI2 := Lib.hid (is_at (s := s) (i := i + 2 + dg s (i + 2)) (c := 125) (b := true) (by rw [decide_eq_true he]) (by omega) (show ((i + 2 + dg s (i + 2) : Nat) : Int) = (i : Int) + 2 + (dg s (i + 2) : Int) by omega))
  have d9 : decide ((255 : Int) < (V : Int)) = true := decide_eq_true (by omega)
  clear he hn
  clear ht hV
  generalize dg s (i + 2) = d at *
  have e0 : ((d : Int) == 0) = false := beq_eq_false_iff_ne.2 (by omega)
  go_enter Tryz.func71, Tryz.ntmps71
  go_wp2_with fail
  refine (bad_any 4 (i : Int) _).mono ?_
  rintro e w1 ⟨rfl, hb1⟩
  have bN := hb1.alloc (by have := hb1.size; omega) (.cells #[.int .i64 4, .int .i64 (i : Int)] 34)
  have hT1 := keepL HT.out bN
  have hF1 := keepL HF.out bN
  have hN1 := heap_new w1 (.cells #[.int .i64 4, .int .i64 (i : Int)] 34)
  obtain ⟨⟨t0, t1, t2, t3, t4⟩, f0, f1, f2, f3, f4⟩ := blk5 (keepL HT.out hb1)
  obtain ⟨q0, q1, q2, q3⟩ := blk2 (keepL HF.out hb1)
  obtain ⟨n0, n1, n2, n3⟩ := blk2 hN1
  have HT1 := Lib.hid hT1; have HF1 := Lib.hid hF1
  have hbw := bel_trans HB0.out bN
  have hbw1 := bel_trans HB0.out hb1
  have hz1 := hb1.size
  rw [w0_size] at hz1
  have s1 : w.heap.size < w1.heap.size := by omega
  have s2 : w.heap.size + 1 < w1.heap.size := by omega
  clear hT1 hF1 hN1 bN hb1
  go_wp2_with fail
  refine (HI1.out _).mono ?_
  rintro e w' ⟨rfl, rfl⟩
  go_wp2_with fail
  refine (HN.out _).mono ?_
  rintro e w' ⟨rfl, rfl⟩
  go_wp2_with fail
  refine (HI2.out _).mono ?_
  rintro e w' ⟨rfl, rfl⟩
  go_wp2_with fail
  refine (bad_any _ _ _).mono ?_
  rintro e w2 ⟨rfl, hb2⟩
  obtain ⟨⟨t0', t1', t2', t3', t4'⟩, f0', f1', f2', f3', f4'⟩ := blk5 (keepL HT1.out hb2)
  obtain ⟨q0', q1', q2', q3'⟩ := blk2 (keepL HF1.out hb2)
  have hbz := bel_trans hbw hb2
  go_wp2_with fail
  refine bodyPost_ret (v := .tuple #[tv 0 0 nls 0 0, .int .i64 0, fv 7 ((i : Int) + 2)]) ?_ rfl ⟨rfl, ?_, .inr (.inr rfl)⟩
  · rw [results_ctc rfl]; go_simp
  · repeat' (first | with_reducible exact hbz | with_reducible refine Below.drew ?_ | with_reducible refine Below.setCell ?_ ?_ _ | (simp; done))
set_option maxHeartbeats 2000000 in
set_option maxRecDepth 100000 in
theorem rb_b3 (ht : bt s (i + 1) = 126) (h0 : 0 < dg s (i + 2)) (he : bt s (i + 2 + dg s (i + 2)) = 125) (hn : ¬ 255 < num s (i + 2)) : Calls Tryz.prog 71 #[.string s, .int .i64 (i : Int)] w (RetB i (.ok (7, num s (i + 2), 0, i + 2 + dg s (i + 2) + 1)) w) := by
  have HT := Lib.hid (w0_tok w)
  have HF := Lib.hid (w0_fault w)
  have HB0 := Lib.hid (w0_below w)
  have hi' := hi
  have hi1 : i + 1 < s.size := bt_in (by omega)
  have HI1 := Lib.hid (is_at (s := s) (i := i + 1) (c := 126) (b := true) (by rw [ht]; rfl) (by omega) (show ((i + 1 : Nat) : Int) = (i : Int) + 1 by omega))
  obtain ⟨V, hV⟩ : ∃ V, V = min (num s (i + 2)) 100000 := ⟨_, rfl⟩
  have HN := Lib.hid (num_at (s := s) (i := i + 2) (by omega) hs hV rfl (show ((i + 2 : Nat) : Int) = (i : Int) + 2 by omega))
  have hfit := dg_fit s _ (i + 2) (Nat.le_refl _) (by omega)
  have HI2 := Lib.hid (is_at (s := s) (i := i + 2 + dg s (i + 2)) (c := 125) (b := true) (by rw [decide_eq_true he]) (by omega) (show ((i + 2 + dg s (i + 2) : Nat) : Int) = (i : Int) + 2 + (dg s (i + 2) : Int) by omega))
  obtain rfl : V = num s (i + 2) := by omega
  have d9 : decide ((255 : Int) < (num s (i + 2) : Int)) = false := decide_eq_false (by omega)
  generalize num s (i + 2) = V at *
  clear he hn
  clear ht hV
  generalize dg s (i + 2) = d at *
  have e0 : ((d : Int) == 0) = false := beq_eq_false_iff_ne.2 (by omega)
  go_enter Tryz.func71, Tryz.ntmps71
  go_wp2_with fail
  refine (bad_any 4 (i : Int) _).mono ?_
  rintro e w1 ⟨rfl, hb1⟩
  have bN := hb1.alloc (by have := hb1.size; omega) (.cells #[.int .i64 4, .int .i64 (i : Int)] 34)
  have hT1 := keepL HT.out bN
  have hF1 := keepL HF.out bN
  have hN1 := heap_new w1 (.cells #[.int .i64 4, .int .i64 (i : Int)] 34)
  obtain ⟨⟨t0, t1, t2, t3, t4⟩, f0, f1, f2, f3, f4⟩ := blk5 (keepL HT.out hb1)
  obtain ⟨q0, q1, q2, q3⟩ := blk2 (keepL HF.out hb1)
  obtain ⟨n0, n1, n2, n3⟩ := blk2 hN1
  have HT1 := Lib.hid hT1; have HF1 := Lib.hid hF1
  have hbw := bel_trans HB0.out bN
  have hbw1 := bel_trans HB0.out hb1
  have hz1 := hb1.size
  rw [w0_size] at hz1
  have s1 : w.heap.size < w1.heap.size := by omega
  have s2 : w.heap.size + 1 < w1.heap.size := by omega
  clear hT1 hF1 hN1 bN hb1
  go_wp2_with fail
  refine (HI1.out _).mono ?_
  rintro e w' ⟨rfl, rfl⟩
  go_wp2_with fail
  refine (HN.out _).mono ?_
  rintro e w' ⟨rfl, rfl⟩
  go_wp2_with fail
  refine (HI2.out _).mono ?_
  rintro e w' ⟨rfl, rfl⟩
  go_wp2_with fail
  refine bodyPost_ret (v := .tuple #[tv 7 (i : Int) nls (V : Int) 0, .int .i64 ((d : Int) + 3), fv 0 0]) ?_ rfl ⟨by rw [show (((i + 2 + d + 1 : Nat) : Int) - (i : Int)) = (d : Int) + 3 by omega], ?_⟩
  · rw [results_ctc rfl]; go_simp
  · repeat' (first | with_reducible exact hbw | with_reducible exact hbw1 | with_reducible refine Below.drew ?_ | with_reducible refine Below.alloc ?_ ?_ _ | with_reducible refine Below.setCell ?_ ?_ _ | (simp; done) | (simp; omega))
set_option maxHeartbeats 2000000 in
set_option maxRecDepth 100000 in
theorem rb_r0 (ht : bt s (i + 1) ≠ 126) (h0 : dg s (i + 1) = 0) : Calls Tryz.prog 71 #[.string s, .int .i64 (i : Int)] w (RetB i (.error (4, i)) w) := by
  have HT := Lib.hid (w0_tok w)
  have HF := Lib.hid (w0_fault w)
  have HB0 := Lib.hid (w0_below w)
  have hi' := hi
  have HI1 := Lib.hid (is_at (s := s) (i := i + 1) (c := 126) (b := false) (by rw [decide_eq_false ht]) (by omega) (show ((i + 1 : Nat) : Int) = (i : Int) + 1 by omega))
  obtain ⟨V, hV⟩ : ∃ V, V = min (num s (i + 1)) 100000 := ⟨_, rfl⟩
  have HN := Lib.hid (num_at (s := s) (i := i + 1) (by omega) hs hV rfl (show ((i + 1 : Nat) : Int) = (i : Int) + 1 by omega))
  have hfit := dg_fit s _ (i + 1) (Nat.le_refl _) (by omega)
  rw [h0] at HN
  clear ht hV h0 hfit
  go_enter Tryz.func71, Tryz.ntmps71
  go_wp2_with fail
  refine (bad_any 4 (i : Int) _).mono ?_
  rintro e w1 ⟨rfl, hb1⟩
  have bN := hb1.alloc (by have := hb1.size; omega) (.cells #[.int .i64 4, .int .i64 (i : Int)] 34)
  have hT1 := keepL HT.out bN
  have hF1 := keepL HF.out bN
  have hN1 := heap_new w1 (.cells #[.int .i64 4, .int .i64 (i : Int)] 34)
  obtain ⟨⟨t0, t1, t2, t3, t4⟩, f0, f1, f2, f3, f4⟩ := blk5 (keepL HT.out hb1)
  obtain ⟨q0, q1, q2, q3⟩ := blk2 (keepL HF.out hb1)
  obtain ⟨n0, n1, n2, n3⟩ := blk2 hN1
  have HT1 := Lib.hid hT1; have HF1 := Lib.hid hF1
  have hbw := bel_trans HB0.out bN
  have hbw1 := bel_trans HB0.out hb1
  have hz1 := hb1.size
  rw [w0_size] at hz1
  have s1 : w.heap.size < w1.heap.size := by omega
  have s2 : w.heap.size + 1 < w1.heap.size := by omega
  clear hT1 hF1 hN1 bN hb1
  go_wp2_with fail
  refine (HI1.out _).mono ?_
  rintro e w' ⟨rfl, rfl⟩
  go_wp2_with fail
  refine (HN.out _).mono ?_
  rintro e w' ⟨rfl, rfl⟩
  go_wp2_with fail
  go_region
  all_goals (
    go_wp2_with fail
    refine bodyPost_ret (v := .tuple #[tv 0 0 nls 0 0, .int .i64 0, fv 4 (i : Int)]) ?_ rfl ⟨rfl, ?_, .inl rfl⟩
    · rw [results_ctc rfl]; go_simp
    · repeat' (first | with_reducible exact hbw | with_reducible exact hbw1 | with_reducible refine Below.drew ?_ | with_reducible refine Below.alloc ?_ ?_ _ | with_reducible refine Below.setCell ?_ ?_ _ | (simp; done) | (simp; omega)))
set_option maxHeartbeats 2000000 in
set_option maxRecDepth 100000 in
theorem rb_r1 (ht : bt s (i + 1) ≠ 126) (h0 : 0 < dg s (i + 1)) (hc : bt s (i + 1 + dg s (i + 1)) ≠ 44) (he : bt s (i + 1 + dg s (i + 1)) ≠ 125) : Calls Tryz.prog 71 #[.string s, .int .i64 (i : Int)] w (RetB i (.error (4, i)) w) := by
  have HT := Lib.hid (w0_tok w)
  have HF := Lib.hid (w0_fault w)
  have HB0 := Lib.hid (w0_below w)
  have hi' := hi
  have HI1 := Lib.hid (is_at (s := s) (i := i + 1) (c := 126) (b := false) (by rw [decide_eq_false ht]) (by omega) (show ((i + 1 : Nat) : Int) = (i : Int) + 1 by omega))
  obtain ⟨V, hV⟩ : ∃ V, V = min (num s (i + 1)) 100000 := ⟨_, rfl⟩
  have HN := Lib.hid (num_at (s := s) (i := i + 1) (by omega) hs hV rfl (show ((i + 1 : Nat) : Int) = (i : Int) + 1 by omega))
  have hfit := dg_fit s _ (i + 1) (Nat.le_refl _) (by omega)
  have e0 : ((dg s (i + 1) : Int) == 0) = false := beq_eq_false_iff_ne.2 (by omega)
  have HC := Lib.hid (is_at (s := s) (i := i + 1 + dg s (i + 1)) (c := 44) (b := false) (by rw [decide_eq_false hc]) (by omega) (show ((i + 1 + dg s (i + 1) : Nat) : Int) = (i : Int) + 1 + (dg s (i + 1) : Int) by omega))
  have HE := Lib.hid (is_at (s := s) (i := i + 1 + dg s (i + 1)) (c := 125) (b := false) (by rw [decide_eq_false he]) (by omega) (show ((i + 1 + dg s (i + 1) : Nat) : Int) = (i : Int) + 1 + (dg s (i + 1) : Int) by omega))
  clear hV hc he
  clear ht 
  generalize dg s (i + 1) = d at *
  go_enter Tryz.func71, Tryz.ntmps71
  go_wp2_with fail
  refine (bad_any 4 (i : Int) _).mono ?_
  rintro e w1 ⟨rfl, hb1⟩
  have bN := hb1.alloc (by have := hb1.size; omega) (.cells #[.int .i64 4, .int .i64 (i : Int)] 34)
  have hT1 := keepL HT.out bN
  have hF1 := keepL HF.out bN
  have hN1 := heap_new w1 (.cells #[.int .i64 4, .int .i64 (i : Int)] 34)
  obtain ⟨⟨t0, t1, t2, t3, t4⟩, f0, f1, f2, f3, f4⟩ := blk5 (keepL HT.out hb1)
  obtain ⟨q0, q1, q2, q3⟩ := blk2 (keepL HF.out hb1)
  obtain ⟨n0, n1, n2, n3⟩ := blk2 hN1
  have HT1 := Lib.hid hT1; have HF1 := Lib.hid hF1
  have hbw := bel_trans HB0.out bN
  have hbw1 := bel_trans HB0.out hb1
  have hz1 := hb1.size
  rw [w0_size] at hz1
  have s1 : w.heap.size < w1.heap.size := by omega
  have s2 : w.heap.size + 1 < w1.heap.size := by omega
  clear hT1 hF1 hN1 bN hb1
  go_wp2_with fail
  refine (HI1.out _).mono ?_
  rintro e w' ⟨rfl, rfl⟩
  go_wp2_with fail
  refine (HN.out _).mono ?_
  rintro e w' ⟨rfl, rfl⟩
  go_wp2_with fail
  refine (HC.out _).mono ?_
  rintro e w' ⟨rfl, rfl⟩
  go_wp2_with fail
  refine (HE.out _).mono ?_
  rintro e w' ⟨rfl, rfl⟩
  go_wp2_with fail
  go_region
  all_goals (
    go_wp2_with fail
    refine bodyPost_ret (v := .tuple #[tv 0 0 nls 0 0, .int .i64 0, fv 4 (i : Int)]) ?_ rfl ⟨rfl, ?_, .inl rfl⟩
    · rw [results_ctc rfl]; go_simp
    · repeat' (first | with_reducible exact hbw | with_reducible exact hbw1 | with_reducible refine Below.drew ?_ | with_reducible refine Below.alloc ?_ ?_ _ | with_reducible refine Below.setCell ?_ ?_ _ | (simp; done) | (simp; omega)))
set_option maxHeartbeats 2000000 in
set_option maxRecDepth 100000 in
theorem rb_r2 (ht : bt s (i + 1) ≠ 126) (h0 : 0 < dg s (i + 1)) (hc : bt s (i + 1 + dg s (i + 1)) ≠ 44) (he : bt s (i + 1 + dg s (i + 1)) = 125) (hn : 255 < num s (i + 1)) : Calls Tryz.prog 71 #[.string s, .int .i64 (i : Int)] w (RetB i (.error (7, i + 1)) w) := by
  have HT := Lib.hid (w0_tok w)
  have HF := Lib.hid (w0_fault w)
  have HB0 := Lib.hid (w0_below w)
  have hi' := hi
  have HI1 := Lib.hid (is_at (s := s) (i := i + 1) (c := 126) (b := false) (by rw [decide_eq_false ht]) (by omega) (show ((i + 1 : Nat) : Int) = (i : Int) + 1 by omega))
  obtain ⟨V, hV⟩ : ∃ V, V = min (num s (i + 1)) 100000 := ⟨_, rfl⟩
  have HN := Lib.hid (num_at (s := s) (i := i + 1) (by omega) hs hV rfl (show ((i + 1 : Nat) : Int) = (i : Int) + 1 by omega))
  have hfit := dg_fit s _ (i + 1) (Nat.le_refl _) (by omega)
  have e0 : ((dg s (i + 1) : Int) == 0) = false := beq_eq_false_iff_ne.2 (by omega)
  have HC := Lib.hid (is_at (s := s) (i := i + 1 + dg s (i + 1)) (c := 44) (b := false) (by rw [decide_eq_false hc]) (by omega) (show ((i + 1 + dg s (i + 1) : Nat) : Int) = (i : Int) + 1 + (dg s (i + 1) : Int) by omega))
  have HE := Lib.hid (is_at (s := s) (i := i + 1 + dg s (i + 1)) (c := 125) (b := true) (by rw [decide_eq_true he]) (by omega) (show ((i + 1 + dg s (i + 1) : Nat) : Int) = (i : Int) + 1 + (dg s (i + 1) : Int) by omega))
  have d9 : decide ((255 : Int) < (V : Int)) = true := decide_eq_true (by omega)
  clear hV hc he hn
  clear ht 
  generalize dg s (i + 1) = d at *
  go_enter Tryz.func71, Tryz.ntmps71
  go_wp2_with fail
  refine (bad_any 4 (i : Int) _).mono ?_
  rintro e w1 ⟨rfl, hb1⟩
  have bN := hb1.alloc (by have := hb1.size; omega) (.cells #[.int .i64 4, .int .i64 (i : Int)] 34)
  have hT1 := keepL HT.out bN
  have hF1 := keepL HF.out bN
  have hN1 := heap_new w1 (.cells #[.int .i64 4, .int .i64 (i : Int)] 34)
  obtain ⟨⟨t0, t1, t2, t3, t4⟩, f0, f1, f2, f3, f4⟩ := blk5 (keepL HT.out hb1)
  obtain ⟨q0, q1, q2, q3⟩ := blk2 (keepL HF.out hb1)
  obtain ⟨n0, n1, n2, n3⟩ := blk2 hN1
  have HT1 := Lib.hid hT1; have HF1 := Lib.hid hF1
  have hbw := bel_trans HB0.out bN
  have hbw1 := bel_trans HB0.out hb1
  have hz1 := hb1.size
  rw [w0_size] at hz1
  have s1 : w.heap.size < w1.heap.size := by omega
  have s2 : w.heap.size + 1 < w1.heap.size := by omega
  clear hT1 hF1 hN1 bN hb1
  go_wp2_with fail
  refine (HI1.out _).mono ?_
  rintro e w' ⟨rfl, rfl⟩
  go_wp2_with fail
  refine (HN.out _).mono ?_
  rintro e w' ⟨rfl, rfl⟩
  go_wp2_with fail
  refine (HC.out _).mono ?_
  rintro e w' ⟨rfl, rfl⟩
  go_wp2_with fail
  refine (HE.out _).mono ?_
  rintro e w' ⟨rfl, rfl⟩
  go_wp2_with fail
  refine (bad_any _ _ _).mono ?_
  rintro e w2 ⟨rfl, hb2⟩
  obtain ⟨⟨t0', t1', t2', t3', t4'⟩, f0', f1', f2', f3', f4'⟩ := blk5 (keepL HT1.out hb2)
  obtain ⟨q0', q1', q2', q3'⟩ := blk2 (keepL HF1.out hb2)
  have hbz := bel_trans hbw hb2
  go_wp2_with fail
  refine bodyPost_ret (v := .tuple #[tv 0 0 nls 0 0, .int .i64 0, fv 7 ((i : Int) + 1)]) ?_ rfl ⟨rfl, ?_, .inr (.inr rfl)⟩
  · rw [results_ctc rfl]; go_simp
  · repeat' (first | with_reducible exact hbz | with_reducible refine Below.drew ?_ | with_reducible refine Below.setCell ?_ ?_ _ | (simp; done))
set_option maxHeartbeats 2000000 in
set_option maxRecDepth 100000 in
theorem rb_r3 (ht : bt s (i + 1) ≠ 126) (h0 : 0 < dg s (i + 1)) (hc : bt s (i + 1 + dg s (i + 1)) ≠ 44) (he : bt s (i + 1 + dg s (i + 1)) = 125) (hn : ¬ 255 < num s (i + 1)) : Calls Tryz.prog 71 #[.string s, .int .i64 (i : Int)] w (RetB i (.ok (6, num s (i + 1), num s (i + 1), i + 1 + dg s (i + 1) + 1)) w) := by
  have HT := Lib.hid (w0_tok w)
  have HF := Lib.hid (w0_fault w)
  have HB0 := Lib.hid (w0_below w)
  have hi' := hi
  have HI1 := Lib.hid (is_at (s := s) (i := i + 1) (c := 126) (b := false) (by rw [decide_eq_false ht]) (by omega) (show ((i + 1 : Nat) : Int) = (i : Int) + 1 by omega))
  obtain ⟨V, hV⟩ : ∃ V, V = min (num s (i + 1)) 100000 := ⟨_, rfl⟩
  have HN := Lib.hid (num_at (s := s) (i := i + 1) (by omega) hs hV rfl (show ((i + 1 : Nat) : Int) = (i : Int) + 1 by omega))
  have hfit := dg_fit s _ (i + 1) (Nat.le_refl _) (by omega)
  have e0 : ((dg s (i + 1) : Int) == 0) = false := beq_eq_false_iff_ne.2 (by omega)
  have HC := Lib.hid (is_at (s := s) (i := i + 1 + dg s (i + 1)) (c := 44) (b := false) (by rw [decide_eq_false hc]) (by omega) (show ((i + 1 + dg s (i + 1) : Nat) : Int) = (i : Int) + 1 + (dg s (i + 1) : Int) by omega))
  have HE := Lib.hid (is_at (s := s) (i := i + 1 + dg s (i + 1)) (c := 125) (b := true) (by rw [decide_eq_true he]) (by omega) (show ((i + 1 + dg s (i + 1) : Nat) : Int) = (i : Int) + 1 + (dg s (i + 1) : Int) by omega))
  obtain rfl : V = num s (i + 1) := by omega
  have d9 : decide ((255 : Int) < (num s (i + 1) : Int)) = false := decide_eq_false (by omega)
  generalize num s (i + 1) = V at *
  clear hV hc he hn
  clear ht 
  generalize dg s (i + 1) = d at *
  go_enter Tryz.func71, Tryz.ntmps71
  go_wp2_with fail
  refine (bad_any 4 (i : Int) _).mono ?_
  rintro e w1 ⟨rfl, hb1⟩
  have bN := hb1.alloc (by have := hb1.size; omega) (.cells #[.int .i64 4, .int .i64 (i : Int)] 34)
  have hT1 := keepL HT.out bN
  have hF1 := keepL HF.out bN
  have hN1 := heap_new w1 (.cells #[.int .i64 4, .int .i64 (i : Int)] 34)
  obtain ⟨⟨t0, t1, t2, t3, t4⟩, f0, f1, f2, f3, f4⟩ := blk5 (keepL HT.out hb1)
  obtain ⟨q0, q1, q2, q3⟩ := blk2 (keepL HF.out hb1)
  obtain ⟨n0, n1, n2, n3⟩ := blk2 hN1
  have HT1 := Lib.hid hT1; have HF1 := Lib.hid hF1
  have hbw := bel_trans HB0.out bN
  have hbw1 := bel_trans HB0.out hb1
  have hz1 := hb1.size
  rw [w0_size] at hz1
  have s1 : w.heap.size < w1.heap.size := by omega
  have s2 : w.heap.size + 1 < w1.heap.size := by omega
  clear hT1 hF1 hN1 bN hb1
  go_wp2_with fail
  refine (HI1.out _).mono ?_
  rintro e w' ⟨rfl, rfl⟩
  go_wp2_with fail
  refine (HN.out _).mono ?_
  rintro e w' ⟨rfl, rfl⟩
  go_wp2_with fail
  refine (HC.out _).mono ?_
  rintro e w' ⟨rfl, rfl⟩
  go_wp2_with fail
  refine (HE.out _).mono ?_
  rintro e w' ⟨rfl, rfl⟩
  go_wp2_with fail
  refine bodyPost_ret (v := .tuple #[tv 6 (i : Int) nls (V : Int) (V : Int), .int .i64 ((i : Int) + 1 + (d : Int) + 1 - (i : Int)), fv 0 0]) ?_ rfl ⟨by rw [show (((i + 1 + d + 1 : Nat) : Int) - (i : Int)) = (i : Int) + 1 + (d : Int) + 1 - (i : Int) by omega], ?_⟩
  · rw [results_ctc rfl]; go_simp
  · repeat' (first | with_reducible exact hbw | with_reducible exact hbw1 | with_reducible refine Below.drew ?_ | with_reducible refine Below.alloc ?_ ?_ _ | with_reducible refine Below.setCell ?_ ?_ _ | (simp; done) | (simp; omega))
set_option maxHeartbeats 2000000 in
set_option maxRecDepth 100000 in
theorem rb_c1 (ht : bt s (i + 1) ≠ 126) (h0 : 0 < dg s (i + 1)) (hc : bt s (i + 1 + dg s (i + 1)) = 44) (hm : dg s (i + 1 + dg s (i + 1) + 1) = 0) (he : bt s (i + 1 + dg s (i + 1) + 1) ≠ 125) : Calls Tryz.prog 71 #[.string s, .int .i64 (i : Int)] w (RetB i (.error (4, i)) w) := by
  have HT := Lib.hid (w0_tok w)
  have HF := Lib.hid (w0_fault w)
  have HB0 := Lib.hid (w0_below w)
  have hi' := hi
  have HI1 := Lib.hid (is_at (s := s) (i := i + 1) (c := 126) (b := false) (by rw [decide_eq_false ht]) (by omega) (show ((i + 1 : Nat) : Int) = (i : Int) + 1 by omega))
  obtain ⟨V, hV⟩ : ∃ V, V = min (num s (i + 1)) 100000 := ⟨_, rfl⟩
  have HN := Lib.hid (num_at (s := s) (i := i + 1) (by omega) hs hV rfl (show ((i + 1 : Nat) : Int) = (i : Int) + 1 by omega))
  have hfit := dg_fit s _ (i + 1) (Nat.le_refl _) (by omega)
  have e0 : ((dg s (i + 1) : Int) == 0) = false := beq_eq_false_iff_ne.2 (by omega)
  have hp1 : i + 1 + dg s (i + 1) < s.size := bt_in (by omega)
  have HC := Lib.hid (is_at (s := s) (i := i + 1 + dg s (i + 1)) (c := 44) (b := true) (by rw [decide_eq_true hc]) (by omega) (show ((i + 1 + dg s (i + 1) : Nat) : Int) = (i : Int) + 1 + (dg s (i + 1) : Int) by omega))
  obtain ⟨U2, hU2⟩ : ∃ U2, U2 = min (num s (i + 1 + dg s (i + 1) + 1)) 100000 := ⟨_, rfl⟩
  have HN2 := Lib.hid (num_at (s := s) (i := i + 1 + dg s (i + 1) + 1) (by omega) hs hU2 rfl (show ((i + 1 + dg s (i + 1) + 1 : Nat) : Int) = (i : Int) + 1 + (dg s (i + 1) : Int) + 1 by omega))
  have hfit2 := dg_fit s _ (i + 1 + dg s (i + 1) + 1) (Nat.le_refl _) (by omega)
  rw [hm] at HN2 hfit2
  have HE := Lib.hid (is_at (s := s) (i := i + 1 + dg s (i + 1) + 1) (c := 125) (b := false) (by rw [decide_eq_false he]) (by omega) (show ((i + 1 + dg s (i + 1) + 1 : Nat) : Int) = (i : Int) + 1 + (dg s (i + 1) : Int) + 1 + 0 by omega))
  rw [Int.add_zero] at HE
  clear hV hU2 hc he hm
  clear ht 
  generalize dg s (i + 1) = d at *
  go_enter Tryz.func71, Tryz.ntmps71
  go_wp2_with fail
  refine (bad_any 4 (i : Int) _).mono ?_
  rintro e w1 ⟨rfl, hb1⟩
  have bN := hb1.alloc (by have := hb1.size; omega) (.cells #[.int .i64 4, .int .i64 (i : Int)] 34)
  have hT1 := keepL HT.out bN
  have hF1 := keepL HF.out bN
  have hN1 := heap_new w1 (.cells #[.int .i64 4, .int .i64 (i : Int)] 34)
  obtain ⟨⟨t0, t1, t2, t3, t4⟩, f0, f1, f2, f3, f4⟩ := blk5 (keepL HT.out hb1)
  obtain ⟨q0, q1, q2, q3⟩ := blk2 (keepL HF.out hb1)
  obtain ⟨n0, n1, n2, n3⟩ := blk2 hN1
  have HT1 := Lib.hid hT1; have HF1 := Lib.hid hF1
  have hbw := bel_trans HB0.out bN
  have hbw1 := bel_trans HB0.out hb1
  have hz1 := hb1.size
  rw [w0_size] at hz1
  have s1 : w.heap.size < w1.heap.size := by omega
  have s2 : w.heap.size + 1 < w1.heap.size := by omega
  clear hT1 hF1 hN1 bN hb1
  go_wp2_with fail
  refine (HI1.out _).mono ?_
  rintro e w' ⟨rfl, rfl⟩
  go_wp2_with fail
  refine (HN.out _).mono ?_
  rintro e w' ⟨rfl, rfl⟩
  go_wp2_with fail
  refine (HC.out _).mono ?_
  rintro e w' ⟨rfl, rfl⟩
  go_wp2_with fail
  refine (HN2.out _).mono ?_
  rintro e w' ⟨rfl, rfl⟩
  go_wp2_with fail
  refine (HE.out _).mono ?_
  rintro e w' ⟨rfl, rfl⟩
  go_wp2_with fail
  go_region
  all_goals (
    go_wp2_with fail
    refine bodyPost_ret (v := .tuple #[tv 0 0 nls 0 0, .int .i64 0, fv 4 (i : Int)]) ?_ rfl ⟨rfl, ?_, .inl rfl⟩
    · rw [results_ctc rfl]; go_simp
    · repeat' (first | with_reducible exact hbw | with_reducible exact hbw1 | with_reducible refine Below.drew ?_ | with_reducible refine Below.alloc ?_ ?_ _ | with_reducible refine Below.setCell ?_ ?_ _ | (simp; done) | (simp; omega)))
set_option maxHeartbeats 2000000 in
set_option maxRecDepth 100000 in
theorem rb_c2 (ht : bt s (i + 1) ≠ 126) (h0 : 0 < dg s (i + 1)) (hc : bt s (i + 1 + dg s (i + 1)) = 44) (hm : dg s (i + 1 + dg s (i + 1) + 1) = 0) (he : bt s (i + 1 + dg s (i + 1) + 1) = 125) (hn : 255 < num s (i + 1)) : Calls Tryz.prog 71 #[.string s, .int .i64 (i : Int)] w (RetB i (.error (7, i + 1)) w) := by
  have HT := Lib.hid (w0_tok w)
  have HF := Lib.hid (w0_fault w)
  have HB0 := Lib.hid (w0_below w)
  have hi' := hi
  have HI1 := Lib.hid (is_at (s := s) (i := i + 1) (c := 126) (b := false) (by rw [decide_eq_false ht]) (by omega) (show ((i + 1 : Nat) : Int) = (i : Int) + 1 by omega))
  obtain ⟨V, hV⟩ : ∃ V, V = min (num s (i + 1)) 100000 := ⟨_, rfl⟩
  have HN := Lib.hid (num_at (s := s) (i := i + 1) (by omega) hs hV rfl (show ((i + 1 : Nat) : Int) = (i : Int) + 1 by omega))
  have hfit := dg_fit s _ (i + 1) (Nat.le_refl _) (by omega)
  have e0 : ((dg s (i + 1) : Int) == 0) = false := beq_eq_false_iff_ne.2 (by omega)
  have hp1 : i + 1 + dg s (i + 1) < s.size := bt_in (by omega)
  have HC := Lib.hid (is_at (s := s) (i := i + 1 + dg s (i + 1)) (c := 44) (b := true) (by rw [decide_eq_true hc]) (by omega) (show ((i + 1 + dg s (i + 1) : Nat) : Int) = (i : Int) + 1 + (dg s (i + 1) : Int) by omega))
  obtain ⟨U2, hU2⟩ : ∃ U2, U2 = min (num s (i + 1 + dg s (i + 1) + 1)) 100000 := ⟨_, rfl⟩
  have HN2 := Lib.hid (num_at (s := s) (i := i + 1 + dg s (i + 1) + 1) (by omega) hs hU2 rfl (show ((i + 1 + dg s (i + 1) + 1 : Nat) : Int) = (i : Int) + 1 + (dg s (i + 1) : Int) + 1 by omega))
  have hfit2 := dg_fit s _ (i + 1 + dg s (i + 1) + 1) (Nat.le_refl _) (by omega)
  rw [hm] at HN2 hfit2
  have HE := Lib.hid (is_at (s := s) (i := i + 1 + dg s (i + 1) + 1) (c := 125) (b := true) (by rw [decide_eq_true he]) (by omega) (show ((i + 1 + dg s (i + 1) + 1 : Nat) : Int) = (i : Int) + 1 + (dg s (i + 1) : Int) + 1 + 0 by omega))
  rw [Int.add_zero] at HE
  have d9 : decide ((255 : Int) < (V : Int)) = true := decide_eq_true (by omega)
  clear hV hU2 hc he hn hm
  clear ht 
  generalize dg s (i + 1) = d at *
  go_enter Tryz.func71, Tryz.ntmps71
  go_wp2_with fail
  refine (bad_any 4 (i : Int) _).mono ?_
  rintro e w1 ⟨rfl, hb1⟩
  have bN := hb1.alloc (by have := hb1.size; omega) (.cells #[.int .i64 4, .int .i64 (i : Int)] 34)
  have hT1 := keepL HT.out bN
  have hF1 := keepL HF.out bN
  have hN1 := heap_new w1 (.cells #[.int .i64 4, .int .i64 (i : Int)] 34)
  obtain ⟨⟨t0, t1, t2, t3, t4⟩, f0, f1, f2, f3, f4⟩ := blk5 (keepL HT.out hb1)
  obtain ⟨q0, q1, q2, q3⟩ := blk2 (keepL HF.out hb1)
  obtain ⟨n0, n1, n2, n3⟩ := blk2 hN1
  have HT1 := Lib.hid hT1; have HF1 := Lib.hid hF1
  have hbw := bel_trans HB0.out bN
  have hbw1 := bel_trans HB0.out hb1
  have hz1 := hb1.size
  rw [w0_size] at hz1
  have s1 : w.heap.size < w1.heap.size := by omega
  have s2 : w.heap.size + 1 < w1.heap.size := by omega
  clear hT1 hF1 hN1 bN hb1
  go_wp2_with fail
  refine (HI1.out _).mono ?_
  rintro e w' ⟨rfl, rfl⟩
  go_wp2_with fail
  refine (HN.out _).mono ?_
  rintro e w' ⟨rfl, rfl⟩
  go_wp2_with fail
  refine (HC.out _).mono ?_
  rintro e w' ⟨rfl, rfl⟩
  go_wp2_with fail
  refine (HN2.out _).mono ?_
  rintro e w' ⟨rfl, rfl⟩
  go_wp2_with fail
  refine (HE.out _).mono ?_
  rintro e w' ⟨rfl, rfl⟩
  go_wp2_with fail
  refine (bad_any _ _ _).mono ?_
  rintro e w2 ⟨rfl, hb2⟩
  obtain ⟨⟨t0', t1', t2', t3', t4'⟩, f0', f1', f2', f3', f4'⟩ := blk5 (keepL HT1.out hb2)
  obtain ⟨q0', q1', q2', q3'⟩ := blk2 (keepL HF1.out hb2)
  have hbz := bel_trans hbw hb2
  go_wp2_with fail
  refine bodyPost_ret (v := .tuple #[tv 0 0 nls 0 0, .int .i64 0, fv 7 ((i : Int) + 1)]) ?_ rfl ⟨rfl, ?_, .inr (.inr rfl)⟩
  · rw [results_ctc rfl]; go_simp
  · repeat' (first | with_reducible exact hbz | with_reducible refine Below.drew ?_ | with_reducible refine Below.setCell ?_ ?_ _ | (simp; done))
set_option maxHeartbeats 2000000 in
set_option maxRecDepth 100000 in
theorem rb_c3 (ht : bt s (i + 1) ≠ 126) (h0 : 0 < dg s (i + 1)) (hc : bt s (i + 1 + dg s (i + 1)) = 44) (hm : dg s (i + 1 + dg s (i + 1) + 1) = 0) (he : bt s (i + 1 + dg s (i + 1) + 1) = 125) (hn : ¬ 255 < num s (i + 1)) : Calls Tryz.prog 71 #[.string s, .int .i64 (i : Int)] w (RetB i (.ok (6, num s (i + 1), -1, i + 1 + dg s (i + 1) + 1 + 1)) w) := by
  have HT := Lib.hid (w0_tok w)
  have HF := Lib.hid (w0_fault w)
  have HB0 := Lib.hid (w0_below w)
  have hi' := hi
  have HI1 := Lib.hid (is_at (s := s) (i := i + 1) (c := 126) (b := false) (by rw [decide_eq_false ht]) (by omega) (show ((i + 1 : Nat) : Int) = (i : Int) + 1 by omega))
  obtain ⟨V, hV⟩ : ∃ V, V = min (num s (i + 1)) 100000 := ⟨_, rfl⟩
  have HN := Lib.hid (num_at (s := s) (i := i + 1) (by omega) hs hV rfl (show ((i + 1 : Nat) : Int) = (i : Int) + 1 by omega))
  have hfit := dg_fit s _ (i + 1) (Nat.le_refl _) (by omega)
  have e0 : ((dg s (i + 1) : Int) == 0) = false := beq_eq_false_iff_ne.2 (by omega)
  have hp1 : i + 1 + dg s (i + 1) < s.size := bt_in (by omega)
  have HC := Lib.hid (is_at (s := s) (i := i + 1 + dg s (i + 1)) (c := 44) (b := true) (by rw [decide_eq_true hc]) (by omega) (show ((i + 1 + dg s (i + 1) : Nat) : Int) = (i : Int) + 1 + (dg s (i + 1) : Int) by omega))
  obtain ⟨U2, hU2⟩ : ∃ U2, U2 = min (num s (i + 1 + dg s (i + 1) + 1)) 100000 := ⟨_, rfl⟩
  have HN2 := Lib.hid (num_at (s := s) (i := i + 1 + dg s (i + 1) + 1) (by omega) hs hU2 rfl (show ((i + 1 + dg s (i + 1) + 1 : Nat) : Int) = (i : Int) + 1 + (dg s (i + 1) : Int) + 1 by omega))
  have hfit2 := dg_fit s _ (i + 1 + dg s (i + 1) + 1) (Nat.le_refl _) (by omega)
  rw [hm] at HN2 hfit2
  have HE := Lib.hid (is_at (s := s) (i := i + 1 + dg s (i + 1) + 1) (c := 125) (b := true) (by rw [decide_eq_true he]) (by omega) (show ((i + 1 + dg s (i + 1) + 1 : Nat) : Int) = (i : Int) + 1 + (dg s (i + 1) : Int) + 1 + 0 by omega))
  rw [Int.add_zero] at HE
  obtain rfl : V = num s (i + 1) := by omega
  have d9 : decide ((255 : Int) < (num s (i + 1) : Int)) = false := decide_eq_false (by omega)
  generalize num s (i + 1) = V at *
  clear hV hU2 hc he hn hm
  clear ht 
  generalize dg s (i + 1) = d at *
  go_enter Tryz.func71, Tryz.ntmps71
  go_wp2_with fail
  refine (bad_any 4 (i : Int) _).mono ?_
  rintro e w1 ⟨rfl, hb1⟩
  have bN := hb1.alloc (by have := hb1.size; omega) (.cells #[.int .i64 4, .int .i64 (i : Int)] 34)
  have hT1 := keepL HT.out bN
  have hF1 := keepL HF.out bN
  have hN1 := heap_new w1 (.cells #[.int .i64 4, .int .i64 (i : Int)] 34)
  obtain ⟨⟨t0, t1, t2, t3, t4⟩, f0, f1, f2, f3, f4⟩ := blk5 (keepL HT.out hb1)
  obtain ⟨q0, q1, q2, q3⟩ := blk2 (keepL HF.out hb1)
  obtain ⟨n0, n1, n2, n3⟩ := blk2 hN1
  have HT1 := Lib.hid hT1; have HF1 := Lib.hid hF1
  have hbw := bel_trans HB0.out bN
  have hbw1 := bel_trans HB0.out hb1
  have hz1 := hb1.size
  rw [w0_size] at hz1
  have s1 : w.heap.size < w1.heap.size := by omega
  have s2 : w.heap.size + 1 < w1.heap.size := by omega
  clear hT1 hF1 hN1 bN hb1
  go_wp2_with fail
  refine (HI1.out _).mono ?_
  rintro e w' ⟨rfl, rfl⟩
  go_wp2_with fail
  refine (HN.out _).mono ?_
  rintro e w' ⟨rfl, rfl⟩
  go_wp2_with fail
  refine (HC.out _).mono ?_
  rintro e w' ⟨rfl, rfl⟩
  go_wp2_with fail
  refine (HN2.out _).mono ?_
  rintro e w' ⟨rfl, rfl⟩
  go_wp2_with fail
  refine (HE.out _).mono ?_
  rintro e w' ⟨rfl, rfl⟩
  go_wp2_with fail
  refine bodyPost_ret (v := .tuple #[tv 6 (i : Int) nls (V : Int) (-1), .int .i64 ((i : Int) + 1 + (d : Int) + 1 + 1 - (i : Int)), fv 0 0]) ?_ rfl ⟨by rw [show (((i + 1 + d + 1 + 1 : Nat) : Int) - (i : Int)) = (i : Int) + 1 + (d : Int) + 1 + 1 - (i : Int) by omega], ?_⟩
  · rw [results_ctc rfl]; go_simp
  · repeat' (first | with_reducible exact hbw | with_reducible exact hbw1 | with_reducible refine Below.drew ?_ | with_reducible refine Below.alloc ?_ ?_ _ | with_reducible refine Below.setCell ?_ ?_ _ | (simp; done) | (simp; omega))
set_option maxHeartbeats 2000000 in
set_option maxRecDepth 100000 in
theorem rb_d1 (ht : bt s (i + 1) ≠ 126) (h0 : 0 < dg s (i + 1)) (hc : bt s (i + 1 + dg s (i + 1)) = 44) (hm : 0 < dg s (i + 1 + dg s (i + 1) + 1)) (he : bt s (i + 1 + dg s (i + 1) + 1 + dg s (i + 1 + dg s (i + 1) + 1)) ≠ 125) : Calls Tryz.prog 71 #[.string s, .int .i64 (i : Int)] w (RetB i (.error (4, i)) w) := by
  have HT := Lib.hid (w0_tok w)
  have HF := Lib.hid (w0_fault w)
  have HB0 := Lib.hid (w0_below w)
  have hi' := hi
  have HI1 := Lib.hid (is_at (s := s) (i := i + 1) (c := 126) (b := false) (by rw [decide_eq_false ht]) (by omega) (show ((i + 1 : Nat) : Int) = (i : Int) + 1 by omega))
  obtain ⟨V, hV⟩ : ∃ V, V = min (num s (i + 1)) 100000 := ⟨_, rfl⟩
  have HN := Lib.hid (num_at (s := s) (i := i + 1) (by omega) hs hV rfl (show ((i + 1 : Nat) : Int) = (i : Int) + 1 by omega))
  have hfit := dg_fit s _ (i + 1) (Nat.le_refl _) (by omega)
  have e0 : ((dg s (i + 1) : Int) == 0) = false := beq_eq_false_iff_ne.2 (by omega)
  have hp1 : i + 1 + dg s (i + 1) < s.size := bt_in (by omega)
  have HC := Lib.hid (is_at (s := s) (i := i + 1 + dg s (i + 1)) (c := 44) (b := true) (by rw [decide_eq_true hc]) (by omega) (show ((i + 1 + dg s (i + 1) : Nat) : Int) = (i : Int) + 1 + (dg s (i + 1) : Int) by omega))
  obtain ⟨U2, hU2⟩ : ∃ U2, U2 = min (num s (i + 1 + dg s (i + 1) + 1)) 100000 := ⟨_, rfl⟩
  have HN2 := Lib.hid (num_at (s := s) (i := i + 1 + dg s (i + 1) + 1) (by omega) hs hU2 rfl (show ((i + 1 + dg s (i + 1) + 1 : Nat) : Int) = (i : Int) + 1 + (dg s (i + 1) : Int) + 1 by omega))
  have hfit2 := dg_fit s _ (i + 1 + dg s (i + 1) + 1) (Nat.le_refl _) (by omega)
  have e9 : ((dg s (i + 1 + dg s (i + 1) + 1) : Int) == 0) = false := beq_eq_false_iff_ne.2 (by omega)
  have d8 : decide (0 < dg s (i + 1 + dg s (i + 1) + 1)) = true := decide_eq_true hm
  have HE := Lib.hid (is_at (s := s) (i := i + 1 + dg s (i + 1) + 1 + dg s (i + 1 + dg s (i + 1) + 1)) (c := 125) (b := false) (by rw [decide_eq_false he]) (by omega) (show ((i + 1 + dg s (i + 1) + 1 + dg s (i + 1 + dg s (i + 1) + 1) : Nat) : Int) = (i : Int) + 1 + (dg s (i + 1) : Int) + 1 + (dg s (i + 1 + dg s (i + 1) + 1) : Int) by omega))
  clear hV hU2 hc he
  generalize dg s (i + 1 + dg s (i + 1) + 1) = d2 at *
  clear ht 
  generalize dg s (i + 1) = d at *
  go_enter Tryz.func71, Tryz.ntmps71
  go_wp2_with fail
  refine (bad_any 4 (i : Int) _).mono ?_
  rintro e w1 ⟨rfl, hb1⟩
  have bN := hb1.alloc (by have := hb1.size; omega) (.cells #[.int .i64 4, .int .i64 (i : Int)] 34)
  have hT1 := keepL HT.out bN
  have hF1 := keepL HF.out bN
  have hN1 := heap_new w1 (.cells #[.int .i64 4, .int .i64 (i : Int)] 34)
  obtain ⟨⟨t0, t1, t2, t3, t4⟩, f0, f1, f2, f3, f4⟩ := blk5 (keepL HT.out hb1)
  obtain ⟨q0, q1, q2, q3⟩ := blk2 (keepL HF.out hb1)
  obtain ⟨n0, n1, n2, n3⟩ := blk2 hN1
  have HT1 := Lib.hid hT1; have HF1 := Lib.hid hF1
  have hbw := bel_trans HB0.out bN
  have hbw1 := bel_trans HB0.out hb1
  have hz1 := hb1.size
  rw [w0_size] at hz1
  have s1 : w.heap.size < w1.heap.size := by omega
  have s2 : w.heap.size + 1 < w1.heap.size := by omega
  clear hT1 hF1 hN1 bN hb1
  go_wp2_with fail
  refine (HI1.out _).mono ?_
  rintro e w' ⟨rfl, rfl⟩
  go_wp2_with fail
  refine (HN.out _).mono ?_
  rintro e w' ⟨rfl, rfl⟩
  go_wp2_with fail
  refine (HC.out _).mono ?_
  rintro e w' ⟨rfl, rfl⟩
  go_wp2_with fail
  refine (HN2.out _).mono ?_
  rintro e w' ⟨rfl, rfl⟩
  go_wp2_with fail
  refine (HE.out _).mono ?_
  rintro e w' ⟨rfl, rfl⟩
  go_wp2_with fail
  go_region
  all_goals (
    go_wp2_with fail
    refine bodyPost_ret (v := .tuple #[tv 0 0 nls 0 0, .int .i64 0, fv 4 (i : Int)]) ?_ rfl ⟨rfl, ?_, .inl rfl⟩
    · rw [results_ctc rfl]; go_simp
    · repeat' (first | with_reducible exact hbw | with_reducible exact hbw1 | with_reducible refine Below.drew ?_ | with_reducible refine Below.alloc ?_ ?_ _ | with_reducible refine Below.setCell ?_ ?_ _ | (simp; done) | (simp; omega)))
set_option maxHeartbeats 2000000 in
set_option maxRecDepth 100000 in
theorem rb_d2 (ht : bt s (i + 1) ≠ 126) (h0 : 0 < dg s (i + 1)) (hc : bt s (i + 1 + dg s (i + 1)) = 44) (hm : 0 < dg s (i + 1 + dg s (i + 1) + 1)) (he : bt s (i + 1 + dg s (i + 1) + 1 + dg s (i + 1 + dg s (i + 1) + 1)) = 125) (hn : 255 < num s (i + 1)) : Calls Tryz.prog 71 #[.string s, .int .i64 (i : Int)] w (RetB i (.error (7, i + 1)) w) := by
  have HT := Lib.hid (w0_tok w)
  have HF := Lib.hid (w0_fault w)
  have HB0 := Lib.hid (w0_below w)
  have hi' := hi
  have HI1 := Lib.hid (is_at (s := s) (i := i + 1) (c := 126) (b := false) (by rw [decide_eq_false ht]) (by omega) (show ((i + 1 : Nat) : Int) = (i : Int) + 1 by omega))
  obtain ⟨V, hV⟩ : ∃ V, V = min (num s (i + 1)) 100000 := ⟨_, rfl⟩
  have HN := Lib.hid (num_at (s := s) (i := i + 1) (by omega) hs hV rfl (show ((i + 1 : Nat) : Int) = (i : Int) + 1 by omega))
  have hfit := dg_fit s _ (i + 1) (Nat.le_refl _) (by omega)
  have e0 : ((dg s (i + 1) : Int) == 0) = false := beq_eq_false_iff_ne.2 (by omega)
  have hp1 : i + 1 + dg s (i + 1) < s.size := bt_in (by omega)
  have HC := Lib.hid (is_at (s := s) (i := i + 1 + dg s (i + 1)) (c := 44) (b := true) (by rw [decide_eq_true hc]) (by omega) (show ((i + 1 + dg s (i + 1) : Nat) : Int) = (i : Int) + 1 + (dg s (i + 1) : Int) by omega))
  obtain ⟨U2, hU2⟩ : ∃ U2, U2 = min (num s (i + 1 + dg s (i + 1) + 1)) 100000 := ⟨_, rfl⟩
  have HN2 := Lib.hid (num_at (s := s) (i := i + 1 + dg s (i + 1) + 1) (by omega) hs hU2 rfl (show ((i + 1 + dg s (i + 1) + 1 : Nat) : Int) = (i : Int) + 1 + (dg s (i + 1) : Int) + 1 by omega))
  have hfit2 := dg_fit s _ (i + 1 + dg s (i + 1) + 1) (Nat.le_refl _) (by omega)
  have e9 : ((dg s (i + 1 + dg s (i + 1) + 1) : Int) == 0) = false := beq_eq_false_iff_ne.2 (by omega)
  have d8 : decide (0 < dg s (i + 1 + dg s (i + 1) + 1)) = true := decide_eq_true hm
  have HE := Lib.hid (is_at (s := s) (i := i + 1 + dg s (i + 1) + 1 + dg s (i + 1 + dg s (i + 1) + 1)) (c := 125) (b := true) (by rw [decide_eq_true he]) (by omega) (show ((i + 1 + dg s (i + 1) + 1 + dg s (i + 1 + dg s (i + 1) + 1) : Nat) : Int) = (i : Int) + 1 + (dg s (i + 1) : Int) + 1 + (dg s (i + 1 + dg s (i + 1) + 1) : Int) by omega))
  have d9 : decide ((255 : Int) < (V : Int)) = true := decide_eq_true (by omega)
  clear hn
  clear hV hU2 hc he
  generalize dg s (i + 1 + dg s (i + 1) + 1) = d2 at *
  clear ht 
  generalize dg s (i + 1) = d at *
  go_enter Tryz.func71, Tryz.ntmps71
  go_wp2_with fail
  refine (bad_any 4 (i : Int) _).mono ?_
  rintro e w1 ⟨rfl, hb1⟩
  have bN := hb1.alloc (by have := hb1.size; omega) (.cells #[.int .i64 4, .int .i64 (i : Int)] 34)
  have hT1 := keepL HT.out bN
  have hF1 := keepL HF.out bN
  have hN1 := heap_new w1 (.cells #[.int .i64 4, .int .i64 (i : Int)] 34)
  obtain ⟨⟨t0, t1, t2, t3, t4⟩, f0, f1, f2, f3, f4⟩ := blk5 (keepL HT.out hb1)
  obtain ⟨q0, q1, q2, q3⟩ := blk2 (keepL HF.out hb1)
  obtain ⟨n0, n1, n2, n3⟩ := blk2 hN1
  have HT1 := Lib.hid hT1; have HF1 := Lib.hid hF1
  have hbw := bel_trans HB0.out bN
  have hbw1 := bel_trans HB0.out hb1
  have hz1 := hb1.size
  rw [w0_size] at hz1
  have s1 : w.heap.size < w1.heap.size := by omega
  have s2 : w.heap.size + 1 < w1.heap.size := by omega
  clear hT1 hF1 hN1 bN hb1
  go_wp2_with fail
  refine (HI1.out _).mono ?_
  rintro e w' ⟨rfl, rfl⟩
  go_wp2_with fail
  refine (HN.out _).mono ?_
  rintro e w' ⟨rfl, rfl⟩
  go_wp2_with fail
  refine (HC.out _).mono ?_
  rintro e w' ⟨rfl, rfl⟩
  go_wp2_with fail
  refine (HN2.out _).mono ?_
  rintro e w' ⟨rfl, rfl⟩
  go_wp2_with fail
  refine (HE.out _).mono ?_
  rintro e w' ⟨rfl, rfl⟩
  go_wp2_with fail
  refine (bad_any _ _ _).mono ?_
  rintro e w2 ⟨rfl, hb2⟩
  obtain ⟨⟨t0', t1', t2', t3', t4'⟩, f0', f1', f2', f3', f4'⟩ := blk5 (keepL HT1.out hb2)
  obtain ⟨q0', q1', q2', q3'⟩ := blk2 (keepL HF1.out hb2)
  have hbz := bel_trans hbw hb2
  go_wp2_with fail
  refine bodyPost_ret (v := .tuple #[tv 0 0 nls 0 0, .int .i64 0, fv 7 ((i : Int) + 1)]) ?_ rfl ⟨rfl, ?_, .inr (.inr rfl)⟩
  · rw [results_ctc rfl]; go_simp
  · repeat' (first | with_reducible exact hbz | with_reducible refine Below.drew ?_ | with_reducible refine Below.setCell ?_ ?_ _ | (simp; done))
set_option maxHeartbeats 2000000 in
set_option maxRecDepth 100000 in
theorem rb_d3 (ht : bt s (i + 1) ≠ 126) (h0 : 0 < dg s (i + 1)) (hc : bt s (i + 1 + dg s (i + 1)) = 44) (hm : 0 < dg s (i + 1 + dg s (i + 1) + 1)) (he : bt s (i + 1 + dg s (i + 1) + 1 + dg s (i + 1 + dg s (i + 1) + 1)) = 125) (hn : ¬ 255 < num s (i + 1)) (hb : 255 < num s (i + 1 + dg s (i + 1) + 1) ∨ num s (i + 1 + dg s (i + 1) + 1) < num s (i + 1)) : Calls Tryz.prog 71 #[.string s, .int .i64 (i : Int)] w (RetB i (.error (7, i + 1 + dg s (i + 1) + 1)) w) := by
  have HT := Lib.hid (w0_tok w)
  have HF := Lib.hid (w0_fault w)
  have HB0 := Lib.hid (w0_below w)
  have hi' := hi
  have HI1 := Lib.hid (is_at (s := s) (i := i + 1) (c := 126) (b := false) (by rw [decide_eq_false ht]) (by omega) (show ((i + 1 : Nat) : Int) = (i : Int) + 1 by omega))
  obtain ⟨V, hV⟩ : ∃ V, V = min (num s (i + 1)) 100000 := ⟨_, rfl⟩
  have HN := Lib.hid (num_at (s := s) (i := i + 1) (by omega) hs hV rfl (show ((i + 1 : Nat) : Int) = (i : Int) + 1 by omega))
  have hfit := dg_fit s _ (i + 1) (Nat.le_refl _) (by omega)
  have e0 : ((dg s (i + 1) : Int) == 0) = false := beq_eq_false_iff_ne.2 (by omega)
  have hp1 : i + 1 + dg s (i + 1) < s.size := bt_in (by omega)
  have HC := Lib.hid (is_at (s := s) (i := i + 1 + dg s (i + 1)) (c := 44) (b := true) (by rw [decide_eq_true hc]) (by omega) (show ((i + 1 + dg s (i + 1) : Nat) : Int) = (i : Int) + 1 + (dg s (i + 1) : Int) by omega))
  obtain ⟨U2, hU2⟩ : ∃ U2, U2 = min (num s (i + 1 + dg s (i + 1) + 1)) 100000 := ⟨_, rfl⟩
  have HN2 := Lib.hid (num_at (s := s) (i := i + 1 + dg s (i + 1) + 1) (by omega) hs hU2 rfl (show ((i + 1 + dg s (i + 1) + 1 : Nat) : Int) = (i : Int) + 1 + (dg s (i + 1) : Int) + 1 by omega))
  have hfit2 := dg_fit s _ (i + 1 + dg s (i + 1) + 1) (Nat.le_refl _) (by omega)
  have e9 : ((dg s (i + 1 + dg s (i + 1) + 1) : Int) == 0) = false := beq_eq_false_iff_ne.2 (by omega)
  have d8 : decide (0 < dg s (i + 1 + dg s (i + 1) + 1)) = true := decide_eq_true hm
  have HE := Lib.hid (is_at (s := s) (i := i + 1 + dg s (i + 1) + 1 + dg s (i + 1 + dg s (i + 1) + 1)) (c := 125) (b := true) (by rw [decide_eq_true he]) (by omega) (show ((i + 1 + dg s (i + 1) + 1 + dg s (i + 1 + dg s (i + 1) + 1) : Nat) : Int) = (i : Int) + 1 + (dg s (i + 1) : Int) + 1 + (dg s (i + 1 + dg s (i + 1) + 1) : Int) by omega))
  obtain rfl : V = num s (i + 1) := by omega
  have d9 : decide ((255 : Int) < (num s (i + 1) : Int)) = false := decide_eq_false (by omega)
  have hbb : decide ((255 : Int) < (U2 : Int)) = true ∨ (decide ((255 : Int) < (U2 : Int)) = false ∧ decide (U2 < num s (i + 1)) = true) := by
    by_cases h : 255 < num s (i + 1 + dg s (i + 1) + 1)
    · left; exact decide_eq_true (by omega)
    · right; exact ⟨decide_eq_false (by omega), decide_eq_true (by omega)⟩
  clear hn hb
  generalize num s (i + 1) = V at *
  clear hV hU2 hc he
  generalize dg s (i + 1 + dg s (i + 1) + 1) = d2 at *
  clear ht 
  generalize dg s (i + 1) = d at *
  rcases hbb with d7 | ⟨d7, d6⟩
  all_goals (
    go_enter Tryz.func71, Tryz.ntmps71
    go_wp2_with fail
    refine (bad_any 4 (i : Int) _).mono ?_
    rintro e w1 ⟨rfl, hb1⟩
    have bN := hb1.alloc (by have := hb1.size; omega) (.cells #[.int .i64 4, .int .i64 (i : Int)] 34)
    have hT1 := keepL HT.out bN
    have hF1 := keepL HF.out bN
    have hN1 := heap_new w1 (.cells #[.int .i64 4, .int .i64 (i : Int)] 34)
    obtain ⟨⟨t0, t1, t2, t3, t4⟩, f0, f1, f2, f3, f4⟩ := blk5 (keepL HT.out hb1)
    obtain ⟨q0, q1, q2, q3⟩ := blk2 (keepL HF.out hb1)
    obtain ⟨n0, n1, n2, n3⟩ := blk2 hN1
    have HT1 := Lib.hid hT1; have HF1 := Lib.hid hF1
    have hbw := bel_trans HB0.out bN
    have hbw1 := bel_trans HB0.out hb1
    have hz1 := hb1.size
    rw [w0_size] at hz1
    have s1 : w.heap.size < w1.heap.size := by omega
    have s2 : w.heap.size + 1 < w1.heap.size := by omega
    clear hT1 hF1 hN1 bN hb1
    go_wp2_with fail
    refine (HI1.out _).mono ?_
    rintro e w' ⟨rfl, rfl⟩
    go_wp2_with fail
    refine (HN.out _).mono ?_
    rintro e w' ⟨rfl, rfl⟩
    go_wp2_with fail
    refine (HC.out _).mono ?_
    rintro e w' ⟨rfl, rfl⟩
    go_wp2_with fail
    refine (HN2.out _).mono ?_
    rintro e w' ⟨rfl, rfl⟩
    go_wp2_with fail
    refine (HE.out _).mono ?_
    rintro e w' ⟨rfl, rfl⟩
    go_wp2_with fail
    refine (bad_any _ _ _).mono ?_
    rintro e w2 ⟨rfl, hb2⟩
    obtain ⟨⟨t0', t1', t2', t3', t4'⟩, f0', f1', f2', f3', f4'⟩ := blk5 (keepL HT1.out hb2)
    obtain ⟨q0', q1', q2', q3'⟩ := blk2 (keepL HF1.out hb2)
    have hbz := bel_trans hbw hb2
    go_wp2_with fail
    refine bodyPost_ret (v := .tuple #[tv 0 0 nls 0 0, .int .i64 0, fv 7 ((i : Int) + 1 + (d : Int) + 1)]) ?_ rfl ⟨rfl, ?_, .inr (.inr rfl)⟩
    · rw [results_ctc rfl]; go_simp
    · repeat' (first | with_reducible exact hbz | with_reducible refine Below.drew ?_ | with_reducible refine Below.setCell ?_ ?_ _ | (simp; done)))
set_option maxHeartbeats 2000000 in
set_option maxRecDepth 100000 in
theorem rb_d4 (ht : bt s (i + 1) ≠ 126) (h0 : 0 < dg s (i + 1)) (hc : bt s (i + 1 + dg s (i + 1)) = 44) (hm : 0 < dg s (i + 1 + dg s (i + 1) + 1)) (he : bt s (i + 1 + dg s (i + 1) + 1 + dg s (i + 1 + dg s (i + 1) + 1)) = 125) (hn : ¬ 255 < num s (i + 1)) (hb : ¬ (255 < num s (i + 1 + dg s (i + 1) + 1) ∨ num s (i + 1 + dg s (i + 1) + 1) < num s (i + 1))) : Calls Tryz.prog 71 #[.string s, .int .i64 (i : Int)] w (RetB i (.ok (6, num s (i + 1), num s (i + 1 + dg s (i + 1) + 1), i + 1 + dg s (i + 1) + 1 + dg s (i + 1 + dg s (i + 1) + 1) + 1)) w) := by
  have HT := Lib.hid (w0_tok w)
  have HF := Lib.hid (w0_fault w)
  have HB0 := Lib.hid (w0_below w)
  have hi' := hi
  have HI1 := Lib.hid (is_at (s := s) (i := i + 1) (c := 126) (b := false) (by rw [decide_eq_false ht]) (by omega) (show ((i + 1 : Nat) : Int) = (i : Int) + 1 by omega))
  obtain ⟨V, hV⟩ : ∃ V, V = min (num s (i + 1)) 100000 := ⟨_, rfl⟩
  have HN := Lib.hid (num_at (s := s) (i := i + 1) (by omega) hs hV rfl (show ((i + 1 : Nat) : Int) = (i : Int) + 1 by omega))
  have hfit := dg_fit s _ (i + 1) (Nat.le_refl _) (by omega)
  have e0 : ((dg s (i + 1) : Int) == 0) = false := beq_eq_false_iff_ne.2 (by omega)
  have hp1 : i + 1 + dg s (i + 1) < s.size := bt_in (by omega)
  have HC := Lib.hid (is_at (s := s) (i := i + 1 + dg s (i + 1)) (c := 44) (b := true) (by rw [decide_eq_true hc]) (by omega) (show ((i + 1 + dg s (i + 1) : Nat) : Int) = (i : Int) + 1 + (dg s (i + 1) : Int) by omega))
  obtain ⟨U2, hU2⟩ : ∃ U2, U2 = min (num s (i + 1 + dg s (i + 1) + 1)) 100000 := ⟨_, rfl⟩
  have HN2 := Lib.hid (num_at (s := s) (i := i + 1 + dg s (i + 1) + 1) (by omega) hs hU2 rfl (show ((i + 1 + dg s (i + 1) + 1 : Nat) : Int) = (i : Int) + 1 + (dg s (i + 1) : Int) + 1 by omega))
  have hfit2 := dg_fit s _ (i + 1 + dg s (i + 1) + 1) (Nat.le_refl _) (by omega)
  have e9 : ((dg s (i + 1 + dg s (i + 1) + 1) : Int) == 0) = false := beq_eq_false_iff_ne.2 (by omega)
  have d8 : decide (0 < dg s (i + 1 + dg s (i + 1) + 1)) = true := decide_eq_true hm
  have HE := Lib.hid (is_at (s := s) (i := i + 1 + dg s (i + 1) + 1 + dg s (i + 1 + dg s (i + 1) + 1)) (c := 125) (b := true) (by rw [decide_eq_true he]) (by omega) (show ((i + 1 + dg s (i + 1) + 1 + dg s (i + 1 + dg s (i + 1) + 1) : Nat) : Int) = (i : Int) + 1 + (dg s (i + 1) : Int) + 1 + (dg s (i + 1 + dg s (i + 1) + 1) : Int) by omega))
  obtain rfl : V = num s (i + 1) := by omega
  have d9 : decide ((255 : Int) < (num s (i + 1) : Int)) = false := decide_eq_false (by omega)
  obtain rfl : U2 = num s (i + 1 + dg s (i + 1) + 1) := by omega
  have d7 : decide ((255 : Int) < (num s (i + 1 + dg s (i + 1) + 1) : Int)) = false := decide_eq_false (by omega)
  have d6 : decide (num s (i + 1 + dg s (i + 1) + 1) < num s (i + 1)) = false := decide_eq_false (by omega)
  clear hn hb
  generalize num s (i + 1) = V at *
  generalize num s (i + 1 + dg s (i + 1) + 1) = U2 at *
  clear hV hU2 hc he
  generalize dg s (i + 1 + dg s (i + 1) + 1) = d2 at *
  clear ht 
  generalize dg s (i + 1) = d at *
  go_enter Tryz.func71, Tryz.ntmps71
  go_wp2_with fail
  refine (bad_any 4 (i : Int) _).mono ?_
  rintro e w1 ⟨rfl, hb1⟩
  have bN := hb1.alloc (by have := hb1.size; omega) (.cells #[.int .i64 4, .int .i64 (i : Int)] 34)
  have hT1 := keepL HT.out bN
  have hF1 := keepL HF.out bN
  have hN1 := heap_new w1 (.cells #[.int .i64 4, .int .i64 (i : Int)] 34)
  obtain ⟨⟨t0, t1, t2, t3, t4⟩, f0, f1, f2, f3, f4⟩ := blk5 (keepL HT.out hb1)
  obtain ⟨q0, q1, q2, q3⟩ := blk2 (keepL HF.out hb1)
  obtain ⟨n0, n1, n2, n3⟩ := blk2 hN1
  have HT1 := Lib.hid hT1; have HF1 := Lib.hid hF1
  have hbw := bel_trans HB0.out bN
  have hbw1 := bel_trans HB0.out hb1
  have hz1 := hb1.size
  rw [w0_size] at hz1
  have s1 : w.heap.size < w1.heap.size := by omega
  have s2 : w.heap.size + 1 < w1.heap.size := by omega
  clear hT1 hF1 hN1 bN hb1
  go_wp2_with fail
  refine (HI1.out _).mono ?_
  rintro e w' ⟨rfl, rfl⟩
  go_wp2_with fail
  refine (HN.out _).mono ?_
  rintro e w' ⟨rfl, rfl⟩
  go_wp2_with fail
  refine (HC.out _).mono ?_
  rintro e w' ⟨rfl, rfl⟩
  go_wp2_with fail
  refine (HN2.out _).mono ?_
  rintro e w' ⟨rfl, rfl⟩
  go_wp2_with fail
  refine (HE.out _).mono ?_
  rintro e w' ⟨rfl, rfl⟩
  go_wp2_with fail
  refine bodyPost_ret (v := .tuple #[tv 6 (i : Int) nls (V : Int) (U2 : Int), .int .i64 ((i : Int) + 1 + (d : Int) + 1 + (d2 : Int) + 1 - (i : Int)), fv 0 0]) ?_ rfl ⟨by rw [show (((i + 1 + d + 1 + d2 + 1 : Nat) : Int) - (i : Int)) = (i : Int) + 1 + (d : Int) + 1 + (d2 : Int) + 1 - (i : Int) by omega], ?_⟩
  · rw [results_ctc rfl]; go_simp
  · repeat' (first | with_reducible exact hbw | with_reducible exact hbw1 | with_reducible refine Below.drew ?_ | with_reducible refine Below.alloc ?_ ?_ _ | with_reducible refine Below.setCell ?_ ?_ _ | (simp; done) | (simp; omega))
end
end Go.Proofs.YtceeimolfalmpaaGreatDoor

namespace Go.Proofs.YtceeimolfalmpaaGreatDoor
open Go.RowKit ObUtf ObSets ObLex
theorem rbraces_any {s : ByteArray} {i : Nat} (w : World) (hs : s.size ≤ 100000) (hi : i < s.size) : Calls Tryz.prog 71 #[.string s, .int .i64 (i : Int)] w (RetB i (braces s i) w) := by
  unfold braces
  by_cases ht : bt s (i + 1) = 126
  · rw [if_pos ht]
    by_cases h0 : dg s (i + 2) = 0
    · rw [if_pos (.inl h0)]; exact rb_b0 w hs hi ht h0
    · by_cases he : bt s (i + 2 + dg s (i + 2)) = 125
      · rw [if_neg (by omega)]
        by_cases hn : 255 < num s (i + 2)
        · rw [if_pos hn]; exact rb_b2 w hs hi ht (by omega) he hn
        · rw [if_neg hn]; exact rb_b3 w hs hi ht (by omega) he hn
      · rw [if_pos (.inr he)]; exact rb_b1 w hs hi ht (by omega) he
  · rw [if_neg ht]
    by_cases h0 : dg s (i + 1) = 0
    · rw [if_pos h0]; exact rb_r0 w hs hi ht h0
    · rw [if_neg h0]
      have hd : 0 < dg s (i + 1) := by omega
      dsimp only
      by_cases h44 : bt s (i + 1 + dg s (i + 1)) = 44
      · rw [if_pos h44]
        by_cases hm : dg s (i + 1 + dg s (i + 1) + 1) = 0
        · rw [hm, Nat.add_zero]
          by_cases he : bt s (i + 1 + dg s (i + 1) + 1) = 125
          · rw [if_neg (by omega)]
            by_cases hn : 255 < num s (i + 1)
            · rw [if_pos hn]; exact rb_c2 w hs hi ht hd h44 hm he hn
            · rw [if_neg hn, if_pos rfl]; exact rb_c3 w hs hi ht hd h44 hm he hn
          · rw [if_pos he]; exact rb_c1 w hs hi ht hd h44 hm he
        · have hm' : 0 < dg s (i + 1 + dg s (i + 1) + 1) := by omega
          by_cases he : bt s (i + 1 + dg s (i + 1) + 1 + dg s (i + 1 + dg s (i + 1) + 1)) = 125
          · rw [if_neg (by omega)]
            by_cases hn : 255 < num s (i + 1)
            · rw [if_pos hn]; exact rb_d2 w hs hi ht hd h44 hm' he hn
            · rw [if_neg hn, if_neg hm]
              by_cases hb : 255 < num s (i + 1 + dg s (i + 1) + 1) ∨ num s (i + 1 + dg s (i + 1) + 1) < num s (i + 1)
              · rw [if_pos hb]; exact rb_d3 w hs hi ht hd h44 hm' he hn hb
              · rw [if_neg hb]; exact rb_d4 w hs hi ht hd h44 hm' he hn hb
          · rw [if_pos he]; exact rb_d1 w hs hi ht hd h44 hm' he
      · rw [if_neg h44]
        by_cases he : bt s (i + 1 + dg s (i + 1)) = 125
        · rw [if_pos he]
          by_cases hn : 255 < num s (i + 1)
          · rw [if_pos hn]; exact rb_r2 w hs hi ht hd h44 he hn
          · rw [if_neg hn]; exact rb_r3 w hs hi ht hd h44 he hn
        · rw [if_neg he]; exact rb_r1 w hs hi ht hd h44 he
end Go.Proofs.YtceeimolfalmpaaGreatDoor
