/-
  What the reader's braces answers and leaves, by what its forms answer. Conditions: the reader's block is as it should be and stands at a {; the two tables of unicode/utf8 lie as their text lays them.
-/
import Derived.Test.YtceeimolfalmpaaDoorLE
namespace Go.Proofs.YtceeimolfalmpaaDoor
open Go.RowKit ObUtf ObSets ObLex
section
variable {w : World} {c : Nat} {s : ByteArray} {i : Nat}
set_option maxHeartbeats 2000000 in
set_option maxRecDepth 100000 in
theorem br_bud_no (h : Rd w c s i) (h123 : bt s i = 123) (ht : bt s (i + 1) = 126) (HC : ∀ W, Rd W c s (i + 2) → Calls Tryd.prog 42 #[ptr c] W fun e w' => ∃ k m n er ea : Int, e = .returned (.tuple #[tv k 0 nls m n, fv er ea, .bool false]) ∧ Ex c W w') :
    Calls Tryd.prog 19 #[ptr c] w (RetW (.error (4, i)) c s w) := by
  have hlt := h.lt
  have h2 := h.2.1
  obtain ⟨c0, c1, _⟩ := h.w0.cells
  have HT := Lib.hid (w0_tok w)
  have HF := Lib.hid (w0_fault w)
  have HX0 := Lib.hid (Ex.of (c := c) (w0_below w))
  have HR := Lib.hid h.w0
  have H123 := Lib.hid h123
  have HTI := Lib.hid ht
  have HCC := Lib.hid HC
  clear h h123 ht HC
  go_enter Tryd.func19, Tryd.ntmps19
  go_wp2_with fail
  refine (take_low HR.out H123.out (by omega) (by omega)).mono ?_
  rintro e w1 ⟨rfl, hR1, hx1⟩
  go_wp2_with fail
  refine (skip_yes hR1 126 HTI.out (by omega)).mono ?_
  rintro e w2 ⟨rfl, hR2, hx2⟩
  go_wp2_with fail
  refine (HCC.out _ hR2).mono ?_
  rintro e w3 ⟨k, m, n, er, ea, rfl, hx3⟩
  have hx13 := hx1.trans (hx2.trans hx3)
  have hT3 := keepB HT.out hx13 (by omega)
  have hF3 := keepB HF.out hx13 (by omega)
  have s1 : w.heap.size < w3.heap.size := lt_of_heap hT3
  have s2 : w.heap.size + 1 < w3.heap.size := lt_of_heap hF3
  have hx := HX0.out.trans hx13
  have HT3 := Lib.hid hT3; have HF3 := Lib.hid hF3
  clear hT3 hF3
  go_wp2_with fail
  refine (syntaxAt_any _ _).mono ?_
  rintro e w4 ⟨rfl, hb4⟩
  have b34 : Below w3.heap.size w3 w4 := (((Below.refl w3.heap.size w3).alloc (Nat.le_refl _) _).alloc (by simp) _).trans (hb4.mono (by simp; omega))
  have hT4 := keepL HT3.out b34
  have hF4 := keepL HF3.out b34
  have hx4 := hx.on b34
  obtain ⟨⟨t0, t1, t2, t3, t4⟩, f0, f1, f2, f3, f4⟩ := blk5 hT4
  obtain ⟨q0, q1, q2, q3⟩ := blk2 hF4
  go_wp2_with fail
  refine bodyPost_ret (v := .tuple #[tv 0 0 nls 0 0, fv 4 (i : Int)]) ?_ rfl ⟨rfl, ?_, .inl rfl⟩
  · rw [results_cc rfl]; go_simp
  · repeat' (first | with_reducible exact hx4 | with_reducible refine Ex.alloc ?_ _ | with_reducible refine Ex.drew ?_ | refine Ex.set ?_ (by omega) _ _)
set_option maxHeartbeats 2000000 in
set_option maxRecDepth 100000 in
theorem br_bud_fault (h : Rd w c s i) (h123 : bt s i = 123) (ht : bt s (i + 1) = 126) {k m n er : Int} {a q : Nat} (hee : er = 4 ∨ er = 5 ∨ er = 7) (HC : ∀ W, Rd W c s (i + 2) → Calls Tryd.prog 42 #[ptr c] W fun e w' => e = .returned (.tuple #[tv k 0 nls m n, fv er (a : Int), .bool true]) ∧ Rd w' c s q ∧ Ex c W w') :
    Calls Tryd.prog 19 #[ptr c] w (RetW (.error (er, a)) c s w) := by
  have hlt := h.lt
  have h2 := h.2.1
  obtain ⟨c0, c1, _⟩ := h.w0.cells
  have HT := Lib.hid (w0_tok w)
  have HF := Lib.hid (w0_fault w)
  have HX0 := Lib.hid (Ex.of (c := c) (w0_below w))
  have HR := Lib.hid h.w0
  have H123 := Lib.hid h123
  have HTI := Lib.hid ht
  have HCC := Lib.hid HC
  clear h h123 ht HC
  go_enter Tryd.func19, Tryd.ntmps19
  go_wp2_with fail
  refine (take_low HR.out H123.out (by omega) (by omega)).mono ?_
  rintro e w1 ⟨rfl, hR1, hx1⟩
  go_wp2_with fail
  refine (skip_yes hR1 126 HTI.out (by omega)).mono ?_
  rintro e w2 ⟨rfl, hR2, hx2⟩
  go_wp2_with fail
  refine (HCC.out _ hR2).mono ?_
  rintro e w3 ⟨rfl, hR3, hx3⟩
  have hx13 := hx1.trans (hx2.trans hx3)
  have hT3 := keepB HT.out hx13 (by omega)
  have hF3 := keepB HF.out hx13 (by omega)
  have s1 : w.heap.size < w3.heap.size := lt_of_heap hT3
  have s2 : w.heap.size + 1 < w3.heap.size := lt_of_heap hF3
  have hx := HX0.out.trans hx13
  have en : (er != 0) = true := by simp; omega
  obtain ⟨⟨t0, t1, t2, t3, t4⟩, f0, f1, f2, f3, f4⟩ := blk5 hT3
  obtain ⟨q0, q1, q2, q3⟩ := blk2 hF3
  go_wp2_with fail
  go_region
  all_goals (
    go_wp2_with fail
    refine bodyPost_ret (v := .tuple #[tv 0 0 nls 0 0, fv er (a : Int)]) ?_ rfl ⟨rfl, ?_, hee⟩
    · rw [results_cc rfl]; go_simp
    · repeat' (first | with_reducible exact hx | with_reducible refine Ex.alloc ?_ _ | with_reducible refine Ex.drew ?_ | refine Ex.set ?_ (by omega) _ _))
set_option maxHeartbeats 2000000 in
set_option maxRecDepth 100000 in
theorem br_bud_ok (h : Rd w c s i) (h123 : bt s i = 123) (ht : bt s (i + 1) = 126) {k m n : Int} {q : Nat} (HC : ∀ W, Rd W c s (i + 2) → Calls Tryd.prog 42 #[ptr c] W fun e w' => e = .returned (.tuple #[tv k 0 nls m n, fv 0 0, .bool true]) ∧ Rd w' c s q ∧ Ex c W w') :
    Calls Tryd.prog 19 #[ptr c] w (RetW (.ok (⟨k, (i : Int), [], m, n⟩, q)) c s w) := by
  have hlt := h.lt
  have h2 := h.2.1
  obtain ⟨c0, c1, _⟩ := h.w0.cells
  have HT := Lib.hid (w0_tok w)
  have HF := Lib.hid (w0_fault w)
  have HX0 := Lib.hid (Ex.of (c := c) (w0_below w))
  have HR := Lib.hid h.w0
  have H123 := Lib.hid h123
  have HTI := Lib.hid ht
  have HCC := Lib.hid HC
  clear h h123 ht HC
  go_enter Tryd.func19, Tryd.ntmps19
  go_wp2_with fail
  refine (take_low HR.out H123.out (by omega) (by omega)).mono ?_
  rintro e w1 ⟨rfl, hR1, hx1⟩
  go_wp2_with fail
  refine (skip_yes hR1 126 HTI.out (by omega)).mono ?_
  rintro e w2 ⟨rfl, hR2, hx2⟩
  go_wp2_with fail
  refine (HCC.out _ hR2).mono ?_
  rintro e w3 ⟨rfl, hR3, hx3⟩
  have hx13 := hx1.trans (hx2.trans hx3)
  have hT3 := keepB HT.out hx13 (by omega)
  have hF3 := keepB HF.out hx13 (by omega)
  have s1 : w.heap.size < w3.heap.size := lt_of_heap hT3
  have s2 : w.heap.size + 1 < w3.heap.size := lt_of_heap hF3
  have hx := HX0.out.trans hx13
  obtain ⟨⟨t0, t1, t2, t3, t4⟩, f0, f1, f2, f3, f4⟩ := blk5 hT3
  obtain ⟨q0, q1, q2, q3⟩ := blk2 hF3
  go_wp2_with fail
  refine bodyPost_ret (v := .tuple #[tv k 0 nls m n, fv 0 0]) ?_ rfl ⟨none, 0, rfl, S.Ow.nil _ _, ?_, ?_⟩
  · rw [results_cc rfl]; go_simp
  · repeat' (first | with_reducible exact hR3 | with_reducible refine Rd.alloc ?_ _ | with_reducible refine Rd.drew ?_ | refine Rd.set ?_ (by omega) (by omega) _ _)
  · repeat' (first | with_reducible exact hx | with_reducible refine Ex.alloc ?_ _ | with_reducible refine Ex.drew ?_ | refine Ex.set ?_ (by omega) _ _)
set_option maxHeartbeats 2000000 in
set_option maxRecDepth 100000 in
theorem br_rep_no (h : Rd w c s i) (h123 : bt s i = 123) (ht : bt s (i + 1) ≠ 126) (HC : ∀ W, Rd W c s (i + 1) → Calls Tryd.prog 41 #[ptr c] W fun e w' => ∃ k m n er ea : Int, e = .returned (.tuple #[tv k 0 nls m n, fv er ea, .bool false]) ∧ Ex c W w') :
    Calls Tryd.prog 19 #[ptr c] w (RetW (.error (4, i)) c s w) := by
  have hlt := h.lt
  have h2 := h.2.1
  obtain ⟨c0, c1, _⟩ := h.w0.cells
  have HT := Lib.hid (w0_tok w)
  have HF := Lib.hid (w0_fault w)
  have HX0 := Lib.hid (Ex.of (c := c) (w0_below w))
  have HR := Lib.hid h.w0
  have H123 := Lib.hid h123
  have HTI := Lib.hid ht
  have HCC := Lib.hid HC
  clear h h123 ht HC
  go_enter Tryd.func19, Tryd.ntmps19
  go_wp2_with fail
  refine (take_low HR.out H123.out (by omega) (by omega)).mono ?_
  rintro e w1 ⟨rfl, hR1, hx1⟩
  go_wp2_with fail
  refine (skip_no hR1 126 HTI.out).mono ?_
  rintro e w2 ⟨rfl, hR2, hx2⟩
  go_wp2_with fail
  refine (HCC.out _ hR2).mono ?_
  rintro e w3 ⟨k, m, n, er, ea, rfl, hx3⟩
  have hx13 := hx1.trans (hx2.trans hx3)
  have hT3 := keepB HT.out hx13 (by omega)
  have hF3 := keepB HF.out hx13 (by omega)
  have s1 : w.heap.size < w3.heap.size := lt_of_heap hT3
  have s2 : w.heap.size + 1 < w3.heap.size := lt_of_heap hF3
  have hx := HX0.out.trans hx13
  have HT3 := Lib.hid hT3; have HF3 := Lib.hid hF3
  clear hT3 hF3
  go_wp2_with fail
  refine (syntaxAt_any _ _).mono ?_
  rintro e w4 ⟨rfl, hb4⟩
  have b34 : Below w3.heap.size w3 w4 := (((Below.refl w3.heap.size w3).alloc (Nat.le_refl _) _).alloc (by simp) _).trans (hb4.mono (by simp; omega))
  have hT4 := keepL HT3.out b34
  have hF4 := keepL HF3.out b34
  have hx4 := hx.on b34
  obtain ⟨⟨t0, t1, t2, t3, t4⟩, f0, f1, f2, f3, f4⟩ := blk5 hT4
  obtain ⟨q0, q1, q2, q3⟩ := blk2 hF4
  go_wp2_with fail
  refine bodyPost_ret (v := .tuple #[tv 0 0 nls 0 0, fv 4 (i : Int)]) ?_ rfl ⟨rfl, ?_, .inl rfl⟩
  · rw [results_cc rfl]; go_simp
  · repeat' (first | with_reducible exact hx4 | with_reducible refine Ex.alloc ?_ _ | with_reducible refine Ex.drew ?_ | refine Ex.set ?_ (by omega) _ _)
set_option maxHeartbeats 2000000 in
set_option maxRecDepth 100000 in
theorem br_rep_fault (h : Rd w c s i) (h123 : bt s i = 123) (ht : bt s (i + 1) ≠ 126) {k m n er : Int} {a q : Nat} (hee : er = 4 ∨ er = 5 ∨ er = 7) (HC : ∀ W, Rd W c s (i + 1) → Calls Tryd.prog 41 #[ptr c] W fun e w' => e = .returned (.tuple #[tv k 0 nls m n, fv er (a : Int), .bool true]) ∧ Rd w' c s q ∧ Ex c W w') :
    Calls Tryd.prog 19 #[ptr c] w (RetW (.error (er, a)) c s w) := by
  have hlt := h.lt
  have h2 := h.2.1
  obtain ⟨c0, c1, _⟩ := h.w0.cells
  have HT := Lib.hid (w0_tok w)
  have HF := Lib.hid (w0_fault w)
  have HX0 := Lib.hid (Ex.of (c := c) (w0_below w))
  have HR := Lib.hid h.w0
  have H123 := Lib.hid h123
  have HTI := Lib.hid ht
  have HCC := Lib.hid HC
  clear h h123 ht HC
  go_enter Tryd.func19, Tryd.ntmps19
  go_wp2_with fail
  refine (take_low HR.out H123.out (by omega) (by omega)).mono ?_
  rintro e w1 ⟨rfl, hR1, hx1⟩
  go_wp2_with fail
  refine (skip_no hR1 126 HTI.out).mono ?_
  rintro e w2 ⟨rfl, hR2, hx2⟩
  go_wp2_with fail
  refine (HCC.out _ hR2).mono ?_
  rintro e w3 ⟨rfl, hR3, hx3⟩
  have hx13 := hx1.trans (hx2.trans hx3)
  have hT3 := keepB HT.out hx13 (by omega)
  have hF3 := keepB HF.out hx13 (by omega)
  have s1 : w.heap.size < w3.heap.size := lt_of_heap hT3
  have s2 : w.heap.size + 1 < w3.heap.size := lt_of_heap hF3
  have hx := HX0.out.trans hx13
  have en : (er != 0) = true := by simp; omega
  obtain ⟨⟨t0, t1, t2, t3, t4⟩, f0, f1, f2, f3, f4⟩ := blk5 hT3
  obtain ⟨q0, q1, q2, q3⟩ := blk2 hF3
  go_wp2_with fail
  go_region
  all_goals (
    go_wp2_with fail
    refine bodyPost_ret (v := .tuple #[tv 0 0 nls 0 0, fv er (a : Int)]) ?_ rfl ⟨rfl, ?_, hee⟩
    · rw [results_cc rfl]; go_simp
    · repeat' (first | with_reducible exact hx | with_reducible refine Ex.alloc ?_ _ | with_reducible refine Ex.drew ?_ | refine Ex.set ?_ (by omega) _ _))
set_option maxHeartbeats 2000000 in
set_option maxRecDepth 100000 in
theorem br_rep_ok (h : Rd w c s i) (h123 : bt s i = 123) (ht : bt s (i + 1) ≠ 126) {k m n : Int} {q : Nat} (HC : ∀ W, Rd W c s (i + 1) → Calls Tryd.prog 41 #[ptr c] W fun e w' => e = .returned (.tuple #[tv k 0 nls m n, fv 0 0, .bool true]) ∧ Rd w' c s q ∧ Ex c W w') :
    Calls Tryd.prog 19 #[ptr c] w (RetW (.ok (⟨k, (i : Int), [], m, n⟩, q)) c s w) := by
  have hlt := h.lt
  have h2 := h.2.1
  obtain ⟨c0, c1, _⟩ := h.w0.cells
  have HT := Lib.hid (w0_tok w)
  have HF := Lib.hid (w0_fault w)
  have HX0 := Lib.hid (Ex.of (c := c) (w0_below w))
  have HR := Lib.hid h.w0
  have H123 := Lib.hid h123
  have HTI := Lib.hid ht
  have HCC := Lib.hid HC
  clear h h123 ht HC
  go_enter Tryd.func19, Tryd.ntmps19
  go_wp2_with fail
  refine (take_low HR.out H123.out (by omega) (by omega)).mono ?_
  rintro e w1 ⟨rfl, hR1, hx1⟩
  go_wp2_with fail
  refine (skip_no hR1 126 HTI.out).mono ?_
  rintro e w2 ⟨rfl, hR2, hx2⟩
  go_wp2_with fail
  refine (HCC.out _ hR2).mono ?_
  rintro e w3 ⟨rfl, hR3, hx3⟩
  have hx13 := hx1.trans (hx2.trans hx3)
  have hT3 := keepB HT.out hx13 (by omega)
  have hF3 := keepB HF.out hx13 (by omega)
  have s1 : w.heap.size < w3.heap.size := lt_of_heap hT3
  have s2 : w.heap.size + 1 < w3.heap.size := lt_of_heap hF3
  have hx := HX0.out.trans hx13
  obtain ⟨⟨t0, t1, t2, t3, t4⟩, f0, f1, f2, f3, f4⟩ := blk5 hT3
  obtain ⟨q0, q1, q2, q3⟩ := blk2 hF3
  go_wp2_with fail
  refine bodyPost_ret (v := .tuple #[tv k 0 nls m n, fv 0 0]) ?_ rfl ⟨none, 0, rfl, S.Ow.nil _ _, ?_, ?_⟩
  · rw [results_cc rfl]; go_simp
  · repeat' (first | with_reducible exact hR3 | with_reducible refine Rd.alloc ?_ _ | with_reducible refine Rd.drew ?_ | refine Rd.set ?_ (by omega) (by omega) _ _)
  · repeat' (first | with_reducible exact hx | with_reducible refine Ex.alloc ?_ _ | with_reducible refine Ex.drew ?_ | refine Ex.set ?_ (by omega) _ _)
end
end Go.Proofs.YtceeimolfalmpaaDoor
