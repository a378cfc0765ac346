/-
  What the reader's repeatForm answers and leaves. Conditions: the reader's block is as it should be; the two tables of unicode/utf8 lie as their text lays them.
-/
import Derived.Test.YtceeimolfalmpaaDoorLE
namespace Go.Proofs.YtceeimolfalmpaaDoor
open Go.RowKit ObUtf ObSets ObLex
theorem set_past {W : World} {r k b : Nat} {v : Value} {o : Option Obj} (h : W.heap[b]? = o) (hne : b ≠ r) : (W.setCell ⟨r, k, none⟩ v).heap[b]? = o := (Below.heap_setCell _ _ _ _ hne).trans h
theorem seven {w : World} {r q : Nat} {a b d e f x y : Value} {t u : TypeId} (h : w.heap[r]? = some (.cells #[a, b, d, e, f] t (0, 0))) (h' : w.heap[q]? = some (.cells #[x, y] u (0, 0))) : (w.cell? ⟨r, 0, none⟩ = some a ∧ w.cell? ⟨r, 1, none⟩ = some b ∧ w.cell? ⟨r, 2, none⟩ = some d ∧ w.cell? ⟨r, 3, none⟩ = some e ∧ w.cell? ⟨r, 4, none⟩ = some f) ∧ w.cell? ⟨q, 0, none⟩ = some x ∧ w.cell? ⟨q, 1, none⟩ = some y := ⟨(blk5 h).1, (blk2 h').1, (blk2 h').2.1⟩
section
variable {w : World} {c : Nat} {s : ByteArray} {i : Nat}
set_option maxHeartbeats 2000000 in
set_option maxRecDepth 100000 in
theorem rf_one_yes (h : Rd w c s i) (h0 : 0 < dg s i) {a : Nat} (ha : a = min (num s i) 511) (hc : bt s (i + dg s i) ≠ 44) (he : bt s (i + dg s i) = 125) {er2 ea2 : Int} (hw2 : er2 = wE a 0 255 ∧ ea2 = wA i a 0 255) :
    Calls Tryd.prog 41 #[ptr c] w fun e w' => e = .returned (.tuple #[tv 6 0 nls (a : Int) (a : Int), fv er2 ea2, .bool true]) ∧ Rd w' c s (i + dg s i + 1) ∧ Ex c w w' := by
  have hlt := h.lt
  have h2 := h.2.1
  have hT0 := w0_tok w
  have hF0 := w0_fault w
  have HT := Lib.hid hT0
  have HF := Lib.hid hF0
  have HX0 := Lib.hid (Ex.of (c := c) (w0_below w))
  have HN := Lib.hid (number_any h.w0)
  rw [show decide (0 < dg s i) = true from decide_eq_true h0, ← ha] at HN
  have HC := Lib.hid hc
  have HE := Lib.hid he
  have HW := Lib.hid (within_any (i : Int) (a : Int) 0 255)
  rw [← hw2.1, ← hw2.2] at HW
  clear hw2
  clear h h0 ha hc he
  generalize dg s i = d at *
  obtain ⟨p, hp⟩ : ∃ p, p = i + d := ⟨_, rfl⟩
  rw [← hp] at HN HC HE ⊢
  clear hp
  go_enter Tryd.func41, Tryd.ntmps41
  go_wp2_with fail
  refine HN.out.mono ?_
  rintro e w1 ⟨rfl, hR1, hx1⟩
  have hT1 := keepB HT.out hx1 (by omega)
  have hF1 := keepB HF.out hx1 (by omega)
  have s1 : w.heap.size < w1.heap.size := lt_of_heap hT1
  have s2 : w.heap.size + 1 < w1.heap.size := lt_of_heap hF1
  have hN1 := heap_new w1 (.cells #[.int .i64 (i : Int), .int .i64 (a : Int)] 87)
  have hK1 := heap_new (w1.alloc (.cells #[.int .i64 (i : Int), .int .i64 (a : Int)] 87)) (.cells #[.int .i64 6, .int .i64 0, nls, .int .i64 (a : Int), .int .i64 (a : Int)] 50)
  rw [show (w1.alloc (.cells #[.int .i64 (i : Int), .int .i64 (a : Int)] 87)).heap.size = w1.heap.size + 1 by simp] at hK1
  have bA := ((Below.refl w1.heap.size w1).alloc (Nat.le_refl _) (.cells #[.int .i64 (i : Int), .int .i64 (a : Int)] 87)).alloc (by simp) (.cells #[.int .i64 6, .int .i64 0, nls, .int .i64 (a : Int), .int .i64 (a : Int)] 50)
  have HN1 := Lib.hid hN1; have HK1 := Lib.hid hK1; have BA := Lib.hid bA; have HT1 := Lib.hid hT1; have HF1 := Lib.hid hF1
  clear hN1 hK1 bA hT1 hF1
  go_wp2_with fail
  refine (HW.out _).mono ?_
  rintro e w2 ⟨rfl, hb2⟩
  have hT2 := keepL (keepL HT1.out BA.out) hb2
  have hF2 := keepL (keepL HF1.out BA.out) hb2
  have hN2 := keepL (keepL HN1.out ((Below.refl _ _).alloc (Nat.le_refl _) _)) hb2
  have hK2 := keepL HK1.out hb2
  have s3 : w1.heap.size < w2.heap.size := lt_of_heap hN2
  have s4 : w1.heap.size + 1 < w2.heap.size := lt_of_heap hK2
  have s5 : w.heap.size < w2.heap.size := by omega
  have s6 : w.heap.size + 1 < w2.heap.size := by omega
  have hR2 := (hR1.on BA.out).on hb2
  have hx2 := ((HX0.out.trans hx1).on BA.out).on hb2
  have hG2 := heap_new w2 (.cells #[.int .i64 er2, .int .i64 ea2] 28)
  have bG := (Below.refl w2.heap.size w2).alloc (Nat.le_refl _) (.cells #[.int .i64 er2, .int .i64 ea2] 28)
  have HG2 := Lib.hid hG2; have HB2 := Lib.hid bG; have HT2 := Lib.hid hT2; have HF2 := Lib.hid hF2; have HN2' := Lib.hid hN2; have HK2 := Lib.hid hK2; have HR2 := Lib.hid hR2; have HX2 := Lib.hid hx2
  clear hG2 bG hT2 hF2 hN2 hK2 hR2 hx2 hb2 hx1 hR1
  go_wp2_with fail
  refine (skip_no (HR2.out.on HB2.out) 44 HC.out).mono ?_
  rintro e w3 ⟨rfl, hR3, hx3⟩
  have hT3 := keepB (keepL HT2.out HB2.out) hx3 (by omega)
  have hF3 := keepB (keepL HF2.out HB2.out) hx3 (by omega)
  have hN3 := keepB (keepL HN2'.out HB2.out) hx3 (by omega)
  have hK3 := keepB (keepL HK2.out HB2.out) hx3 (by omega)
  have hG3 := keepB HG2.out hx3 (by omega)
  have hx03 := (HX2.out.on HB2.out).trans hx3
  have s7 : w2.heap.size < w3.heap.size := lt_of_heap hG3
  obtain ⟨⟨t0, t1, t2, t3, t4⟩, f0, f1, f2, f3, f4⟩ := blk5 hT3
  obtain ⟨q0, q1, q2, q3⟩ := blk2 hF3
  obtain ⟨⟨k0, k1, k2, k3, k4⟩, kf0, kf1, kf2, kf3, kf4⟩ := blk5 hK3
  obtain ⟨g0, g1, gf0, gf1⟩ := blk2 hG3
  have s8 : w.heap.size < w3.heap.size := by omega
  have s9 : w.heap.size + 1 < w3.heap.size := by omega
  have s10 : w1.heap.size + 1 < w3.heap.size := by omega
  have HT3 := Lib.hid hT3; have HF3 := Lib.hid hF3; have HK3 := Lib.hid hK3; have HG3 := Lib.hid hG3; have HR3 := Lib.hid hR3
  clear hT3 hF3 hK3 hG3 hN3 hR3
  go_wp2_with fail
  all_goals (
    have HKd := Lib.hid (show w3.drew.heap[w1.heap.size + 1]? = some (.cells #[.int .i64 6, .int .i64 0, nls, .int .i64 (a : Int), .int .i64 (a : Int)] 50 (0, 0)) from HK3.out)
    have HGd := Lib.hid (show w3.drew.heap[w2.heap.size]? = some (.cells #[.int .i64 er2, .int .i64 ea2] 28 (0, 0)) from HG3.out)
    go_region_held3 (fun W => (W.cell? ⟨w1.heap.size + 1, 0, none⟩ = some (.int .i64 6) ∧ W.cell? ⟨w1.heap.size + 1, 1, none⟩ = some (.int .i64 0) ∧ W.cell? ⟨w1.heap.size + 1, 2, none⟩ = some nls ∧ W.cell? ⟨w1.heap.size + 1, 3, none⟩ = some (.int .i64 (a : Int)) ∧ W.cell? ⟨w1.heap.size + 1, 4, none⟩ = some (.int .i64 (a : Int))) ∧ W.cell? ⟨w2.heap.size, 0, none⟩ = some (.int .i64 er2) ∧ W.cell? ⟨w2.heap.size, 1, none⟩ = some (.int .i64 ea2))
      (first | with_reducible exact seven HKd.out HGd.out | with_reducible exact seven hKz hGz | (with_reducible refine seven (t := 50) (u := 28) ?_ ?_ <;> (repeat' (first | with_reducible exact hKz | with_reducible exact hGz | with_reducible refine set_past ?_ ?_ | omega))) | fail)
      (first | (go_at_call 37; refine (skip_yes HR3.out.drew 125 HE.out (by omega)).mono ?_; rintro e wz ⟨rfl, hRz, hxz⟩; have hKz := keepB (w := w3.drew) HK3.out hxz (by omega); have hGz := keepB (w := w3.drew) HG3.out hxz (by omega); obtain ⟨⟨t0', t1', t2', t3', t4'⟩, f0', f1', f2', f3', f4'⟩ := blk5 (keepB (w := w3.drew) HT3.out hxz (by omega)); obtain ⟨q0', q1', q2', q3'⟩ := blk2 (keepB (w := w3.drew) HF3.out hxz (by omega))) | fail)
    all_goals (
      have hxf := hx03.drew.trans hxz
      go_wp2_with fail
      refine bodyPost_ret (v := .tuple #[tv 6 0 nls (a : Int) (a : Int), fv er2 ea2, .bool true]) ?_ rfl ⟨rfl, ?_, ?_⟩
      · rw [results_cct rfl]; go_simp
      · repeat' (first | with_reducible exact hRz | with_reducible refine Rd.drew ?_ | refine Rd.set ?_ (by omega) (by omega) _ _)
      · repeat' (first | with_reducible exact hxf | with_reducible refine Ex.alloc ?_ _ | with_reducible refine Ex.drew ?_ | refine Ex.set ?_ (by omega) _ _)))
set_option maxHeartbeats 2000000 in
set_option maxRecDepth 100000 in
theorem rf_one_no (h : Rd w c s i) (h0 : 0 < dg s i) {a : Nat} (ha : a = min (num s i) 511) (hc : bt s (i + dg s i) ≠ 44) (he : bt s (i + dg s i) ≠ 125) {er2 ea2 : Int} (hw2 : er2 = wE a 0 255 ∧ ea2 = wA i a 0 255) :
    Calls Tryd.prog 41 #[ptr c] w fun e w' => e = .returned (.tuple #[tv 6 0 nls (a : Int) (a : Int), fv er2 ea2, .bool false]) ∧ Ex c w w' := by
  have hlt := h.lt
  have h2 := h.2.1
  have hT0 := w0_tok w
  have hF0 := w0_fault w
  have HT := Lib.hid hT0
  have HF := Lib.hid hF0
  have HX0 := Lib.hid (Ex.of (c := c) (w0_below w))
  have HN := Lib.hid (number_any h.w0)
  rw [show decide (0 < dg s i) = true from decide_eq_true h0, ← ha] at HN
  have HC := Lib.hid hc
  have HE := Lib.hid he
  have HW := Lib.hid (within_any (i : Int) (a : Int) 0 255)
  rw [← hw2.1, ← hw2.2] at HW
  clear hw2
  clear h h0 ha hc he
  generalize dg s i = d at *
  obtain ⟨p, hp⟩ : ∃ p, p = i + d := ⟨_, rfl⟩
  rw [← hp] at HN HC HE
  clear hp
  go_enter Tryd.func41, Tryd.ntmps41
  go_wp2_with fail
  refine HN.out.mono ?_
  rintro e w1 ⟨rfl, hR1, hx1⟩
  have hT1 := keepB HT.out hx1 (by omega)
  have hF1 := keepB HF.out hx1 (by omega)
  have s1 : w.heap.size < w1.heap.size := lt_of_heap hT1
  have s2 : w.heap.size + 1 < w1.heap.size := lt_of_heap hF1
  have hN1 := heap_new w1 (.cells #[.int .i64 (i : Int), .int .i64 (a : Int)] 87)
  have hK1 := heap_new (w1.alloc (.cells #[.int .i64 (i : Int), .int .i64 (a : Int)] 87)) (.cells #[.int .i64 6, .int .i64 0, nls, .int .i64 (a : Int), .int .i64 (a : Int)] 50)
  rw [show (w1.alloc (.cells #[.int .i64 (i : Int), .int .i64 (a : Int)] 87)).heap.size = w1.heap.size + 1 by simp] at hK1
  have bA := ((Below.refl w1.heap.size w1).alloc (Nat.le_refl _) (.cells #[.int .i64 (i : Int), .int .i64 (a : Int)] 87)).alloc (by simp) (.cells #[.int .i64 6, .int .i64 0, nls, .int .i64 (a : Int), .int .i64 (a : Int)] 50)
  have HN1 := Lib.hid hN1; have HK1 := Lib.hid hK1; have BA := Lib.hid bA; have HT1 := Lib.hid hT1; have HF1 := Lib.hid hF1
  clear hN1 hK1 bA hT1 hF1
  go_wp2_with fail
  refine (HW.out _).mono ?_
  rintro e w2 ⟨rfl, hb2⟩
  have hT2 := keepL (keepL HT1.out BA.out) hb2
  have hF2 := keepL (keepL HF1.out BA.out) hb2
  have hN2 := keepL (keepL HN1.out ((Below.refl _ _).alloc (Nat.le_refl _) _)) hb2
  have hK2 := keepL HK1.out hb2
  have s3 : w1.heap.size < w2.heap.size := lt_of_heap hN2
  have s4 : w1.heap.size + 1 < w2.heap.size := lt_of_heap hK2
  have s5 : w.heap.size < w2.heap.size := by omega
  have s6 : w.heap.size + 1 < w2.heap.size := by omega
  have hR2 := (hR1.on BA.out).on hb2
  have hx2 := ((HX0.out.trans hx1).on BA.out).on hb2
  have hG2 := heap_new w2 (.cells #[.int .i64 er2, .int .i64 ea2] 28)
  have bG := (Below.refl w2.heap.size w2).alloc (Nat.le_refl _) (.cells #[.int .i64 er2, .int .i64 ea2] 28)
  have HG2 := Lib.hid hG2; have HB2 := Lib.hid bG; have HT2 := Lib.hid hT2; have HF2 := Lib.hid hF2; have HN2' := Lib.hid hN2; have HK2 := Lib.hid hK2; have HR2 := Lib.hid hR2; have HX2 := Lib.hid hx2
  clear hG2 bG hT2 hF2 hN2 hK2 hR2 hx2 hb2 hx1 hR1
  go_wp2_with fail
  refine (skip_no (HR2.out.on HB2.out) 44 HC.out).mono ?_
  rintro e w3 ⟨rfl, hR3, hx3⟩
  have hT3 := keepB (keepL HT2.out HB2.out) hx3 (by omega)
  have hF3 := keepB (keepL HF2.out HB2.out) hx3 (by omega)
  have hN3 := keepB (keepL HN2'.out HB2.out) hx3 (by omega)
  have hK3 := keepB (keepL HK2.out HB2.out) hx3 (by omega)
  have hG3 := keepB HG2.out hx3 (by omega)
  have hx03 := (HX2.out.on HB2.out).trans hx3
  have s7 : w2.heap.size < w3.heap.size := lt_of_heap hG3
  obtain ⟨⟨t0, t1, t2, t3, t4⟩, f0, f1, f2, f3, f4⟩ := blk5 hT3
  obtain ⟨q0, q1, q2, q3⟩ := blk2 hF3
  obtain ⟨⟨k0, k1, k2, k3, k4⟩, kf0, kf1, kf2, kf3, kf4⟩ := blk5 hK3
  obtain ⟨g0, g1, gf0, gf1⟩ := blk2 hG3
  have s8 : w.heap.size < w3.heap.size := by omega
  have s9 : w.heap.size + 1 < w3.heap.size := by omega
  have s10 : w1.heap.size + 1 < w3.heap.size := by omega
  have HT3 := Lib.hid hT3; have HF3 := Lib.hid hF3; have HK3 := Lib.hid hK3; have HG3 := Lib.hid hG3; have HR3 := Lib.hid hR3
  clear hT3 hF3 hK3 hG3 hN3 hR3
  go_wp2_with fail
  all_goals (
    have HKd := Lib.hid (show w3.drew.heap[w1.heap.size + 1]? = some (.cells #[.int .i64 6, .int .i64 0, nls, .int .i64 (a : Int), .int .i64 (a : Int)] 50 (0, 0)) from HK3.out)
    have HGd := Lib.hid (show w3.drew.heap[w2.heap.size]? = some (.cells #[.int .i64 er2, .int .i64 ea2] 28 (0, 0)) from HG3.out)
    go_region_held3 (fun W => (W.cell? ⟨w1.heap.size + 1, 0, none⟩ = some (.int .i64 6) ∧ W.cell? ⟨w1.heap.size + 1, 1, none⟩ = some (.int .i64 0) ∧ W.cell? ⟨w1.heap.size + 1, 2, none⟩ = some nls ∧ W.cell? ⟨w1.heap.size + 1, 3, none⟩ = some (.int .i64 (a : Int)) ∧ W.cell? ⟨w1.heap.size + 1, 4, none⟩ = some (.int .i64 (a : Int))) ∧ W.cell? ⟨w2.heap.size, 0, none⟩ = some (.int .i64 er2) ∧ W.cell? ⟨w2.heap.size, 1, none⟩ = some (.int .i64 ea2))
      (first | with_reducible exact seven HKd.out HGd.out | with_reducible exact seven hKz hGz | (with_reducible refine seven (t := 50) (u := 28) ?_ ?_ <;> (repeat' (first | with_reducible exact hKz | with_reducible exact hGz | with_reducible refine set_past ?_ ?_ | omega))) | fail)
      (first | (go_at_call 37; refine (skip_no HR3.out.drew 125 HE.out).mono ?_; rintro e wz ⟨rfl, hRz, hxz⟩; have hKz := keepB (w := w3.drew) HK3.out hxz (by omega); have hGz := keepB (w := w3.drew) HG3.out hxz (by omega); obtain ⟨⟨t0', t1', t2', t3', t4'⟩, f0', f1', f2', f3', f4'⟩ := blk5 (keepB (w := w3.drew) HT3.out hxz (by omega)); obtain ⟨q0', q1', q2', q3'⟩ := blk2 (keepB (w := w3.drew) HF3.out hxz (by omega))) | fail)
    all_goals (
      have hxf := hx03.drew.trans hxz
      go_wp2_with fail
      refine bodyPost_ret (v := .tuple #[tv 6 0 nls (a : Int) (a : Int), fv er2 ea2, .bool false]) ?_ rfl ⟨rfl, ?_⟩
      · rw [results_cct rfl]; go_simp
      · repeat' (first | with_reducible exact hxf | with_reducible refine Ex.alloc ?_ _ | with_reducible refine Ex.drew ?_ | refine Ex.set ?_ (by omega) _ _)))
set_option maxHeartbeats 2000000 in
set_option maxRecDepth 100000 in
theorem rf_open_yes (h : Rd w c s i) (h0 : 0 < dg s i) {a : Nat} (ha : a = min (num s i) 511) (hc : bt s (i + dg s i) = 44) (h3 : dg s (i + dg s i + 1) = 0) (he : bt s (i + dg s i + 1) = 125) {er2 ea2 : Int} (hw2 : er2 = wE a 0 255 ∧ ea2 = wA i a 0 255) :
    Calls Tryd.prog 41 #[ptr c] w fun e w' => e = .returned (.tuple #[tv 6 0 nls (a : Int) (-1), fv er2 ea2, .bool true]) ∧ Rd w' c s (i + dg s i + 1 + 1) ∧ Ex c w w' := by
  have hlt := h.lt
  have h2 := h.2.1
  have hT0 := w0_tok w
  have hF0 := w0_fault w
  have HT := Lib.hid hT0
  have HF := Lib.hid hF0
  have HX0 := Lib.hid (Ex.of (c := c) (w0_below w))
  have HN := Lib.hid (number_any h.w0)
  rw [show decide (0 < dg s i) = true from decide_eq_true h0, ← ha] at HN
  have HC := Lib.hid hc
  have HE := Lib.hid he
  have HW := Lib.hid (within_any (i : Int) (a : Int) 0 255)
  rw [← hw2.1, ← hw2.2] at HW
  clear hw2
  have HN2 := Lib.hid (fun W (hR : Rd W c s (i + dg s i + 1)) => number_any hR)
  rw [show decide (0 < dg s (i + dg s i + 1)) = false from decide_eq_false (by omega), h3, Nat.add_zero] at HN2
  clear h3
  generalize num s (i + dg s i + 1) = v2 at *
  clear h h0 ha hc he
  generalize dg s i = d at *
  obtain ⟨p, hp⟩ : ∃ p, p = i + d := ⟨_, rfl⟩
  rw [← hp] at HN HC HE ⊢
  obtain ⟨p1, hp1⟩ : ∃ p1, p1 = p + 1 := ⟨_, rfl⟩
  rw [← hp, ← hp1] at HN2
  rw [← hp1] at HE ⊢
  have HP1 := Lib.hid hp1
  clear hp1
  clear hp
  go_enter Tryd.func41, Tryd.ntmps41
  go_wp2_with fail
  refine HN.out.mono ?_
  rintro e w1 ⟨rfl, hR1, hx1⟩
  have hT1 := keepB HT.out hx1 (by omega)
  have hF1 := keepB HF.out hx1 (by omega)
  have s1 : w.heap.size < w1.heap.size := lt_of_heap hT1
  have s2 : w.heap.size + 1 < w1.heap.size := lt_of_heap hF1
  have hN1 := heap_new w1 (.cells #[.int .i64 (i : Int), .int .i64 (a : Int)] 87)
  have hK1 := heap_new (w1.alloc (.cells #[.int .i64 (i : Int), .int .i64 (a : Int)] 87)) (.cells #[.int .i64 6, .int .i64 0, nls, .int .i64 (a : Int), .int .i64 (a : Int)] 50)
  rw [show (w1.alloc (.cells #[.int .i64 (i : Int), .int .i64 (a : Int)] 87)).heap.size = w1.heap.size + 1 by simp] at hK1
  have bA := ((Below.refl w1.heap.size w1).alloc (Nat.le_refl _) (.cells #[.int .i64 (i : Int), .int .i64 (a : Int)] 87)).alloc (by simp) (.cells #[.int .i64 6, .int .i64 0, nls, .int .i64 (a : Int), .int .i64 (a : Int)] 50)
  have HN1 := Lib.hid hN1; have HK1 := Lib.hid hK1; have BA := Lib.hid bA; have HT1 := Lib.hid hT1; have HF1 := Lib.hid hF1
  clear hN1 hK1 bA hT1 hF1
  go_wp2_with fail
  refine (HW.out _).mono ?_
  rintro e w2 ⟨rfl, hb2⟩
  have hT2 := keepL (keepL HT1.out BA.out) hb2
  have hF2 := keepL (keepL HF1.out BA.out) hb2
  have hN2 := keepL (keepL HN1.out ((Below.refl _ _).alloc (Nat.le_refl _) _)) hb2
  have hK2 := keepL HK1.out hb2
  have s3 : w1.heap.size < w2.heap.size := lt_of_heap hN2
  have s4 : w1.heap.size + 1 < w2.heap.size := lt_of_heap hK2
  have s5 : w.heap.size < w2.heap.size := by omega
  have s6 : w.heap.size + 1 < w2.heap.size := by omega
  have hR2 := (hR1.on BA.out).on hb2
  have hx2 := ((HX0.out.trans hx1).on BA.out).on hb2
  have hG2 := heap_new w2 (.cells #[.int .i64 er2, .int .i64 ea2] 28)
  have bG := (Below.refl w2.heap.size w2).alloc (Nat.le_refl _) (.cells #[.int .i64 er2, .int .i64 ea2] 28)
  have HG2 := Lib.hid hG2; have HB2 := Lib.hid bG; have HT2 := Lib.hid hT2; have HF2 := Lib.hid hF2; have HN2' := Lib.hid hN2; have HK2 := Lib.hid hK2; have HR2 := Lib.hid hR2; have HX2 := Lib.hid hx2
  clear hG2 bG hT2 hF2 hN2 hK2 hR2 hx2 hb2 hx1 hR1
  go_wp2_with fail
  refine (skip_yes (HR2.out.on HB2.out) 44 HC.out (by omega)).mono ?_
  rintro e w3 ⟨rfl, hR3, hx3⟩
  have hT3 := keepB (keepL HT2.out HB2.out) hx3 (by omega)
  have hF3 := keepB (keepL HF2.out HB2.out) hx3 (by omega)
  have hN3 := keepB (keepL HN2'.out HB2.out) hx3 (by omega)
  have hK3 := keepB (keepL HK2.out HB2.out) hx3 (by omega)
  have hG3 := keepB HG2.out hx3 (by omega)
  have hx03 := (HX2.out.on HB2.out).trans hx3
  have s7 : w2.heap.size < w3.heap.size := lt_of_heap hG3
  obtain ⟨⟨k0, k1, k2, k3, k4⟩, kf0, kf1, kf2, kf3, kf4⟩ := blk5 hK3
  have hK3' : (w3.setCell ⟨w1.heap.size + 1, 4, none⟩ (.int .i64 (-1))).heap[w1.heap.size + 1]? = some (.cells #[.int .i64 6, .int .i64 0, nls, .int .i64 (a : Int), .int .i64 (-1)] 50 (0, 0)) := by
    have := heap_set 4 (.int .i64 (-1)) hK3
    simpa using this
  have hx33 := Ex.one (w1.heap.size + 1) w3 4 (.int .i64 (-1))
  have hT3' := keepB hT3 hx33 (by omega)
  have hF3' := keepB hF3 hx33 (by omega)
  have hN3' := keepB hN3 hx33 (by omega)
  have hG3' := keepB hG3 hx33 (by omega)
  have HR3 := Lib.hid (show Rd (w3.setCell ⟨w1.heap.size + 1, 4, none⟩ (.int .i64 (-1))) c s p1 by rw [HP1.out]; exact hR3.past hx33 (by omega) (by omega))
  have hx03' := hx03.set (r := w1.heap.size + 1) (by omega) 4 (.int .i64 (-1))
  have s7' : w3.heap.size = (w3.setCell ⟨w1.heap.size + 1, 4, none⟩ (.int .i64 (-1))).heap.size := by simp [World.setCell]
  have HT3 := Lib.hid hT3'; have HF3 := Lib.hid hF3'; have HN3 := Lib.hid hN3'; have HK3 := Lib.hid hK3'; have HG3 := Lib.hid hG3'; have HX3 := Lib.hid hx03'; have S7 := Lib.hid s7'
  clear hT3 hF3 hN3 hK3 hG3 hT3' hF3' hN3' hK3' hG3' hx33 hx03 hx03' hR3 s7'
  go_wp2_with fail
  refine (HN2.out _ HR3.out).mono ?_
  rintro e w4 ⟨rfl, hR4, hx4⟩
  have hT4 := keepB HT3.out hx4 (by omega)
  have hF4 := keepB HF3.out hx4 (by omega)
  have hN4 := keepB HN3.out hx4 (by omega)
  have hK4 := keepB HK3.out hx4 (by omega)
  have hG4 := keepB HG3.out hx4 (by omega)
  have hx04 := HX3.out.trans hx4
  have s8 : w2.heap.size < w4.heap.size := lt_of_heap hG4
  have s9 : w1.heap.size + 1 < w4.heap.size := lt_of_heap hK4
  have s10 : w1.heap.size < w4.heap.size := lt_of_heap hN4
  have s11 : w.heap.size < w4.heap.size := lt_of_heap hT4
  have s12 : w.heap.size + 1 < w4.heap.size := lt_of_heap hF4
  have bM := (Below.refl w4.heap.size w4).alloc (Nat.le_refl _) (.cells #[.int .i64 (p1 : Int), .int .i64 ((min v2 511 : Nat) : Int)] 87)
  have hT5 := keepL hT4 bM
  have hF5 := keepL hF4 bM
  have hK5 := keepL hK4 bM
  have hG5 := keepL hG4 bM
  have HR5 := Lib.hid (hR4.on bM)
  have hx5 := hx04.on bM
  obtain ⟨⟨t0, t1, t2, t3, t4⟩, f0, f1, f2, f3, f4⟩ := blk5 hT5
  obtain ⟨q0, q1, q2, q3⟩ := blk2 hF5
  obtain ⟨⟨k0', k1', k2', k3', k4'⟩, kf0', kf1', kf2', kf3', kf4'⟩ := blk5 hK5
  obtain ⟨g0, g1, gf0, gf1⟩ := blk2 hG5
  have sz5 : (w4.alloc (.cells #[.int .i64 (p1 : Int), .int .i64 ((min v2 511 : Nat) : Int)] 87)).heap.size = w4.heap.size + 1 := by simp
  have HT5 := Lib.hid hT5; have HF5 := Lib.hid hF5; have HK5 := Lib.hid hK5; have HG5 := Lib.hid hG5; have SZ5 := Lib.hid sz5
  clear hT5 hF5 hK5 hG5 hT4 hF4 hK4 hG4 hN4 bM hR4 sz5
  go_wp2_with fail
  generalize hw5 : w4.alloc (.cells #[.int .i64 (p1 : Int), .int .i64 ((min v2 511 : Nat) : Int)] 87) = w5 at *
  clear hw5
  all_goals (
    have HKd := Lib.hid (show w5.drew.heap[w1.heap.size + 1]? = some (.cells #[.int .i64 6, .int .i64 0, nls, .int .i64 (a : Int), .int .i64 (-1)] 50 (0, 0)) from HK5.out)
    have HGd := Lib.hid (show w5.drew.heap[w2.heap.size]? = some (.cells #[.int .i64 er2, .int .i64 ea2] 28 (0, 0)) from HG5.out)
    go_region_held3 (fun W => (W.cell? ⟨w1.heap.size + 1, 0, none⟩ = some (.int .i64 6) ∧ W.cell? ⟨w1.heap.size + 1, 1, none⟩ = some (.int .i64 0) ∧ W.cell? ⟨w1.heap.size + 1, 2, none⟩ = some nls ∧ W.cell? ⟨w1.heap.size + 1, 3, none⟩ = some (.int .i64 (a : Int)) ∧ W.cell? ⟨w1.heap.size + 1, 4, none⟩ = some (.int .i64 (-1))) ∧ W.cell? ⟨w2.heap.size, 0, none⟩ = some (.int .i64 er2) ∧ W.cell? ⟨w2.heap.size, 1, none⟩ = some (.int .i64 ea2))
      (first | with_reducible exact seven HKd.out HGd.out | with_reducible exact seven hKz hGz | (with_reducible refine seven (t := 50) (u := 28) ?_ ?_ <;> (repeat' (first | with_reducible exact hKz | with_reducible exact hGz | with_reducible refine set_past ?_ ?_ | omega))) | fail)
      (first | (go_at_call 37; refine (skip_yes HR5.out.drew 125 HE.out (by omega)).mono ?_; rintro e wz ⟨rfl, hRz, hxz⟩; have hKz := keepB (w := w5.drew) HK5.out hxz (by omega); have hGz := keepB (w := w5.drew) HG5.out hxz (by omega); obtain ⟨⟨t0', t1', t2', t3', t4'⟩, f0', f1', f2', f3', f4'⟩ := blk5 (keepB (w := w5.drew) HT5.out hxz (by omega)); obtain ⟨q0', q1', q2', q3'⟩ := blk2 (keepB (w := w5.drew) HF5.out hxz (by omega))) | fail)
    all_goals (
      have hxf := hx5.drew.trans hxz
      go_wp2_with fail
      refine bodyPost_ret (v := .tuple #[tv 6 0 nls (a : Int) (-1), fv er2 ea2, .bool true]) ?_ rfl ⟨rfl, ?_, ?_⟩
      · rw [results_cct rfl]; go_simp
      · repeat' (first | with_reducible exact hRz | with_reducible refine Rd.drew ?_ | refine Rd.set ?_ (by omega) (by omega) _ _)
      · repeat' (first | with_reducible exact hxf | with_reducible refine Ex.alloc ?_ _ | with_reducible refine Ex.drew ?_ | refine Ex.set ?_ (by omega) _ _)))
set_option maxHeartbeats 2000000 in
set_option maxRecDepth 100000 in
theorem rf_open_no (h : Rd w c s i) (h0 : 0 < dg s i) {a : Nat} (ha : a = min (num s i) 511) (hc : bt s (i + dg s i) = 44) (h3 : dg s (i + dg s i + 1) = 0) (he : bt s (i + dg s i + 1) ≠ 125) {er2 ea2 : Int} (hw2 : er2 = wE a 0 255 ∧ ea2 = wA i a 0 255) :
    Calls Tryd.prog 41 #[ptr c] w fun e w' => e = .returned (.tuple #[tv 6 0 nls (a : Int) (-1), fv er2 ea2, .bool false]) ∧ Ex c w w' := by
  have hlt := h.lt
  have h2 := h.2.1
  have hT0 := w0_tok w
  have hF0 := w0_fault w
  have HT := Lib.hid hT0
  have HF := Lib.hid hF0
  have HX0 := Lib.hid (Ex.of (c := c) (w0_below w))
  have HN := Lib.hid (number_any h.w0)
  rw [show decide (0 < dg s i) = true from decide_eq_true h0, ← ha] at HN
  have HC := Lib.hid hc
  have HE := Lib.hid he
  have HW := Lib.hid (within_any (i : Int) (a : Int) 0 255)
  rw [← hw2.1, ← hw2.2] at HW
  clear hw2
  have HN2 := Lib.hid (fun W (hR : Rd W c s (i + dg s i + 1)) => number_any hR)
  rw [show decide (0 < dg s (i + dg s i + 1)) = false from decide_eq_false (by omega), h3, Nat.add_zero] at HN2
  clear h3
  generalize num s (i + dg s i + 1) = v2 at *
  clear h h0 ha hc he
  generalize dg s i = d at *
  obtain ⟨p, hp⟩ : ∃ p, p = i + d := ⟨_, rfl⟩
  rw [← hp] at HN HC HE
  obtain ⟨p1, hp1⟩ : ∃ p1, p1 = p + 1 := ⟨_, rfl⟩
  rw [← hp, ← hp1] at HN2
  rw [← hp1] at HE
  have HP1 := Lib.hid hp1
  clear hp1
  clear hp
  go_enter Tryd.func41, Tryd.ntmps41
  go_wp2_with fail
  refine HN.out.mono ?_
  rintro e w1 ⟨rfl, hR1, hx1⟩
  have hT1 := keepB HT.out hx1 (by omega)
  have hF1 := keepB HF.out hx1 (by omega)
  have s1 : w.heap.size < w1.heap.size := lt_of_heap hT1
  have s2 : w.heap.size + 1 < w1.heap.size := lt_of_heap hF1
  have hN1 := heap_new w1 (.cells #[.int .i64 (i : Int), .int .i64 (a : Int)] 87)
  have hK1 := heap_new (w1.alloc (.cells #[.int .i64 (i : Int), .int .i64 (a : Int)] 87)) (.cells #[.int .i64 6, .int .i64 0, nls, .int .i64 (a : Int), .int .i64 (a : Int)] 50)
  rw [show (w1.alloc (.cells #[.int .i64 (i : Int), .int .i64 (a : Int)] 87)).heap.size = w1.heap.size + 1 by simp] at hK1
  have bA := ((Below.refl w1.heap.size w1).alloc (Nat.le_refl _) (.cells #[.int .i64 (i : Int), .int .i64 (a : Int)] 87)).alloc (by simp) (.cells #[.int .i64 6, .int .i64 0, nls, .int .i64 (a : Int), .int .i64 (a : Int)] 50)
  have HN1 := Lib.hid hN1; have HK1 := Lib.hid hK1; have BA := Lib.hid bA; have HT1 := Lib.hid hT1; have HF1 := Lib.hid hF1
  clear hN1 hK1 bA hT1 hF1
  go_wp2_with fail
  refine (HW.out _).mono ?_
  rintro e w2 ⟨rfl, hb2⟩
  have hT2 := keepL (keepL HT1.out BA.out) hb2
  have hF2 := keepL (keepL HF1.out BA.out) hb2
  have hN2 := keepL (keepL HN1.out ((Below.refl _ _).alloc (Nat.le_refl _) _)) hb2
  have hK2 := keepL HK1.out hb2
  have s3 : w1.heap.size < w2.heap.size := lt_of_heap hN2
  have s4 : w1.heap.size + 1 < w2.heap.size := lt_of_heap hK2
  have s5 : w.heap.size < w2.heap.size := by omega
  have s6 : w.heap.size + 1 < w2.heap.size := by omega
  have hR2 := (hR1.on BA.out).on hb2
  have hx2 := ((HX0.out.trans hx1).on BA.out).on hb2
  have hG2 := heap_new w2 (.cells #[.int .i64 er2, .int .i64 ea2] 28)
  have bG := (Below.refl w2.heap.size w2).alloc (Nat.le_refl _) (.cells #[.int .i64 er2, .int .i64 ea2] 28)
  have HG2 := Lib.hid hG2; have HB2 := Lib.hid bG; have HT2 := Lib.hid hT2; have HF2 := Lib.hid hF2; have HN2' := Lib.hid hN2; have HK2 := Lib.hid hK2; have HR2 := Lib.hid hR2; have HX2 := Lib.hid hx2
  clear hG2 bG hT2 hF2 hN2 hK2 hR2 hx2 hb2 hx1 hR1
  go_wp2_with fail
  refine (skip_yes (HR2.out.on HB2.out) 44 HC.out (by omega)).mono ?_
  rintro e w3 ⟨rfl, hR3, hx3⟩
  have hT3 := keepB (keepL HT2.out HB2.out) hx3 (by omega)
  have hF3 := keepB (keepL HF2.out HB2.out) hx3 (by omega)
  have hN3 := keepB (keepL HN2'.out HB2.out) hx3 (by omega)
  have hK3 := keepB (keepL HK2.out HB2.out) hx3 (by omega)
  have hG3 := keepB HG2.out hx3 (by omega)
  have hx03 := (HX2.out.on HB2.out).trans hx3
  have s7 : w2.heap.size < w3.heap.size := lt_of_heap hG3
  obtain ⟨⟨k0, k1, k2, k3, k4⟩, kf0, kf1, kf2, kf3, kf4⟩ := blk5 hK3
  have hK3' : (w3.setCell ⟨w1.heap.size + 1, 4, none⟩ (.int .i64 (-1))).heap[w1.heap.size + 1]? = some (.cells #[.int .i64 6, .int .i64 0, nls, .int .i64 (a : Int), .int .i64 (-1)] 50 (0, 0)) := by
    have := heap_set 4 (.int .i64 (-1)) hK3
    simpa using this
  have hx33 := Ex.one (w1.heap.size + 1) w3 4 (.int .i64 (-1))
  have hT3' := keepB hT3 hx33 (by omega)
  have hF3' := keepB hF3 hx33 (by omega)
  have hN3' := keepB hN3 hx33 (by omega)
  have hG3' := keepB hG3 hx33 (by omega)
  have HR3 := Lib.hid (show Rd (w3.setCell ⟨w1.heap.size + 1, 4, none⟩ (.int .i64 (-1))) c s p1 by rw [HP1.out]; exact hR3.past hx33 (by omega) (by omega))
  have hx03' := hx03.set (r := w1.heap.size + 1) (by omega) 4 (.int .i64 (-1))
  have s7' : w3.heap.size = (w3.setCell ⟨w1.heap.size + 1, 4, none⟩ (.int .i64 (-1))).heap.size := by simp [World.setCell]
  have HT3 := Lib.hid hT3'; have HF3 := Lib.hid hF3'; have HN3 := Lib.hid hN3'; have HK3 := Lib.hid hK3'; have HG3 := Lib.hid hG3'; have HX3 := Lib.hid hx03'; have S7 := Lib.hid s7'
  clear hT3 hF3 hN3 hK3 hG3 hT3' hF3' hN3' hK3' hG3' hx33 hx03 hx03' hR3 s7'
  go_wp2_with fail
  refine (HN2.out _ HR3.out).mono ?_
  rintro e w4 ⟨rfl, hR4, hx4⟩
  have hT4 := keepB HT3.out hx4 (by omega)
  have hF4 := keepB HF3.out hx4 (by omega)
  have hN4 := keepB HN3.out hx4 (by omega)
  have hK4 := keepB HK3.out hx4 (by omega)
  have hG4 := keepB HG3.out hx4 (by omega)
  have hx04 := HX3.out.trans hx4
  have s8 : w2.heap.size < w4.heap.size := lt_of_heap hG4
  have s9 : w1.heap.size + 1 < w4.heap.size := lt_of_heap hK4
  have s10 : w1.heap.size < w4.heap.size := lt_of_heap hN4
  have s11 : w.heap.size < w4.heap.size := lt_of_heap hT4
  have s12 : w.heap.size + 1 < w4.heap.size := lt_of_heap hF4
  have bM := (Below.refl w4.heap.size w4).alloc (Nat.le_refl _) (.cells #[.int .i64 (p1 : Int), .int .i64 ((min v2 511 : Nat) : Int)] 87)
  have hT5 := keepL hT4 bM
  have hF5 := keepL hF4 bM
  have hK5 := keepL hK4 bM
  have hG5 := keepL hG4 bM
  have HR5 := Lib.hid (hR4.on bM)
  have hx5 := hx04.on bM
  obtain ⟨⟨t0, t1, t2, t3, t4⟩, f0, f1, f2, f3, f4⟩ := blk5 hT5
  obtain ⟨q0, q1, q2, q3⟩ := blk2 hF5
  obtain ⟨⟨k0', k1', k2', k3', k4'⟩, kf0', kf1', kf2', kf3', kf4'⟩ := blk5 hK5
  obtain ⟨g0, g1, gf0, gf1⟩ := blk2 hG5
  have sz5 : (w4.alloc (.cells #[.int .i64 (p1 : Int), .int .i64 ((min v2 511 : Nat) : Int)] 87)).heap.size = w4.heap.size + 1 := by simp
  have HT5 := Lib.hid hT5; have HF5 := Lib.hid hF5; have HK5 := Lib.hid hK5; have HG5 := Lib.hid hG5; have SZ5 := Lib.hid sz5
  clear hT5 hF5 hK5 hG5 hT4 hF4 hK4 hG4 hN4 bM hR4 sz5
  go_wp2_with fail
  generalize hw5 : w4.alloc (.cells #[.int .i64 (p1 : Int), .int .i64 ((min v2 511 : Nat) : Int)] 87) = w5 at *
  clear hw5
  all_goals (
    have HKd := Lib.hid (show w5.drew.heap[w1.heap.size + 1]? = some (.cells #[.int .i64 6, .int .i64 0, nls, .int .i64 (a : Int), .int .i64 (-1)] 50 (0, 0)) from HK5.out)
    have HGd := Lib.hid (show w5.drew.heap[w2.heap.size]? = some (.cells #[.int .i64 er2, .int .i64 ea2] 28 (0, 0)) from HG5.out)
    go_region_held3 (fun W => (W.cell? ⟨w1.heap.size + 1, 0, none⟩ = some (.int .i64 6) ∧ W.cell? ⟨w1.heap.size + 1, 1, none⟩ = some (.int .i64 0) ∧ W.cell? ⟨w1.heap.size + 1, 2, none⟩ = some nls ∧ W.cell? ⟨w1.heap.size + 1, 3, none⟩ = some (.int .i64 (a : Int)) ∧ W.cell? ⟨w1.heap.size + 1, 4, none⟩ = some (.int .i64 (-1))) ∧ W.cell? ⟨w2.heap.size, 0, none⟩ = some (.int .i64 er2) ∧ W.cell? ⟨w2.heap.size, 1, none⟩ = some (.int .i64 ea2))
      (first | with_reducible exact seven HKd.out HGd.out | with_reducible exact seven hKz hGz | (with_reducible refine seven (t := 50) (u := 28) ?_ ?_ <;> (repeat' (first | with_reducible exact hKz | with_reducible exact hGz | with_reducible refine set_past ?_ ?_ | omega))) | fail)
      (first | (go_at_call 37; refine (skip_no HR5.out.drew 125 HE.out).mono ?_; rintro e wz ⟨rfl, hRz, hxz⟩; have hKz := keepB (w := w5.drew) HK5.out hxz (by omega); have hGz := keepB (w := w5.drew) HG5.out hxz (by omega); obtain ⟨⟨t0', t1', t2', t3', t4'⟩, f0', f1', f2', f3', f4'⟩ := blk5 (keepB (w := w5.drew) HT5.out hxz (by omega)); obtain ⟨q0', q1', q2', q3'⟩ := blk2 (keepB (w := w5.drew) HF5.out hxz (by omega))) | fail)
    all_goals (
      have hxf := hx5.drew.trans hxz
      go_wp2_with fail
      refine bodyPost_ret (v := .tuple #[tv 6 0 nls (a : Int) (-1), fv er2 ea2, .bool false]) ?_ rfl ⟨rfl, ?_⟩
      · rw [results_cct rfl]; go_simp
      · repeat' (first | with_reducible exact hxf | with_reducible refine Ex.alloc ?_ _ | with_reducible refine Ex.drew ?_ | refine Ex.set ?_ (by omega) _ _)))
end
end Go.Proofs.YtceeimolfalmpaaDoor
