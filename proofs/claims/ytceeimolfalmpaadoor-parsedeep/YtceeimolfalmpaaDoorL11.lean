/-
  What the reader's repeatForm answers and leaves. Conditions: the reader's block is as it should be; the two tables of unicode/utf8 lie as their text lays them.
-/
import Derived.Test.YtceeimolfalmpaaDoorL10
namespace Go.Proofs.YtceeimolfalmpaaDoor
open Go.RowKit ObUtf ObSets ObLex
section
variable {w : World} {c : Nat} {s : ByteArray} {i : Nat}
set_option maxHeartbeats 2000000 in
set_option maxRecDepth 100000 in
theorem rf_two_yes (h : Rd w c s i) (h0 : 0 < dg s i) {a : Nat} (ha : a = min (num s i) 511) (hc : bt s (i + dg s i) = 44) (h3 : 0 < dg s (i + dg s i + 1)) {b : Nat} (hb : b = min (num s (i + dg s i + 1)) 511) (he : bt s (i + dg s i + 1 + dg s (i + dg s i + 1)) = 125) {er2 ea2 : Int} (hw2 : er2 = (if wE a 0 255 = 0 then wE b a 255 else wE a 0 255) ∧ ea2 = (if wE a 0 255 = 0 then wA (i + dg s i + 1 : Nat) b a 255 else wA i a 0 255)) :
    Calls Tryd.prog 41 #[ptr c] w fun e w' => e = .returned (.tuple #[tv 6 0 nls (a : Int) (b : Int), fv er2 ea2, .bool true]) ∧ Rd w' c s (i + dg s i + 1 + dg s (i + dg s i + 1) + 1) ∧ Ex c w w' := by
  have hlt := h.lt
  have h2 := h.2.1
  have hT0 := w0_tok w
  have hF0 := w0_fault w
  have HT := Lib.hid hT0
  have HF := Lib.hid hF0
  have HX0 := Lib.hid (Ex.of (c := c) (w0_below w))
  have HN := Lib.hid (number_any h.w0)
  rw [show decide (0 < dg s i) = true from decide_eq_true h0, ← ha] at HN
  have HC := Lib.hid hc
  have HE := Lib.hid he
  have HW := Lib.hid (within_any (i : Int) (a : Int) 0 255)
  have HW2 := Lib.hid (within_any ((i + dg s i + 1 : Nat) : Int) (b : Int) (a : Int) 255)
  obtain ⟨er1, he1⟩ : ∃ x, x = wE (a : Int) 0 255 := ⟨_, rfl⟩
  obtain ⟨ea1, ha1⟩ : ∃ x, x = wA (i : Int) (a : Int) 0 255 := ⟨_, rfl⟩
  obtain ⟨er3, he3⟩ : ∃ x, x = wE (b : Int) (a : Int) 255 := ⟨_, rfl⟩
  obtain ⟨ea3, ha3⟩ : ∃ x, x = wA ((i + dg s i + 1 : Nat) : Int) (b : Int) (a : Int) 255 := ⟨_, rfl⟩
  rw [← he1, ← ha1] at HW
  rw [← he3, ← ha3] at HW2
  rw [← he1, ← he3, ← ha1, ← ha3] at hw2
  have HFI := Lib.hid (first_any er1 ea1 er3 ea3)
  rw [← hw2.1, ← hw2.2] at HFI
  clear hw2 he1 ha1 he3 ha3
  have HN2 := Lib.hid (fun W (hR : Rd W c s (i + dg s i + 1)) => number_any hR)
  rw [show decide (0 < dg s (i + dg s i + 1)) = true from decide_eq_true h3, ← hb] at HN2
  clear h3 hb
  generalize dg s (i + dg s i + 1) = d2 at *
  clear h h0 ha hc he
  generalize dg s i = d at *
  obtain ⟨p, hp⟩ : ∃ p, p = i + d := ⟨_, rfl⟩
  rw [← hp] at HN HC HE ⊢
  obtain ⟨p1, hp1⟩ : ∃ p1, p1 = p + 1 := ⟨_, rfl⟩
  rw [← hp, ← hp1] at HW2 HN2
  rw [← hp1] at HE ⊢
  have HP1 := Lib.hid hp1
  clear hp1
  clear hp
  go_enter Tryd.func41, Tryd.ntmps41
  go_wp2_with fail
  refine HN.out.mono ?_
  rintro e w1 ⟨rfl, hR1, hx1⟩
  have hT1 := keepB HT.out hx1 (by omega)
  have hF1 := keepB HF.out hx1 (by omega)
  have s1 : w.heap.size < w1.heap.size := lt_of_heap hT1
  have s2 : w.heap.size + 1 < w1.heap.size := lt_of_heap hF1
  have hN1 := heap_new w1 (.cells #[.int .i64 (i : Int), .int .i64 (a : Int)] 87)
  have hK1 := heap_new (w1.alloc (.cells #[.int .i64 (i : Int), .int .i64 (a : Int)] 87)) (.cells #[.int .i64 6, .int .i64 0, nls, .int .i64 (a : Int), .int .i64 (a : Int)] 50)
  rw [show (w1.alloc (.cells #[.int .i64 (i : Int), .int .i64 (a : Int)] 87)).heap.size = w1.heap.size + 1 by simp] at hK1
  have bA := ((Below.refl w1.heap.size w1).alloc (Nat.le_refl _) (.cells #[.int .i64 (i : Int), .int .i64 (a : Int)] 87)).alloc (by simp) (.cells #[.int .i64 6, .int .i64 0, nls, .int .i64 (a : Int), .int .i64 (a : Int)] 50)
  have HN1 := Lib.hid hN1; have HK1 := Lib.hid hK1; have BA := Lib.hid bA; have HT1 := Lib.hid hT1; have HF1 := Lib.hid hF1
  clear hN1 hK1 bA hT1 hF1
  go_wp2_with fail
  refine (HW.out _).mono ?_
  rintro e w2 ⟨rfl, hb2⟩
  have hT2 := keepL (keepL HT1.out BA.out) hb2
  have hF2 := keepL (keepL HF1.out BA.out) hb2
  have hN2 := keepL (keepL HN1.out ((Below.refl _ _).alloc (Nat.le_refl _) _)) hb2
  have hK2 := keepL HK1.out hb2
  have s3 : w1.heap.size < w2.heap.size := lt_of_heap hN2
  have s4 : w1.heap.size + 1 < w2.heap.size := lt_of_heap hK2
  have s5 : w.heap.size < w2.heap.size := by omega
  have s6 : w.heap.size + 1 < w2.heap.size := by omega
  have hR2 := (hR1.on BA.out).on hb2
  have hx2 := ((HX0.out.trans hx1).on BA.out).on hb2
  have hG2 := heap_new w2 (.cells #[.int .i64 er1, .int .i64 ea1] 28)
  have bG := (Below.refl w2.heap.size w2).alloc (Nat.le_refl _) (.cells #[.int .i64 er1, .int .i64 ea1] 28)
  have HG2 := Lib.hid hG2; have HB2 := Lib.hid bG; have HT2 := Lib.hid hT2; have HF2 := Lib.hid hF2; have HN2' := Lib.hid hN2; have HK2 := Lib.hid hK2; have HR2 := Lib.hid hR2; have HX2 := Lib.hid hx2
  clear hG2 bG hT2 hF2 hN2 hK2 hR2 hx2 hb2 hx1 hR1
  go_wp2_with fail
  refine (skip_yes (HR2.out.on HB2.out) 44 HC.out (by omega)).mono ?_
  rintro e w3 ⟨rfl, hR3, hx3⟩
  have hT3 := keepB (keepL HT2.out HB2.out) hx3 (by omega)
  have hF3 := keepB (keepL HF2.out HB2.out) hx3 (by omega)
  have hN3 := keepB (keepL HN2'.out HB2.out) hx3 (by omega)
  have hK3 := keepB (keepL HK2.out HB2.out) hx3 (by omega)
  have hG3 := keepB HG2.out hx3 (by omega)
  have hx03 := (HX2.out.on HB2.out).trans hx3
  have s7 : w2.heap.size < w3.heap.size := lt_of_heap hG3
  obtain ⟨⟨k0, k1, k2, k3, k4⟩, kf0, kf1, kf2, kf3, kf4⟩ := blk5 hK3
  have hK3' : (w3.setCell ⟨w1.heap.size + 1, 4, none⟩ (.int .i64 (-1))).heap[w1.heap.size + 1]? = some (.cells #[.int .i64 6, .int .i64 0, nls, .int .i64 (a : Int), .int .i64 (-1)] 50 (0, 0)) := by
    have := heap_set 4 (.int .i64 (-1)) hK3
    simpa using this
  have hx33 := Ex.one (w1.heap.size + 1) w3 4 (.int .i64 (-1))
  have hT3' := keepB hT3 hx33 (by omega)
  have hF3' := keepB hF3 hx33 (by omega)
  have hN3' := keepB hN3 hx33 (by omega)
  have hG3' := keepB hG3 hx33 (by omega)
  have HR3 := Lib.hid (show Rd (w3.setCell ⟨w1.heap.size + 1, 4, none⟩ (.int .i64 (-1))) c s p1 by rw [HP1.out]; exact hR3.past hx33 (by omega) (by omega))
  have hx03' := hx03.set (r := w1.heap.size + 1) (by omega) 4 (.int .i64 (-1))
  have s7' : w3.heap.size = (w3.setCell ⟨w1.heap.size + 1, 4, none⟩ (.int .i64 (-1))).heap.size := by simp [World.setCell]
  have HT3 := Lib.hid hT3'; have HF3 := Lib.hid hF3'; have HN3 := Lib.hid hN3'; have HK3 := Lib.hid hK3'; have HG3 := Lib.hid hG3'; have HX3 := Lib.hid hx03'; have S7 := Lib.hid s7'
  clear hT3 hF3 hN3 hK3 hG3 hT3' hF3' hN3' hK3' hG3' hx33 hx03 hx03' hR3 s7'
  go_wp2_with fail
  refine (HN2.out _ HR3.out).mono ?_
  rintro e w4 ⟨rfl, hR4, hx4⟩
  have hT4 := keepB HT3.out hx4 (by omega)
  have hF4 := keepB HF3.out hx4 (by omega)
  have hN4 := keepB HN3.out hx4 (by omega)
  have hK4 := keepB HK3.out hx4 (by omega)
  have hG4 := keepB HG3.out hx4 (by omega)
  have hx04 := HX3.out.trans hx4
  have s8 : w2.heap.size < w4.heap.size := lt_of_heap hG4
  have s9 : w1.heap.size + 1 < w4.heap.size := lt_of_heap hK4
  have s10 : w1.heap.size < w4.heap.size := lt_of_heap hN4
  have s11 : w.heap.size < w4.heap.size := lt_of_heap hT4
  have s12 : w.heap.size + 1 < w4.heap.size := lt_of_heap hF4
  have hx55 := Ex.one (w1.heap.size + 1) w4 4 (.int .i64 (b : Int))
  obtain ⟨⟨k0', k1', k2', k3', k4'⟩, kf0', kf1', kf2', kf3', kf4'⟩ := blk5 (keepL hK4 ((Below.refl w4.heap.size w4).alloc (Nat.le_refl _) (.cells #[.int .i64 (p1 : Int), .int .i64 (b : Int)] 87)))
  obtain ⟨m0', m1', mf0', mf1'⟩ := blk2 (heap_new w4 (.cells #[.int .i64 (p1 : Int), .int .i64 (b : Int)] 87))
  have hK5 : (w4.setCell ⟨w1.heap.size + 1, 4, none⟩ (.int .i64 (b : Int))).heap[w1.heap.size + 1]? = some (.cells #[.int .i64 6, .int .i64 0, nls, .int .i64 (a : Int), .int .i64 (b : Int)] 50 (0, 0)) := by
    have := heap_set 4 (.int .i64 (b : Int)) hK4
    simpa using this
  have hT5 := keepB hT4 hx55 (by omega)
  have hF5 := keepB hF4 hx55 (by omega)
  have hN5 := keepB hN4 hx55 (by omega)
  have hG5 := keepB hG4 hx55 (by omega)
  have hR5 := hR4.past hx55 (by omega) (by omega)
  have hx5 := hx04.set (r := w1.heap.size + 1) (by omega) 4 (.int .i64 (b : Int))
  have hz5 : (w4.setCell ⟨w1.heap.size + 1, 4, none⟩ (.int .i64 (b : Int))).heap.size = w4.heap.size := by simp [World.setCell]
  have hM6 := heap_new (w4.setCell ⟨w1.heap.size + 1, 4, none⟩ (.int .i64 (b : Int))) (.cells #[.int .i64 (p1 : Int), .int .i64 (b : Int)] 87)
  rw [hz5] at hM6
  have bM := (Below.refl (w4.setCell ⟨w1.heap.size + 1, 4, none⟩ (.int .i64 (b : Int))).heap.size (w4.setCell ⟨w1.heap.size + 1, 4, none⟩ (.int .i64 (b : Int)))).alloc (Nat.le_refl _) (.cells #[.int .i64 (p1 : Int), .int .i64 (b : Int)] 87)
  have hT6 := keepL hT5 bM
  have hF6 := keepL hF5 bM
  have hN6 := keepL hN5 bM
  have hK6 := keepL hK5 bM
  have hG6 := keepL hG5 bM
  have HR6 := Lib.hid (hR5.on bM)
  have HX6 := Lib.hid (hx5.on bM)
  obtain ⟨n0, n1, nf0, nf1⟩ := blk2 hN6
  obtain ⟨g0, g1, gf0, gf1⟩ := blk2 hG6
  obtain ⟨m0, m1, mf0, mf1⟩ := blk2 hM6
  have HT6 := Lib.hid hT6; have HF6 := Lib.hid hF6; have HN6 := Lib.hid hN6; have HK6 := Lib.hid hK6; have HG6 := Lib.hid hG6; have HM6 := Lib.hid hM6
  clear hT6 hF6 hN6 hK6 hG6 hM6 hT5 hF5 hN5 hK5 hG5 hT4 hF4 hN4 hK4 hG4 bM hR4 hR5 hx5 hx55 hz5
  go_wp2_with fail
  generalize hw6 : (w4.setCell ⟨w1.heap.size + 1, 4, none⟩ (.int .i64 (b : Int))).alloc (.cells #[.int .i64 (p1 : Int), .int .i64 (b : Int)] 87) = w6 at *
  clear hw6 k0' k1' k2' k3' k4' kf0' kf1' kf2' kf3' kf4' m0' m1' mf0' mf1'
  go_region_law (first
    | (go_simp; go_at_call 58; refine (HW2.out _).mono ?_; rintro e w7 ⟨rfl, hb7⟩; obtain ⟨n0', n1', nf0', nf1'⟩ := blk2 (keepL HN6.out (undrew hb7)); obtain ⟨g0', g1', gf0', gf1'⟩ := blk2 (keepL HG6.out (undrew hb7)); obtain ⟨m0', m1', mf0', mf1'⟩ := blk2 (keepL HM6.out (undrew hb7)))
    | (go_simp; go_at_call 59; refine (HFI.out _).mono ?_; rintro e w8 ⟨rfl, hb8⟩; obtain ⟨g0'', g1'', gf0'', gf1''⟩ := blk2 (keepL (keepL HG6.out (undrew hb7)) hb8)))
  all_goals (
    have hb68 := bel_trans (undrew hb7) hb8
    have hx88 := (Ex.one w2.heap.size w8 0 (.int .i64 er2)).trans (Ex.one w2.heap.size (w8.setCell ⟨w2.heap.size, 0, none⟩ (.int .i64 er2)) 1 (.int .i64 ea2))
    have hT9 := keepB (keepL HT6.out hb68) hx88 (by omega)
    have hF9 := keepB (keepL HF6.out hb68) hx88 (by omega)
    have hK9 := keepB (keepL HK6.out hb68) hx88 (by omega)
    have hG9 : ((w8.setCell ⟨w2.heap.size, 0, none⟩ (.int .i64 er2)).setCell ⟨w2.heap.size, 1, none⟩ (.int .i64 ea2)).heap[w2.heap.size]? = some (.cells #[.int .i64 er2, .int .i64 ea2] 28 (0, 0)) := by
      have := heap_set 1 (.int .i64 ea2) (heap_set 0 (.int .i64 er2) (keepL HG6.out hb68))
      simpa using this
    have HR := Lib.hid ((HR6.out.on hb68).past hx88 (by omega) (by omega))
    have hx := ((HX6.out.on hb68).set (r := w2.heap.size) (by omega) 0 (.int .i64 er2)).set (r := w2.heap.size) (by omega) 1 (.int .i64 ea2)
    generalize hw9 : (w8.setCell ⟨w2.heap.size, 0, none⟩ (.int .i64 er2)).setCell ⟨w2.heap.size, 1, none⟩ (.int .i64 ea2) = w9 at *
    clear hw9 hb68 hx88 hb7 hb8 g0 g1 gf0 gf1 g0' g1' gf0' gf1' g0'' g1'' gf0'' gf1'' n0 n1 nf0 nf1 m0 m1 mf0 mf1 n0' n1' nf0' nf1' m0' m1' mf0' mf1'
    obtain ⟨⟨t0, t1, t2, t3, t4⟩, f0, f1, f2, f3, f4⟩ := blk5 hT9
    obtain ⟨q0, q1, q2, q3⟩ := blk2 hF9
    obtain ⟨⟨k0, k1, k2, k3, k4⟩, kf0, kf1, kf2, kf3, kf4⟩ := blk5 hK9
    obtain ⟨g0, g1, gf0, gf1⟩ := blk2 hG9
    have z1 : w.heap.size < w9.heap.size := lt_of_heap hT9
    have z2 : w.heap.size + 1 < w9.heap.size := lt_of_heap hF9
    have z3 : w1.heap.size + 1 < w9.heap.size := lt_of_heap hK9
    have z4 : w2.heap.size < w9.heap.size := lt_of_heap hG9
    have HT9 := Lib.hid hT9; have HF9 := Lib.hid hF9; have HK9 := Lib.hid hK9; have HG9 := Lib.hid hG9
    clear hT9 hF9 hK9 hG9
    go_wp2_with fail
    have HKd := Lib.hid (show w9.drew.heap[w1.heap.size + 1]? = some (.cells #[.int .i64 6, .int .i64 0, nls, .int .i64 (a : Int), .int .i64 (b : Int)] 50 (0, 0)) from HK9.out)
    have HGd := Lib.hid (show w9.drew.heap[w2.heap.size]? = some (.cells #[.int .i64 er2, .int .i64 ea2] 28 (0, 0)) from HG9.out)
    go_region_held3 (fun W => (W.cell? ⟨w1.heap.size + 1, 0, none⟩ = some (.int .i64 6) ∧ W.cell? ⟨w1.heap.size + 1, 1, none⟩ = some (.int .i64 0) ∧ W.cell? ⟨w1.heap.size + 1, 2, none⟩ = some nls ∧ W.cell? ⟨w1.heap.size + 1, 3, none⟩ = some (.int .i64 (a : Int)) ∧ W.cell? ⟨w1.heap.size + 1, 4, none⟩ = some (.int .i64 (b : Int))) ∧ W.cell? ⟨w2.heap.size, 0, none⟩ = some (.int .i64 er2) ∧ W.cell? ⟨w2.heap.size, 1, none⟩ = some (.int .i64 ea2))
      (first | with_reducible exact seven HKd.out HGd.out | with_reducible exact seven hKz hGz | (with_reducible refine seven (t := 50) (u := 28) ?_ ?_ <;> (repeat' (first | with_reducible exact hKz | with_reducible exact hGz | with_reducible refine set_past ?_ ?_ | omega))) | fail)
      (first | (go_at_call 37; refine (skip_yes HR.out.drew 125 HE.out (by omega)).mono ?_; rintro e wz ⟨rfl, hRz, hxz⟩; have hKz := keepB (w := w9.drew) HK9.out hxz (by omega); have hGz := keepB (w := w9.drew) HG9.out hxz (by omega); obtain ⟨⟨t0', t1', t2', t3', t4'⟩, f0', f1', f2', f3', f4'⟩ := blk5 (keepB (w := w9.drew) HT9.out hxz (by omega)); obtain ⟨q0', q1', q2', q3'⟩ := blk2 (keepB (w := w9.drew) HF9.out hxz (by omega))) | fail)
    all_goals (
      have hxf := hx.drew.trans hxz
      go_wp2_with fail
      refine bodyPost_ret (v := .tuple #[tv 6 0 nls (a : Int) (b : Int), fv er2 ea2, .bool true]) ?_ rfl ⟨rfl, ?_, ?_⟩
      · rw [results_cct rfl]; go_simp
      · repeat' (first | with_reducible exact hRz | with_reducible refine Rd.drew ?_ | refine Rd.set ?_ (by omega) (by omega) _ _)
      · repeat' (first | with_reducible exact hxf | with_reducible refine Ex.alloc ?_ _ | with_reducible refine Ex.drew ?_ | refine Ex.set ?_ (by omega) _ _)))
set_option maxHeartbeats 2000000 in
set_option maxRecDepth 100000 in
theorem rf_two_no (h : Rd w c s i) (h0 : 0 < dg s i) {a : Nat} (ha : a = min (num s i) 511) (hc : bt s (i + dg s i) = 44) (h3 : 0 < dg s (i + dg s i + 1)) {b : Nat} (hb : b = min (num s (i + dg s i + 1)) 511) (he : bt s (i + dg s i + 1 + dg s (i + dg s i + 1)) ≠ 125) {er2 ea2 : Int} (hw2 : er2 = (if wE a 0 255 = 0 then wE b a 255 else wE a 0 255) ∧ ea2 = (if wE a 0 255 = 0 then wA (i + dg s i + 1 : Nat) b a 255 else wA i a 0 255)) :
    Calls Tryd.prog 41 #[ptr c] w fun e w' => e = .returned (.tuple #[tv 6 0 nls (a : Int) (b : Int), fv er2 ea2, .bool false]) ∧ Ex c w w' := by
  have hlt := h.lt
  have h2 := h.2.1
  have hT0 := w0_tok w
  have hF0 := w0_fault w
  have HT := Lib.hid hT0
  have HF := Lib.hid hF0
  have HX0 := Lib.hid (Ex.of (c := c) (w0_below w))
  have HN := Lib.hid (number_any h.w0)
  rw [show decide (0 < dg s i) = true from decide_eq_true h0, ← ha] at HN
  have HC := Lib.hid hc
  have HE := Lib.hid he
  have HW := Lib.hid (within_any (i : Int) (a : Int) 0 255)
  have HW2 := Lib.hid (within_any ((i + dg s i + 1 : Nat) : Int) (b : Int) (a : Int) 255)
  obtain ⟨er1, he1⟩ : ∃ x, x = wE (a : Int) 0 255 := ⟨_, rfl⟩
  obtain ⟨ea1, ha1⟩ : ∃ x, x = wA (i : Int) (a : Int) 0 255 := ⟨_, rfl⟩
  obtain ⟨er3, he3⟩ : ∃ x, x = wE (b : Int) (a : Int) 255 := ⟨_, rfl⟩
  obtain ⟨ea3, ha3⟩ : ∃ x, x = wA ((i + dg s i + 1 : Nat) : Int) (b : Int) (a : Int) 255 := ⟨_, rfl⟩
  rw [← he1, ← ha1] at HW
  rw [← he3, ← ha3] at HW2
  rw [← he1, ← he3, ← ha1, ← ha3] at hw2
  have HFI := Lib.hid (first_any er1 ea1 er3 ea3)
  rw [← hw2.1, ← hw2.2] at HFI
  clear hw2 he1 ha1 he3 ha3
  have HN2 := Lib.hid (fun W (hR : Rd W c s (i + dg s i + 1)) => number_any hR)
  rw [show decide (0 < dg s (i + dg s i + 1)) = true from decide_eq_true h3, ← hb] at HN2
  clear h3 hb
  generalize dg s (i + dg s i + 1) = d2 at *
  clear h h0 ha hc he
  generalize dg s i = d at *
  obtain ⟨p, hp⟩ : ∃ p, p = i + d := ⟨_, rfl⟩
  rw [← hp] at HN HC HE
  obtain ⟨p1, hp1⟩ : ∃ p1, p1 = p + 1 := ⟨_, rfl⟩
  rw [← hp, ← hp1] at HW2 HN2
  rw [← hp1] at HE
  have HP1 := Lib.hid hp1
  clear hp1
  clear hp
  go_enter Tryd.func41, Tryd.ntmps41
  go_wp2_with fail
  refine HN.out.mono ?_
  rintro e w1 ⟨rfl, hR1, hx1⟩
  have hT1 := keepB HT.out hx1 (by omega)
  have hF1 := keepB HF.out hx1 (by omega)
  have s1 : w.heap.size < w1.heap.size := lt_of_heap hT1
  have s2 : w.heap.size + 1 < w1.heap.size := lt_of_heap hF1
  have hN1 := heap_new w1 (.cells #[.int .i64 (i : Int), .int .i64 (a : Int)] 87)
  have hK1 := heap_new (w1.alloc (.cells #[.int .i64 (i : Int), .int .i64 (a : Int)] 87)) (.cells #[.int .i64 6, .int .i64 0, nls, .int .i64 (a : Int), .int .i64 (a : Int)] 50)
  rw [show (w1.alloc (.cells #[.int .i64 (i : Int), .int .i64 (a : Int)] 87)).heap.size = w1.heap.size + 1 by simp] at hK1
  have bA := ((Below.refl w1.heap.size w1).alloc (Nat.le_refl _) (.cells #[.int .i64 (i : Int), .int .i64 (a : Int)] 87)).alloc (by simp) (.cells #[.int .i64 6, .int .i64 0, nls, .int .i64 (a : Int), .int .i64 (a : Int)] 50)
  have HN1 := Lib.hid hN1; have HK1 := Lib.hid hK1; have BA := Lib.hid bA; have HT1 := Lib.hid hT1; have HF1 := Lib.hid hF1
  clear hN1 hK1 bA hT1 hF1
  go_wp2_with fail
  refine (HW.out _).mono ?_
  rintro e w2 ⟨rfl, hb2⟩
  have hT2 := keepL (keepL HT1.out BA.out) hb2
  have hF2 := keepL (keepL HF1.out BA.out) hb2
  have hN2 := keepL (keepL HN1.out ((Below.refl _ _).alloc (Nat.le_refl _) _)) hb2
  have hK2 := keepL HK1.out hb2
  have s3 : w1.heap.size < w2.heap.size := lt_of_heap hN2
  have s4 : w1.heap.size + 1 < w2.heap.size := lt_of_heap hK2
  have s5 : w.heap.size < w2.heap.size := by omega
  have s6 : w.heap.size + 1 < w2.heap.size := by omega
  have hR2 := (hR1.on BA.out).on hb2
  have hx2 := ((HX0.out.trans hx1).on BA.out).on hb2
  have hG2 := heap_new w2 (.cells #[.int .i64 er1, .int .i64 ea1] 28)
  have bG := (Below.refl w2.heap.size w2).alloc (Nat.le_refl _) (.cells #[.int .i64 er1, .int .i64 ea1] 28)
  have HG2 := Lib.hid hG2; have HB2 := Lib.hid bG; have HT2 := Lib.hid hT2; have HF2 := Lib.hid hF2; have HN2' := Lib.hid hN2; have HK2 := Lib.hid hK2; have HR2 := Lib.hid hR2; have HX2 := Lib.hid hx2
  clear hG2 bG hT2 hF2 hN2 hK2 hR2 hx2 hb2 hx1 hR1
  go_wp2_with fail
  refine (skip_yes (HR2.out.on HB2.out) 44 HC.out (by omega)).mono ?_
  rintro e w3 ⟨rfl, hR3, hx3⟩
  have hT3 := keepB (keepL HT2.out HB2.out) hx3 (by omega)
  have hF3 := keepB (keepL HF2.out HB2.out) hx3 (by omega)
  have hN3 := keepB (keepL HN2'.out HB2.out) hx3 (by omega)
  have hK3 := keepB (keepL HK2.out HB2.out) hx3 (by omega)
  have hG3 := keepB HG2.out hx3 (by omega)
  have hx03 := (HX2.out.on HB2.out).trans hx3
  have s7 : w2.heap.size < w3.heap.size := lt_of_heap hG3
  obtain ⟨⟨k0, k1, k2, k3, k4⟩, kf0, kf1, kf2, kf3, kf4⟩ := blk5 hK3
  have hK3' : (w3.setCell ⟨w1.heap.size + 1, 4, none⟩ (.int .i64 (-1))).heap[w1.heap.size + 1]? = some (.cells #[.int .i64 6, .int .i64 0, nls, .int .i64 (a : Int), .int .i64 (-1)] 50 (0, 0)) := by
    have := heap_set 4 (.int .i64 (-1)) hK3
    simpa using this
  have hx33 := Ex.one (w1.heap.size + 1) w3 4 (.int .i64 (-1))
  have hT3' := keepB hT3 hx33 (by omega)
  have hF3' := keepB hF3 hx33 (by omega)
  have hN3' := keepB hN3 hx33 (by omega)
  have hG3' := keepB hG3 hx33 (by omega)
  have HR3 := Lib.hid (show Rd (w3.setCell ⟨w1.heap.size + 1, 4, none⟩ (.int .i64 (-1))) c s p1 by rw [HP1.out]; exact hR3.past hx33 (by omega) (by omega))
  have hx03' := hx03.set (r := w1.heap.size + 1) (by omega) 4 (.int .i64 (-1))
  have s7' : w3.heap.size = (w3.setCell ⟨w1.heap.size + 1, 4, none⟩ (.int .i64 (-1))).heap.size := by simp [World.setCell]
  have HT3 := Lib.hid hT3'; have HF3 := Lib.hid hF3'; have HN3 := Lib.hid hN3'; have HK3 := Lib.hid hK3'; have HG3 := Lib.hid hG3'; have HX3 := Lib.hid hx03'; have S7 := Lib.hid s7'
  clear hT3 hF3 hN3 hK3 hG3 hT3' hF3' hN3' hK3' hG3' hx33 hx03 hx03' hR3 s7'
  go_wp2_with fail
  refine (HN2.out _ HR3.out).mono ?_
  rintro e w4 ⟨rfl, hR4, hx4⟩
  have hT4 := keepB HT3.out hx4 (by omega)
  have hF4 := keepB HF3.out hx4 (by omega)
  have hN4 := keepB HN3.out hx4 (by omega)
  have hK4 := keepB HK3.out hx4 (by omega)
  have hG4 := keepB HG3.out hx4 (by omega)
  have hx04 := HX3.out.trans hx4
  have s8 : w2.heap.size < w4.heap.size := lt_of_heap hG4
  have s9 : w1.heap.size + 1 < w4.heap.size := lt_of_heap hK4
  have s10 : w1.heap.size < w4.heap.size := lt_of_heap hN4
  have s11 : w.heap.size < w4.heap.size := lt_of_heap hT4
  have s12 : w.heap.size + 1 < w4.heap.size := lt_of_heap hF4
  have hx55 := Ex.one (w1.heap.size + 1) w4 4 (.int .i64 (b : Int))
  obtain ⟨⟨k0', k1', k2', k3', k4'⟩, kf0', kf1', kf2', kf3', kf4'⟩ := blk5 (keepL hK4 ((Below.refl w4.heap.size w4).alloc (Nat.le_refl _) (.cells #[.int .i64 (p1 : Int), .int .i64 (b : Int)] 87)))
  obtain ⟨m0', m1', mf0', mf1'⟩ := blk2 (heap_new w4 (.cells #[.int .i64 (p1 : Int), .int .i64 (b : Int)] 87))
  have hK5 : (w4.setCell ⟨w1.heap.size + 1, 4, none⟩ (.int .i64 (b : Int))).heap[w1.heap.size + 1]? = some (.cells #[.int .i64 6, .int .i64 0, nls, .int .i64 (a : Int), .int .i64 (b : Int)] 50 (0, 0)) := by
    have := heap_set 4 (.int .i64 (b : Int)) hK4
    simpa using this
  have hT5 := keepB hT4 hx55 (by omega)
  have hF5 := keepB hF4 hx55 (by omega)
  have hN5 := keepB hN4 hx55 (by omega)
  have hG5 := keepB hG4 hx55 (by omega)
  have hR5 := hR4.past hx55 (by omega) (by omega)
  have hx5 := hx04.set (r := w1.heap.size + 1) (by omega) 4 (.int .i64 (b : Int))
  have hz5 : (w4.setCell ⟨w1.heap.size + 1, 4, none⟩ (.int .i64 (b : Int))).heap.size = w4.heap.size := by simp [World.setCell]
  have hM6 := heap_new (w4.setCell ⟨w1.heap.size + 1, 4, none⟩ (.int .i64 (b : Int))) (.cells #[.int .i64 (p1 : Int), .int .i64 (b : Int)] 87)
  rw [hz5] at hM6
  have bM := (Below.refl (w4.setCell ⟨w1.heap.size + 1, 4, none⟩ (.int .i64 (b : Int))).heap.size (w4.setCell ⟨w1.heap.size + 1, 4, none⟩ (.int .i64 (b : Int)))).alloc (Nat.le_refl _) (.cells #[.int .i64 (p1 : Int), .int .i64 (b : Int)] 87)
  have hT6 := keepL hT5 bM
  have hF6 := keepL hF5 bM
  have hN6 := keepL hN5 bM
  have hK6 := keepL hK5 bM
  have hG6 := keepL hG5 bM
  have HR6 := Lib.hid (hR5.on bM)
  have HX6 := Lib.hid (hx5.on bM)
  obtain ⟨n0, n1, nf0, nf1⟩ := blk2 hN6
  obtain ⟨g0, g1, gf0, gf1⟩ := blk2 hG6
  obtain ⟨m0, m1, mf0, mf1⟩ := blk2 hM6
  have HT6 := Lib.hid hT6; have HF6 := Lib.hid hF6; have HN6 := Lib.hid hN6; have HK6 := Lib.hid hK6; have HG6 := Lib.hid hG6; have HM6 := Lib.hid hM6
  clear hT6 hF6 hN6 hK6 hG6 hM6 hT5 hF5 hN5 hK5 hG5 hT4 hF4 hN4 hK4 hG4 bM hR4 hR5 hx5 hx55 hz5
  go_wp2_with fail
  generalize hw6 : (w4.setCell ⟨w1.heap.size + 1, 4, none⟩ (.int .i64 (b : Int))).alloc (.cells #[.int .i64 (p1 : Int), .int .i64 (b : Int)] 87) = w6 at *
  clear hw6 k0' k1' k2' k3' k4' kf0' kf1' kf2' kf3' kf4' m0' m1' mf0' mf1'
  go_region_law (first
    | (go_simp; go_at_call 58; refine (HW2.out _).mono ?_; rintro e w7 ⟨rfl, hb7⟩; obtain ⟨n0', n1', nf0', nf1'⟩ := blk2 (keepL HN6.out (undrew hb7)); obtain ⟨g0', g1', gf0', gf1'⟩ := blk2 (keepL HG6.out (undrew hb7)); obtain ⟨m0', m1', mf0', mf1'⟩ := blk2 (keepL HM6.out (undrew hb7)))
    | (go_simp; go_at_call 59; refine (HFI.out _).mono ?_; rintro e w8 ⟨rfl, hb8⟩; obtain ⟨g0'', g1'', gf0'', gf1''⟩ := blk2 (keepL (keepL HG6.out (undrew hb7)) hb8)))
  all_goals (
    have hb68 := bel_trans (undrew hb7) hb8
    have hx88 := (Ex.one w2.heap.size w8 0 (.int .i64 er2)).trans (Ex.one w2.heap.size (w8.setCell ⟨w2.heap.size, 0, none⟩ (.int .i64 er2)) 1 (.int .i64 ea2))
    have hT9 := keepB (keepL HT6.out hb68) hx88 (by omega)
    have hF9 := keepB (keepL HF6.out hb68) hx88 (by omega)
    have hK9 := keepB (keepL HK6.out hb68) hx88 (by omega)
    have hG9 : ((w8.setCell ⟨w2.heap.size, 0, none⟩ (.int .i64 er2)).setCell ⟨w2.heap.size, 1, none⟩ (.int .i64 ea2)).heap[w2.heap.size]? = some (.cells #[.int .i64 er2, .int .i64 ea2] 28 (0, 0)) := by
      have := heap_set 1 (.int .i64 ea2) (heap_set 0 (.int .i64 er2) (keepL HG6.out hb68))
      simpa using this
    have HR := Lib.hid ((HR6.out.on hb68).past hx88 (by omega) (by omega))
    have hx := ((HX6.out.on hb68).set (r := w2.heap.size) (by omega) 0 (.int .i64 er2)).set (r := w2.heap.size) (by omega) 1 (.int .i64 ea2)
    generalize hw9 : (w8.setCell ⟨w2.heap.size, 0, none⟩ (.int .i64 er2)).setCell ⟨w2.heap.size, 1, none⟩ (.int .i64 ea2) = w9 at *
    clear hw9 hb68 hx88 hb7 hb8 g0 g1 gf0 gf1 g0' g1' gf0' gf1' g0'' g1'' gf0'' gf1'' n0 n1 nf0 nf1 m0 m1 mf0 mf1 n0' n1' nf0' nf1' m0' m1' mf0' mf1'
    obtain ⟨⟨t0, t1, t2, t3, t4⟩, f0, f1, f2, f3, f4⟩ := blk5 hT9
    obtain ⟨q0, q1, q2, q3⟩ := blk2 hF9
    obtain ⟨⟨k0, k1, k2, k3, k4⟩, kf0, kf1, kf2, kf3, kf4⟩ := blk5 hK9
    obtain ⟨g0, g1, gf0, gf1⟩ := blk2 hG9
    have z1 : w.heap.size < w9.heap.size := lt_of_heap hT9
    have z2 : w.heap.size + 1 < w9.heap.size := lt_of_heap hF9
    have z3 : w1.heap.size + 1 < w9.heap.size := lt_of_heap hK9
    have z4 : w2.heap.size < w9.heap.size := lt_of_heap hG9
    have HT9 := Lib.hid hT9; have HF9 := Lib.hid hF9; have HK9 := Lib.hid hK9; have HG9 := Lib.hid hG9
    clear hT9 hF9 hK9 hG9
    go_wp2_with fail
    have HKd := Lib.hid (show w9.drew.heap[w1.heap.size + 1]? = some (.cells #[.int .i64 6, .int .i64 0, nls, .int .i64 (a : Int), .int .i64 (b : Int)] 50 (0, 0)) from HK9.out)
    have HGd := Lib.hid (show w9.drew.heap[w2.heap.size]? = some (.cells #[.int .i64 er2, .int .i64 ea2] 28 (0, 0)) from HG9.out)
    go_region_held3 (fun W => (W.cell? ⟨w1.heap.size + 1, 0, none⟩ = some (.int .i64 6) ∧ W.cell? ⟨w1.heap.size + 1, 1, none⟩ = some (.int .i64 0) ∧ W.cell? ⟨w1.heap.size + 1, 2, none⟩ = some nls ∧ W.cell? ⟨w1.heap.size + 1, 3, none⟩ = some (.int .i64 (a : Int)) ∧ W.cell? ⟨w1.heap.size + 1, 4, none⟩ = some (.int .i64 (b : Int))) ∧ W.cell? ⟨w2.heap.size, 0, none⟩ = some (.int .i64 er2) ∧ W.cell? ⟨w2.heap.size, 1, none⟩ = some (.int .i64 ea2))
      (first | with_reducible exact seven HKd.out HGd.out | with_reducible exact seven hKz hGz | (with_reducible refine seven (t := 50) (u := 28) ?_ ?_ <;> (repeat' (first | with_reducible exact hKz | with_reducible exact hGz | with_reducible refine set_past ?_ ?_ | omega))) | fail)
      (first | (go_at_call 37; refine (skip_no HR.out.drew 125 HE.out).mono ?_; rintro e wz ⟨rfl, hRz, hxz⟩; have hKz := keepB (w := w9.drew) HK9.out hxz (by omega); have hGz := keepB (w := w9.drew) HG9.out hxz (by omega); obtain ⟨⟨t0', t1', t2', t3', t4'⟩, f0', f1', f2', f3', f4'⟩ := blk5 (keepB (w := w9.drew) HT9.out hxz (by omega)); obtain ⟨q0', q1', q2', q3'⟩ := blk2 (keepB (w := w9.drew) HF9.out hxz (by omega))) | fail)
    all_goals (
      have hxf := hx.drew.trans hxz
      go_wp2_with fail
      refine bodyPost_ret (v := .tuple #[tv 6 0 nls (a : Int) (b : Int), fv er2 ea2, .bool false]) ?_ rfl ⟨rfl, ?_⟩
      · rw [results_cct rfl]; go_simp
      · repeat' (first | with_reducible exact hxf | with_reducible refine Ex.alloc ?_ _ | with_reducible refine Ex.drew ?_ | refine Ex.set ?_ (by omega) _ _)))
end
end Go.Proofs.YtceeimolfalmpaaDoor
