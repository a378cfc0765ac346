/-
  What the reader's item (in a class) answers and leaves. Conditions: the reader's block is as it should be, its place within the text, and behind a range's - there is a byte; the two tables of unicode/utf8 lie as their text lays them.
  What the reader's classEnd answers: where the class ends that begins at the reader's place; the reader stays. Conditions: the reader's block is as it should be; the two tables of unicode/utf8 lie as their text lays them.
  What the reader's class answers and leaves. Conditions: the reader's block is as it should be and stands at a [; the two tables of unicode/utf8 lie as their text lays them.
-/
import Derived.Test.YtceeimolfalmpaaDoorLC
import Derived.Test.YtceeimolfalmpaaDoorLA
namespace Go.Proofs.YtceeimolfalmpaaDoor
open Go.RowKit ObUtf ObSets ObLex

/-- What is handed back for an item. -/
def RetI (r : Res (List R × Nat)) (c : Nat) (s : ByteArray) (w : World) (e : Ending) (w' : World) : Prop :=
  match r with
  | .error (er, a) => e = .returned (.tuple #[nls, fv er (a : Int)]) ∧ (∃ j, Rd w' c s j) ∧ Ex c w w' ∧ (er = 4 ∨ er = 5)
  | .ok (l, q) => ∃ A k, e = .returned (.tuple #[.slice A l.length k, fv 0 0]) ∧ S.Ow w' w.heap.size (.slice A l.length k) l ∧ Rd w' c s q ∧ Ex c w w'
section
variable {w : World} {c : Nat} {s : ByteArray} {i : Nat}
set_option maxHeartbeats 1000000 in
set_option maxRecDepth 100000 in
theorem item_bad (h : Rd w c s i) (hi : i < s.size) {er : Int} (hu : unit s i = .bad er) : Calls Tryd.prog 38 #[ptr c] w (RetI (.error (er, i)) c s w) := by
  have hlt := h.lt
  have h2 := h.2.1
  obtain ⟨c0, c1, _⟩ := (h.alloc fo).cells
  have HR := Lib.hid (h.alloc fo)
  have HB := Lib.hid (heap_new w fo)
  have HS := Lib.hid (show (w.alloc fo).heap.size = w.heap.size + 1 by simp)
  have HX0 := Lib.hid (Ex.of (c := c) ((Below.refl _ w).alloc (Nat.le_refl _) fo))
  have HU := Lib.hid (unit_any (h.alloc fo) hi)
  rw [hu] at HU
  clear h hu
  go_enter Tryd.func38, Tryd.ntmps38
  go_wp2_with fail
  refine HU.out.mono ?_
  rintro e w1 ⟨x, A, n, k, er', a, j, rfl, ⟨rfl, hv, rfl, rfl, hee⟩, hR1, hx1⟩
  injection hv with hv1 hv2 hv3
  subst hv1 hv2 hv3
  have en : (er' != 0) = true := by simp; omega
  have hx2 := (HX0.out.trans hx1)
  have hB1 := keepB HB.out hx1 (by omega)
  obtain ⟨t0, t1, t2, t3⟩ := blk2 hB1
  have hs1 : w.heap.size < w1.heap.size := lt_of_heap hB1
  go_wp2_with fail
  go_region
  all_goals (
    go_wp2_with fail
    refine bodyPost_ret (v := .tuple #[nls, fv er' (i : Int)]) ?_ rfl ⟨rfl, ⟨j, ?_⟩, ?_, hee⟩
    · rw [results_tc rfl]; go_simp
    · repeat' (first | with_reducible exact hR1 | with_reducible refine Rd.alloc ?_ _ | with_reducible refine Rd.drew ?_ | refine Rd.set ?_ (by omega) (by omega) _ _)
    · repeat' (first | with_reducible exact hx2 | with_reducible refine Ex.alloc ?_ _ | with_reducible refine Ex.drew ?_ | refine Ex.set ?_ (by omega) _ _))
set_option maxHeartbeats 1000000 in
set_option maxRecDepth 100000 in
theorem item_many (h : Rd w c s i) (hi : i < s.size) {l : List R} (hu : unit s i = .many l) : Calls Tryd.prog 38 #[ptr c] w (RetI (.ok (l, i + 2)) c s w) := by
  have hlt := h.lt
  have h2 := h.2.1
  obtain ⟨c0, c1, _⟩ := (h.alloc fo).cells
  have HR := Lib.hid (h.alloc fo)
  have HB := Lib.hid (heap_new w fo)
  have HS := Lib.hid (show (w.alloc fo).heap.size = w.heap.size + 1 by simp)
  have HX0 := Lib.hid (Ex.of (c := c) ((Below.refl _ w).alloc (Nat.le_refl _) fo))
  have HU := Lib.hid (unit_any (h.alloc fo) hi)
  rw [hu] at HU
  clear h hu
  go_enter Tryd.func38, Tryd.ntmps38
  go_wp2_with fail
  refine HU.out.mono ?_
  rintro e w1 ⟨x, A, n, k, er', a, j, rfl, ⟨rfl, rfl, rfl, rfl, ho⟩, hR1, hx1⟩
  obtain ⟨A', k', hv, _⟩ := ho.shape
  injection hv with hv1 hv2 hv3
  subst hv1 hv2 hv3
  have hx2 := (HX0.out.trans hx1)
  have hB1 := keepB HB.out hx1 (by omega)
  obtain ⟨t0, t1, t2, t3⟩ := blk2 hB1
  have hs1 : w.heap.size < w1.heap.size := lt_of_heap hB1
  have hs0 := HS.out
  have HO := Lib.hid (show S.Ow w1 (w.heap.size + 1) (.slice A l.length k) l by rw [← hs0]; exact ho)
  clear ho
  generalize hn : l.length = n at *
  go_wp2_with fail
  go_region
  all_goals (
    go_wp2_with fail
    refine bodyPost_ret (v := .tuple #[.slice A n k, fv 0 0]) ?_ rfl ⟨A, k, by rw [hn], ?_, ?_, ?_⟩
    · rw [results_tc rfl]; go_simp
    · rw [hn]
      refine S.Ow.less ?_ (Nat.le_succ _)
      repeat' (first | with_reducible exact HO.out | refine S.Ow.new ?_ _ | refine S.Ow.drew ?_ | refine S.Ow.set ?_ (by omega) _ _)
    · repeat' (first | with_reducible exact hR1 | with_reducible refine Rd.alloc ?_ _ | with_reducible refine Rd.drew ?_ | refine Rd.set ?_ (by omega) (by omega) _ _)
    · repeat' (first | with_reducible exact hx2 | with_reducible refine Ex.alloc ?_ _ | with_reducible refine Ex.drew ?_ | refine Ex.set ?_ (by omega) _ _))
set_option maxHeartbeats 1000000 in
set_option maxRecDepth 100000 in
theorem item_one (h : Rd w c s i) (hi : i < s.size) {x : Int} {n : Nat} (hu : unit s i = .one x n) (hd : bt s (i + n) ≠ 45) : Calls Tryd.prog 38 #[ptr c] w (RetI (.ok ([(x, x)], i + n)) c s w) := by
  have hlt := h.lt
  have h2 := h.2.1
  obtain ⟨c0, c1, _⟩ := (h.alloc fo).cells
  have HR := Lib.hid (h.alloc fo)
  have HB := Lib.hid (heap_new w fo)
  have HS := Lib.hid (show (w.alloc fo).heap.size = w.heap.size + 1 by simp)
  have HX0 := Lib.hid (Ex.of (c := c) ((Below.refl _ w).alloc (Nat.le_refl _) fo))
  have HU := Lib.hid (unit_any (h.alloc fo) hi)
  rw [hu] at HU
  clear h hu
  go_enter Tryd.func38, Tryd.ntmps38
  go_wp2_with fail
  refine HU.out.mono ?_
  rintro e w1 ⟨x', A, n', k, er', a, j, rfl, ⟨rfl, hv, rfl, rfl, rfl, hpos⟩, hR1, hx1⟩
  injection hv with hv1 hv2 hv3
  subst hv1 hv2 hv3
  have d0 : decide (x' < 0) = false := decide_eq_false (by omega)
  have hx2 := (HX0.out.trans hx1)
  have hB1 := keepB HB.out hx1 (by omega)
  have hs1 : w.heap.size < w1.heap.size := lt_of_heap hB1
  have hR1' := hR1.alloc fo
  obtain ⟨u0, u1, _⟩ := hR1'.cells
  have HR1 := Lib.hid hR1'
  clear hR1'
  go_wp2_with fail
  refine (skip_no HR1.out 45 hd).mono ?_
  rintro e w2 ⟨rfl, hR2, hx3⟩
  go_wp2_with fail
  refine (one_any x' w2).mono ?_
  intro e w3 hr3
  obtain ⟨g, k, rfl, ho3, hb3⟩ := RetR.some_ hr3 (by simp)
  have hx4 := (((Ex.refl c w1).alloc fo).trans hx3).on hb3
  have hB3 := keepB hB1 hx4 (by omega)
  obtain ⟨t0, t1, t2, t3⟩ := blk2 hB3
  have hz4 := hx3.size
  have hz5 : (w1.alloc fo).heap.size = w1.heap.size + 1 := by simp
  have hR3 := hR2.on hb3
  have hx5 := hx2.trans hx4
  go_wp2_with fail
  refine bodyPost_ret (v := .tuple #[.slice (some ⟨g, 0, none⟩) 1 k, fv 0 0]) ?_ rfl ⟨_, _, rfl, ?_, ?_, ?_⟩
  · rw [results_tc rfl]; go_simp
  · exact ((ho3.set (by omega) 0 _).set (by omega) 1 _).less (by omega)
  · repeat' (first | with_reducible exact hR3 | with_reducible refine Rd.alloc ?_ _ | with_reducible refine Rd.drew ?_ | refine Rd.set ?_ (by omega) (by omega) _ _)
  · repeat' (first | with_reducible exact hx5 | with_reducible refine Ex.alloc ?_ _ | with_reducible refine Ex.drew ?_ | refine Ex.set ?_ (by omega) _ _)
set_option maxHeartbeats 1000000 in
set_option maxRecDepth 100000 in
theorem item_turned (h : Rd w c s i) (hi : i < s.size) {x : Int} {n : Nat} (hu : unit s i = .one x n) (hd : bt s (i + n) = 45) (hi2 : i + n + 1 < s.size) {y : Int} {m : Nat} (hu2 : unit s (i + n + 1) = .one y m) (hyx : y < x) :
    Calls Tryd.prog 38 #[ptr c] w (RetI (.error (4, i)) c s w) := by
  have hlt := h.lt
  have h2 := h.2.1
  obtain ⟨c0, c1, _⟩ := (h.alloc fo).cells
  have HR := Lib.hid (h.alloc fo)
  have HB := Lib.hid (heap_new w fo)
  have HS := Lib.hid (show (w.alloc fo).heap.size = w.heap.size + 1 by simp)
  have HX0 := Lib.hid (Ex.of (c := c) ((Below.refl _ w).alloc (Nat.le_refl _) fo))
  have HU := Lib.hid (unit_any (h.alloc fo) hi)
  rw [hu] at HU
  have HU2 := Lib.hid hu2
  clear hu2
  clear h hu
  go_enter Tryd.func38, Tryd.ntmps38
  go_wp2_with fail
  refine HU.out.mono ?_
  rintro e w1 ⟨x', A, n', k, er', a, j, rfl, ⟨rfl, hv, rfl, rfl, rfl, hpos⟩, hR1, hx1⟩
  injection hv with hv1 hv2 hv3
  subst hv1 hv2 hv3
  have d0 : decide (x' < 0) = false := decide_eq_false (by omega)
  have hx2 := (HX0.out.trans hx1)
  have hB1 := keepB HB.out hx1 (by omega)
  have hs1 : w.heap.size < w1.heap.size := lt_of_heap hB1
  have hR1' := hR1.alloc fo
  obtain ⟨u0, u1, _⟩ := hR1'.cells
  have HR1 := Lib.hid hR1'
  clear hR1'
  go_wp2_with fail
  refine (skip_yes HR1.out 45 hd (by omega)).mono ?_
  rintro e w2 ⟨rfl, hR2, hx3⟩
  go_wp2_with fail
  refine (unit_any hR2 hi2).mono ?_
  rw [HU2.out]
  rintro e w3 ⟨y', A, n', k, er', a, j', rfl, ⟨rfl, hv, rfl, rfl, rfl, hpos2⟩, hR3, hx4⟩
  injection hv with hv1 hv2 hv3
  subst hv1 hv2 hv3
  have d1 : decide (y' < 0) = false := decide_eq_false (by omega)
  have hx13 := (hx3.trans hx4)
  have hB3 := keepB hB1 (((Ex.refl c w1).alloc fo).trans hx13) (by omega)
  obtain ⟨t0, t1, t2, t3⟩ := blk2 hB3
  have hF3 := keepB (heap_new w1 fo) hx13 (by omega)
  obtain ⟨q0, q1, q2, q3⟩ := blk2 hF3
  have hx5 := (hx2.alloc fo).trans hx13
  have hz3 : w1.heap.size < w3.heap.size := lt_of_heap hF3
  have d2 : decide (y' < x') = true := decide_eq_true hyx
  go_wp2_with fail
  refine (syntaxAt_any (i : Int) _).mono ?_
  rintro e w4 ⟨rfl, hb4⟩
  have hB4 : w4.heap[w.heap.size]? = some fo := keepL (by rw [Below.heap_setCell _ _ _ _ (by show w.heap.size ≠ w1.heap.size; omega), Below.heap_setCell _ _ _ _ (by show w.heap.size ≠ w1.heap.size; omega)]; exact hB3) hb4
  obtain ⟨s0, s1, s2, s3⟩ := blk2 hB4
  have hR4 : Rd w4 c s (i + n + 1 + m) := ((hR3.set (by omega) (by omega) 0 _).set (by omega) (by omega) 1 _).on hb4
  have hx6 : Ex c w w4 := ((hx5.set (by omega) 0 _).set (by omega) 1 _).on hb4
  go_wp2_with fail
  refine bodyPost_ret (v := .tuple #[nls, fv 4 (i : Int)]) ?_ rfl ⟨rfl, ⟨i + n + 1 + m, ?_⟩, ?_, .inl rfl⟩
  · rw [results_tc rfl]; go_simp
  · repeat' (first | with_reducible exact hR4 | with_reducible refine Rd.alloc ?_ _ | with_reducible refine Rd.drew ?_ | refine Rd.set ?_ (by omega) (by omega) _ _)
  · repeat' (first | with_reducible exact hx6 | with_reducible refine Ex.alloc ?_ _ | with_reducible refine Ex.drew ?_ | refine Ex.set ?_ (by omega) _ _)
set_option maxHeartbeats 1000000 in
set_option maxRecDepth 100000 in
theorem item_range (h : Rd w c s i) (hi : i < s.size) {x : Int} {n : Nat} (hu : unit s i = .one x n) (hd : bt s (i + n) = 45) (hi2 : i + n + 1 < s.size) {y : Int} {m : Nat} (hu2 : unit s (i + n + 1) = .one y m) (hyx : ¬ y < x) :
    Calls Tryd.prog 38 #[ptr c] w (RetI (.ok ([(x, y)], i + n + 1 + m)) c s w) := by
  have hlt := h.lt
  have h2 := h.2.1
  obtain ⟨c0, c1, _⟩ := (h.alloc fo).cells
  have HR := Lib.hid (h.alloc fo)
  have HB := Lib.hid (heap_new w fo)
  have HS := Lib.hid (show (w.alloc fo).heap.size = w.heap.size + 1 by simp)
  have HX0 := Lib.hid (Ex.of (c := c) ((Below.refl _ w).alloc (Nat.le_refl _) fo))
  have HU := Lib.hid (unit_any (h.alloc fo) hi)
  rw [hu] at HU
  have HU2 := Lib.hid hu2
  clear hu2
  clear h hu
  go_enter Tryd.func38, Tryd.ntmps38
  go_wp2_with fail
  refine HU.out.mono ?_
  rintro e w1 ⟨x', A, n', k, er', a, j, rfl, ⟨rfl, hv, rfl, rfl, rfl, hpos⟩, hR1, hx1⟩
  injection hv with hv1 hv2 hv3
  subst hv1 hv2 hv3
  have d0 : decide (x' < 0) = false := decide_eq_false (by omega)
  have hx2 := (HX0.out.trans hx1)
  have hB1 := keepB HB.out hx1 (by omega)
  have hs1 : w.heap.size < w1.heap.size := lt_of_heap hB1
  have hR1' := hR1.alloc fo
  obtain ⟨u0, u1, _⟩ := hR1'.cells
  have HR1 := Lib.hid hR1'
  clear hR1'
  go_wp2_with fail
  refine (skip_yes HR1.out 45 hd (by omega)).mono ?_
  rintro e w2 ⟨rfl, hR2, hx3⟩
  go_wp2_with fail
  refine (unit_any hR2 hi2).mono ?_
  rw [HU2.out]
  rintro e w3 ⟨y', A, n', k, er', a, j', rfl, ⟨rfl, hv, rfl, rfl, rfl, hpos2⟩, hR3, hx4⟩
  injection hv with hv1 hv2 hv3
  subst hv1 hv2 hv3
  have d1 : decide (y' < 0) = false := decide_eq_false (by omega)
  have hx13 := (hx3.trans hx4)
  have hB3 := keepB hB1 (((Ex.refl c w1).alloc fo).trans hx13) (by omega)
  obtain ⟨t0, t1, t2, t3⟩ := blk2 hB3
  have hF3 := keepB (heap_new w1 fo) hx13 (by omega)
  obtain ⟨q0, q1, q2, q3⟩ := blk2 hF3
  have hx5 := (hx2.alloc fo).trans hx13
  have hz3 : w1.heap.size < w3.heap.size := lt_of_heap hF3
  have d2 : decide (y' < x') = false := decide_eq_false (by omega)
  have hB4 : (((w3.setCell ⟨w1.heap.size, 0, none⟩ (.int .i64 0)).setCell ⟨w1.heap.size, 1, none⟩ (.int .i64 0)).alloc (.cells #[.int .i64 x', .int .i64 y'] 77)).heap[w.heap.size]? = some fo :=
    keepL (by rw [Below.heap_setCell _ _ _ _ (by show w.heap.size ≠ w1.heap.size; omega), Below.heap_setCell _ _ _ _ (by show w.heap.size ≠ w1.heap.size; omega)]; exact hB3) ((Below.refl _ _).alloc (Nat.le_refl _) _)
  obtain ⟨s0, s1, s2, s3⟩ := blk2 hB4
  go_wp2_with fail
  refine bodyPost_ret (v := .tuple #[.slice (some ⟨w3.heap.size, 0, none⟩) 1 1, fv 0 0]) ?_ rfl ⟨_, _, rfl, ?_, ?_, ?_⟩
  · rw [results_tc rfl]; go_simp
  · have := ow_lit1 ((w3.setCell ⟨w1.heap.size, 0, none⟩ (.int .i64 0)).setCell ⟨w1.heap.size, 1, none⟩ (.int .i64 0)) x' y'
    have hsz : ((w3.setCell ⟨w1.heap.size, 0, none⟩ (.int .i64 0)).setCell ⟨w1.heap.size, 1, none⟩ (.int .i64 0)).heap.size = w3.heap.size := by simp [World.setCell]
    rw [hsz] at this
    exact ((this.set (by omega) 0 _).set (by omega) 1 _).less (by omega)
  · repeat' (first | with_reducible exact hR3 | with_reducible refine Rd.alloc ?_ _ | with_reducible refine Rd.drew ?_ | refine Rd.set ?_ (by omega) (by omega) _ _)
  · repeat' (first | with_reducible exact hx5 | with_reducible refine Ex.alloc ?_ _ | with_reducible refine Ex.drew ?_ | refine Ex.set ?_ (by omega) _ _)
set_option maxHeartbeats 1000000 in
set_option maxRecDepth 100000 in
theorem item_norange (h : Rd w c s i) (hi : i < s.size) {x : Int} {n : Nat} (hu : unit s i = .one x n) (hd : bt s (i + n) = 45) (hi2 : i + n + 1 < s.size) (hu2 : ∀ y m, unit s (i + n + 1) ≠ .one y m) :
    Calls Tryd.prog 38 #[ptr c] w (RetI (.error (4, i + n)) c s w) := by
  have hlt := h.lt
  have h2 := h.2.1
  obtain ⟨c0, c1, _⟩ := (h.alloc fo).cells
  have HR := Lib.hid (h.alloc fo)
  have HB := Lib.hid (heap_new w fo)
  have HS := Lib.hid (show (w.alloc fo).heap.size = w.heap.size + 1 by simp)
  have HX0 := Lib.hid (Ex.of (c := c) ((Below.refl _ w).alloc (Nat.le_refl _) fo))
  have HU := Lib.hid (unit_any (h.alloc fo) hi)
  rw [hu] at HU
  clear h hu
  go_enter Tryd.func38, Tryd.ntmps38
  go_wp2_with fail
  refine HU.out.mono ?_
  rintro e w1 ⟨x', A, n', k, er', a, j, rfl, ⟨rfl, hv, rfl, rfl, rfl, hpos⟩, hR1, hx1⟩
  injection hv with hv1 hv2 hv3
  subst hv1 hv2 hv3
  have d0 : decide (x' < 0) = false := decide_eq_false (by omega)
  have hx2 := (HX0.out.trans hx1)
  have hB1 := keepB HB.out hx1 (by omega)
  have hs1 : w.heap.size < w1.heap.size := lt_of_heap hB1
  have hR1' := hR1.alloc fo
  obtain ⟨u0, u1, _⟩ := hR1'.cells
  have HR1 := Lib.hid hR1'
  clear hR1'
  go_wp2_with fail
  refine (skip_yes HR1.out 45 hd (by omega)).mono ?_
  rintro e w2 ⟨rfl, hR2, hx3⟩
  go_wp2_with fail
  refine (unit_any hR2 hi2).mono ?_
  rintro e w3 ⟨y', A, n', k, er', a, j', rfl, hup, hR3, hx4⟩
  have hcase : (er' != 0) = true ∨ ((er' != 0) = false ∧ decide (y' < 0) = true) := by
    cases he : unit s (i + n + 1) with
    | bad e => rw [he] at hup; obtain ⟨_, _, rfl, _, hee⟩ := hup; left; simp; omega
    | one y m => exact absurd he (hu2 y m)
    | many l => rw [he] at hup; obtain ⟨rfl, rfl, _⟩ := hup; right; simp
  clear hup hu2
  have hx13 := (hx3.trans hx4)
  have hB3 := keepB hB1 (((Ex.refl c w1).alloc fo).trans hx13) (by omega)
  obtain ⟨t0, t1, t2, t3⟩ := blk2 hB3
  have hF3 := keepB (heap_new w1 fo) hx13 (by omega)
  obtain ⟨q0, q1, q2, q3⟩ := blk2 hF3
  have hx5 := (hx2.alloc fo).trans hx13
  have hz3 : w1.heap.size < w3.heap.size := lt_of_heap hF3
  rcases hcase with d1 | ⟨d1, d2⟩
  all_goals (
    go_wp2_with fail
    refine (syntaxAt_any _ _).mono ?_
    rintro e w4 ⟨rfl, hb4⟩
    have hB4 : w4.heap[w.heap.size]? = some fo := keepL (by rw [Below.heap_setCell _ _ _ _ (by show w.heap.size ≠ w1.heap.size; omega), Below.heap_setCell _ _ _ _ (by show w.heap.size ≠ w1.heap.size; omega)]; exact hB3) hb4
    obtain ⟨s0, s1, s2, s3⟩ := blk2 hB4
    have hR4 : Rd w4 c s j' := ((hR3.set (by omega) (by omega) 0 _).set (by omega) (by omega) 1 _).on hb4
    have hx6 : Ex c w w4 := ((hx5.set (by omega) 0 _).set (by omega) 1 _).on hb4
    go_wp2_with fail
    refine bodyPost_ret (v := .tuple #[nls, fv 4 ((i + n : Nat) : Int)]) ?_ rfl ⟨rfl, ⟨j', ?_⟩, ?_, .inl rfl⟩
    · rw [results_tc rfl]; go_simp
    · repeat' (first | with_reducible exact hR4 | with_reducible refine Rd.alloc ?_ _ | with_reducible refine Rd.drew ?_ | refine Rd.set ?_ (by omega) (by omega) _ _)
    · repeat' (first | with_reducible exact hx6 | with_reducible refine Ex.alloc ?_ _ | with_reducible refine Ex.drew ?_ | refine Ex.set ?_ (by omega) _ _))
theorem item_any (h : Rd w c s i) (hi : i < s.size) (hin : ∀ x n, unit s i = .one x n → bt s (i + n) = 45 → i + n + 1 < s.size) : Calls Tryd.prog 38 #[ptr c] w (RetI (item s i) c s w) := by
  unfold item
  cases hu : unit s i with
  | bad e => exact item_bad h hi hu
  | many l => exact item_many h hi hu
  | one x n =>
    dsimp only
    by_cases hd : bt s (i + n) = 45
    · rw [if_pos hd]
      have hi2 := hin x n hu hd
      cases hu2 : unit s (i + n + 1) with
      | bad e => exact item_norange h hi hu hd hi2 (fun y m => by rw [hu2]; exact fun e => by cases e)
      | many l => exact item_norange h hi hu hd hi2 (fun y m => by rw [hu2]; exact fun e => by cases e)
      | one y m =>
        dsimp only
        by_cases hyx : y < x
        · rw [if_pos hyx]; exact item_turned h hi hu hd hi2 hu2 hyx
        · rw [if_neg hyx]; exact item_range h hi hu hd hi2 hu2 hyx
    · rw [if_neg hd]
      exact item_one h hi hu hd
end
end Go.Proofs.YtceeimolfalmpaaDoor

namespace Go.Proofs.YtceeimolfalmpaaDoor
open Go.RowKit ObUtf ObSets ObLex

theorem rd_new {w : World} {c : Nat} {s : ByteArray} {i : Nat} (h : Rd w c s i) : Rd (w.alloc (.cells #[.string s, .int .i64 (i : Int)] 48)) w.heap.size s i :=
  ⟨heap_new _ _, h.2.2.1.2, (h.alloc _).2.2.1, h.2.2.2⟩
section
variable {w : World} {c : Nat} {s : ByteArray} {i : Nat}
theorem take_is (h : Rd w c s i) {x : Int} {j : Nat} (hx : sy s i = x) (hj : i + wd s i = j) : Calls Tryd.prog 36 #[ptr c] w fun e w' => e = .returned (.int .i64 x) ∧ Rd w' c s j ∧ Ex c w w' := by
  have := take_rd h
  rw [hx, hj] at this
  exact this
set_option maxHeartbeats 1000000 in
set_option maxRecDepth 100000 in
theorem classEnd_any (h : Rd w c s i) {T : Int} {b : Bool} (hres : (∃ t : Nat, cend s i = some t ∧ T = t ∧ b = true) ∨ (cend s i = none ∧ T = 0 ∧ b = false)) :
    Calls Tryd.prog 34 #[ptr c] w fun e w' => e = .returned (.tuple #[.int .i64 T, .bool b]) ∧ Below w.heap.size w w' := by
  have hlt := h.lt
  obtain ⟨c0, c1, _⟩ := h.cells
  have HN := Lib.hid (rd_new h)
  have HRes := Lib.hid hres
  have hz := h.2.2.2
  clear h hres
  go_enter Tryd.func34, Tryd.ntmps34
  go_wp2_with fail
  go_region
  all_goals (
    go_wp2_with fail
    go_loopw [5] (fun _ wr => ∃ k : Nat, Rd wr w.heap.size s k ∧ Hid (cend s k = cend s i) ∧ Below w.heap.size w wr) (fun _ wr => s.size + 1 - (intOf ((wr.cell? ⟨w.heap.size, 1, none⟩).getD (.int .i64 0))).toNat)
    case atStart => exact ⟨i, HN.out.drew, rfl, ((Below.refl _ w).alloc (Nat.le_refl _) _).drew⟩
    case round =>
      obtain ⟨k, hR, HC, hb⟩ := hrel
      obtain ⟨u0, u1, _⟩ := hR.cells
      have hk := hR.2.2.2.1
      rw [u1]
      by_cases hks : s.size ≤ k
      · have hres := HRes.out
        rw [← HC.out, cend_out hks] at hres
        obtain ⟨rfl, rfl⟩ : T = 0 ∧ b = false := by
          rcases hres with ⟨t, e, _⟩ | ⟨_, h1, h2⟩
          · cases e
          · exact ⟨h1, h2⟩
        clear hres
        go_wp2_with fail
        refine (take_is hR (sy_out hks) rfl).mono ?_
        rintro e w1 ⟨rfl, hR1, hx1⟩
        go_wp2_with fail
        go_ret2
        exact ⟨rfl, hb.trans (hx1.below hb.size (Nat.le_refl _))⟩
      · have hks' : k < s.size := by omega
        by_cases h93 : bt s k = 93
        · have hres := HRes.out
          rw [← HC.out, cend_end h93] at hres
          obtain ⟨rfl, rfl⟩ : T = k ∧ b = true := by
            rcases hres with ⟨t, e, h1, h2⟩ | ⟨e, _⟩
            · injection e with e; subst e; exact ⟨h1, h2⟩
            · cases e
          clear hres
          go_wp2_with fail
          refine (take_is hR ((is hks' (by omega : 93 < 128)).2 h93) rfl).mono ?_
          rintro e w1 ⟨rfl, hR1, hx1⟩
          go_wp2_with fail
          go_ret2
          exact ⟨rfl, hb.trans (hx1.below hb.size (Nat.le_refl _))⟩
        · by_cases h92 : bt s k = 92
          · have HC2 := Lib.hid ((cend_two h92).symm.trans HC.out)
            have hw1 := (at92 h92).2.2
            go_wp2_with fail
            refine (take_is hR (at92 h92).2.1 (j := k + 1) (by rw [hw1])).mono ?_
            rintro e w1 ⟨rfl, hR1, hx1⟩
            go_wp2_with fail
            refine (take_rd hR1).mono ?_
            rintro e w2 ⟨rfl, hR2, hx2⟩
            have hb2 := hb.trans ((hx1.trans hx2).below hb.size (Nat.le_refl _))
            have u2 := hR2.cells.2.1
            have hk2 := hR2.2.2.2.1
            go_wp2_with fail
            go_roundw
            case rel => exact ⟨_, hR2, HC2.out, hb2⟩
            case measure => rw [u2]; simp [intOf]; omega
          · have HC2 := Lib.hid ((cend_step hks' h93 h92).symm.trans HC.out)
            have hp := wd_pos hks'
            have e1 : (sy s k == 93) = false := beq_eq_false_iff_ne.2 (fun e => h93 ((is hks' (by omega : 93 < 128)).1 e))
            have e2 : (sy s k == 92) = false := beq_eq_false_iff_ne.2 (fun e => h92 ((is hks' (by omega : 92 < 128)).1 e))
            have e3 : (sy s k == -1) = false := beq_eq_false_iff_ne.2 (by have := (sy_range hks').1; omega)
            go_wp2_with fail
            refine (take_rd hR).mono ?_
            generalize sy s k = x at *
            rintro e w1 ⟨rfl, hR1, hx1⟩
            have hb2 := hb.trans (hx1.below hb.size (Nat.le_refl _))
            have u2 := hR1.cells.2.1
            have hk2 := hR1.2.2.2.1
            go_wp2_with fail
            go_roundw
            case rel => exact ⟨_, hR1, HC2.out, hb2⟩
            case measure => rw [u2]; simp [intOf]; omega)
end
end Go.Proofs.YtceeimolfalmpaaDoor

namespace Go.Proofs.YtceeimolfalmpaaDoor
open Go.RowKit ObUtf ObSets ObLex

/-- What is handed back for a word. -/
def RetW (r : Res (T × Nat)) (c : Nat) (s : ByteArray) (w : World) (e : Ending) (w' : World) : Prop :=
  match r with
  | .error (er, a) => e = .returned (.tuple #[tv 0 0 nls 0 0, fv er (a : Int)]) ∧ Ex c w w' ∧ (er = 4 ∨ er = 5 ∨ er = 7)
  | .ok (t, q) => ∃ A k, e = .returned (.tuple #[tv t.kind 0 (.slice A t.set.length k) t.mn t.mx, fv 0 0]) ∧ S.Ow w' w.heap.size (.slice A t.set.length k) t.set ∧ Rd w' c s q ∧ Ex c w w'
theorem keepN {w w' : World} {r B : Nat} {o : Obj} (h : w.heap[r]? = some o) (hb : Below B w w') (hr : r < B) : w'.heap[r]? = some o := (hb.block _ hr).trans h
theorem Rd.upto {w w' : World} {c B : Nat} {s : ByteArray} {i : Nat} (h : Rd w c s i) (hb : Below B w w') (hc : c < B) : Rd w' c s i := by
  have h2 := h.2.1
  refine ⟨keepN h.1 hb hc, h.2.1, ?_, h.2.2.2⟩
  obtain ⟨⟨h1, h2⟩, h3⟩ := h.2.2.1
  refine ⟨⟨fun c hc => ?_, fun c hc => ?_⟩, Nat.le_trans h3 hb.size⟩
  · exact (hb.cell (p := ⟨0, c, none⟩) (by show 0 < B; omega)).trans (h1 c hc)
  · have := h2 c hc
    exact ⟨(hb.cell (p := ⟨1, _, none⟩) (by show 1 < B; omega)).trans this.1, (hb.cell (p := ⟨1, _, none⟩) (by show 1 < B; omega)).trans this.2⟩
theorem Ex.upto {c : Nat} {w w1 w2 : World} (k : Ex c w w1) (h : Below w.heap.size w1 w2) : Ex c w w2 :=
  ⟨h.os.trans k.os, h.tape.trans k.tape, h.output.trans k.output, Nat.le_trans k.size h.size, fun i hi hne => (h.block i hi).trans (k.block i hi hne)⟩
theorem below_grown {B : Nat} {w w' : World} {row : Option Nat} (hg : w.grownBy w' row) (hB : B ≤ w.heap.size) (hr : ∀ k, row = some k → B ≤ k) : Below B w w' := (Below.refl B w).grown hg hB hr
/-- The world with both results' cells. -/
abbrev W0 (w : World) : World := (w.alloc to_).alloc fo
theorem w0_size (w : World) : (W0 w).heap.size = w.heap.size + 2 := by simp
theorem w0_tok (w : World) : (W0 w).heap[w.heap.size]? = some to_ := keepL (heap_new w to_) ((Below.refl _ _).alloc (Nat.le_refl _) _)
theorem w0_fault (w : World) : (W0 w).heap[w.heap.size + 1]? = some fo := by
  have := heap_new (w.alloc to_) fo
  simpa using this
theorem w0_below (w : World) : Below w.heap.size w (W0 w) := ((Below.refl _ w).alloc (Nat.le_refl _) _).alloc (by simp) _
theorem Rd.w0 {w : World} {c : Nat} {s : ByteArray} {i : Nat} (h : Rd w c s i) : Rd (W0 w) c s i := (h.alloc _).alloc _
section
variable {w : World} {c : Nat} {s : ByteArray} {i : Nat}
theorem take_low (h : Rd w c s i) {b : Nat} (hb : bt s i = b) (h0 : b ≠ 0) (h1 : b < 128) : Calls Tryd.prog 36 #[ptr c] w fun e w' => e = .returned (.int .i64 (b : Int)) ∧ Rd w' c s (i + 1) ∧ Ex c w w' := by
  have hi := bt_in (s := s) (i := i) (by omega)
  have hl := low hi (by omega)
  exact take_is h (by rw [hl.2, hb]) (by rw [hl.1])
set_option maxHeartbeats 1000000 in
set_option maxRecDepth 100000 in
theorem class_noend (h : Rd w c s i) (h91 : bt s i = 91) (he : cend s (i + 1) = none) : Calls Tryd.prog 18 #[ptr c] w (RetW (.error (4, i)) c s w) := by
  have hlt := h.lt
  have h2 := h.2.1
  obtain ⟨c0, c1, _⟩ := h.w0.cells
  have HE := Lib.hid (classEnd_any h.w0 (T := 0) (b := false) (.inr ⟨(cend_open h91).trans he, rfl, rfl⟩))
  have HT := Lib.hid (w0_tok w)
  have HF := Lib.hid (w0_fault w)
  have HX0 := Lib.hid (Ex.of (c := c) (w0_below w))
  clear h h91 he
  go_enter Tryd.func18, Tryd.ntmps18
  go_wp2_with fail
  refine HE.out.mono ?_
  rintro e w1 ⟨rfl, hb1⟩
  go_wp2_with fail
  refine (syntaxAt_any _ _).mono ?_
  rintro e w2 ⟨rfl, hb2⟩
  have hb := bel_trans hb1 hb2
  have hx := HX0.out.on hb
  obtain ⟨⟨t0, t1, t2, t3, t4⟩, f0, f1, f2, f3, f4⟩ := blk5 (keepL HT.out hb)
  obtain ⟨q0, q1, q2, q3⟩ := blk2 (keepL HF.out hb)
  go_wp2_with fail
  refine bodyPost_ret (v := .tuple #[tv 0 0 nls 0 0, fv 4 (i : Int)]) ?_ rfl ⟨rfl, ?_, .inl rfl⟩
  · rw [results_cc rfl]; go_simp
  · repeat' (first | with_reducible exact hx | with_reducible refine Ex.alloc ?_ _ | with_reducible refine Ex.drew ?_ | refine Ex.set ?_ (by omega) _ _)
set_option maxHeartbeats 1000000 in
set_option maxRecDepth 100000 in
theorem class_empty (h : Rd w c s i) (h91 : bt s i = 91) {to : Nat} (he : cend s (i + 1) = some to) (hto : to = if bt s (i + 1) = 94 then i + 2 else i + 1) : Calls Tryd.prog 18 #[ptr c] w (RetW (.error (4, to)) c s w) := by
  have hlt := h.lt
  have h2 := h.2.1
  obtain ⟨c0, c1, _⟩ := h.w0.cells
  have HE := Lib.hid (classEnd_any h.w0 (T := to) (b := true) (.inl ⟨to, (cend_open h91).trans he, rfl, rfl⟩))
  have HT := Lib.hid (w0_tok w)
  have HF := Lib.hid (w0_fault w)
  have HX0 := Lib.hid (Ex.of (c := c) (w0_below w))
  have HR := Lib.hid h.w0
  have H91 := Lib.hid h91
  clear h h91 he
  by_cases h94 : bt s (i + 1) = 94
  · rw [if_pos h94] at hto
    go_enter Tryd.func18, Tryd.ntmps18
    go_wp2_with fail
    refine HE.out.mono ?_
    rintro e w1 ⟨rfl, hb1⟩
    go_wp2_with fail
    refine (take_low (HR.out.on hb1) H91.out (by omega) (by omega)).mono ?_
    rintro e w2 ⟨rfl, hR2, hx2⟩
    go_wp2_with fail
    refine (skip_yes hR2 94 h94 (by omega)).mono ?_
    rintro e w3 ⟨rfl, hR3, hx3⟩
    obtain ⟨u0, u1, _⟩ := hR3.cells
    have e1 : (((i + 1 + 1 : Nat) : Int) == (to : Int)) = true := by simp; omega
    go_wp2_with fail
    refine (syntaxAt_any _ _).mono ?_
    rintro e w4 ⟨rfl, hb4⟩
    have hx' := ((Ex.of (c := c) hb1).trans (hx2.trans hx3)).on hb4
    have hx := HX0.out.trans hx'
    obtain ⟨⟨t0, t1, t2, t3, t4⟩, f0, f1, f2, f3, f4⟩ := blk5 (keepB HT.out hx' (by omega))
    obtain ⟨q0, q1, q2, q3⟩ := blk2 (keepB HF.out hx' (by omega))
    go_wp2_with fail
    refine bodyPost_ret (v := .tuple #[tv 0 0 nls 0 0, fv 4 (to : Int)]) ?_ rfl ⟨rfl, ?_, .inl rfl⟩
    · rw [results_cc rfl]; go_simp
    · repeat' (first | with_reducible exact hx | with_reducible refine Ex.alloc ?_ _ | with_reducible refine Ex.drew ?_ | refine Ex.set ?_ (by omega) _ _)
  · rw [if_neg h94] at hto
    go_enter Tryd.func18, Tryd.ntmps18
    go_wp2_with fail
    refine HE.out.mono ?_
    rintro e w1 ⟨rfl, hb1⟩
    go_wp2_with fail
    refine (take_low (HR.out.on hb1) H91.out (by omega) (by omega)).mono ?_
    rintro e w2 ⟨rfl, hR2, hx2⟩
    go_wp2_with fail
    refine (skip_no hR2 94 h94).mono ?_
    rintro e w3 ⟨rfl, hR3, hx3⟩
    obtain ⟨u0, u1, _⟩ := hR3.cells
    have e1 : (((i + 1 : Nat) : Int) == (to : Int)) = true := by simp; omega
    go_wp2_with fail
    refine (syntaxAt_any _ _).mono ?_
    rintro e w4 ⟨rfl, hb4⟩
    have hx' := ((Ex.of (c := c) hb1).trans (hx2.trans hx3)).on hb4
    have hx := HX0.out.trans hx'
    obtain ⟨⟨t0, t1, t2, t3, t4⟩, f0, f1, f2, f3, f4⟩ := blk5 (keepB HT.out hx' (by omega))
    obtain ⟨q0, q1, q2, q3⟩ := blk2 (keepB HF.out hx' (by omega))
    go_wp2_with fail
    refine bodyPost_ret (v := .tuple #[tv 0 0 nls 0 0, fv 4 (to : Int)]) ?_ rfl ⟨rfl, ?_, .inl rfl⟩
    · rw [results_cc rfl]; go_simp
    · repeat' (first | with_reducible exact hx | with_reducible refine Ex.alloc ?_ _ | with_reducible refine Ex.drew ?_ | refine Ex.set ?_ (by omega) _ _)
end
end Go.Proofs.YtceeimolfalmpaaDoor
