/-
  A tree of one node by a number (leaf), as the statements make it. Condition: a number below 13.
-/
import Derived.Test.YtceeimolfalmpaaVS
namespace Go.Proofs.Ytceeimolfalmpaa
open Go.RowKit ObSets ObTree ObTree.Tree

/-- The node by a number. -/
def leafN (k : Nat) : Nd :=
  if k = 4 then setN [(97, 98)] else if k = 5 then setN (notL [(97, 97)]) else if k = 6 then setN (notL [(10, 10)]) else if k = 7 then setN [(233, 233)] else if k = 8 then setN [(1114367, 1114367)]
  else if k = 9 then setN [(10, 10)] else if k = 10 then ⟨3, 0, 0, [], 0, 0, 0⟩ else if k = 11 then ⟨4, 0, 0, [], 0, 0, 0⟩ else if k = 12 then ⟨1, 0, 0, [], 0, 0, 0⟩ else setN [(97 + ((k % 4 : Nat) : Int), 97 + ((k % 4 : Nat) : Int))]
set_option maxHeartbeats 2000000 in
set_option maxRecDepth 100000 in
theorem leaf_0 (w : World) : Calls Try.prog 32 #[.int .i64 0] w (RetTr w [leafN 0]) := by
  have e : leafN 0 = setN [(97, 97)] := rfl
  rw [e]
  have hO := fun (W : World) => one_any 97 W
  have hA1 := (Below.refl w.heap.size w).alloc (Nat.le_refl _) (.cells #[.slice none 0 0] 24)
  have hG1 := heap_new w (.cells #[.slice none 0 0] 24)
  have hz1 : (w.alloc (.cells #[.slice none 0 0] 24)).heap.size = w.heap.size + 1 := by simp
  have HG1 := Lib.hid hG1; have HA1 := Lib.hid hA1
  clear hG1 hA1 e
  go_enter Try.func32, Try.ntmps32
  go_wp2_with fail
  refine (hO _).mono ?_
  rintro e w2 ⟨A, c, rfl, hN, hA, hb2⟩
  have hG2 := keepL HG1.out hb2
  have HB0 := Lib.hid (HA1.out.trans (hb2.mono HA1.out.size))
  obtain ⟨r0, f0⟩ := obj29 hG2
  have HNR := Lib.hid (nr_set1 hG2 hN (.slice A 1 c))
  have HB := Lib.hid (HB0.out.setCell (p := ⟨w.heap.size, 0, none⟩) (Nat.le_refl _) (.slice A 1 c))
  have HA := Lib.hid hA
  clear hb2 hN hA hG2
  go_wp2_with fail
  refine bodyPost_ret (v := tr A 1 c) ?_ rfl ⟨A, c, rfl, HNR.out, HA.out, HB.out⟩
  rw [S.results_cell1 rfl]
  go_simp
set_option maxHeartbeats 2000000 in
set_option maxRecDepth 100000 in
theorem leaf_1 (w : World) : Calls Try.prog 32 #[.int .i64 1] w (RetTr w [leafN 1]) := by
  have e : leafN 1 = setN [(98, 98)] := rfl
  rw [e]
  have hO := fun (W : World) => one_any 98 W
  have hA1 := (Below.refl w.heap.size w).alloc (Nat.le_refl _) (.cells #[.slice none 0 0] 24)
  have hG1 := heap_new w (.cells #[.slice none 0 0] 24)
  have hz1 : (w.alloc (.cells #[.slice none 0 0] 24)).heap.size = w.heap.size + 1 := by simp
  have HG1 := Lib.hid hG1; have HA1 := Lib.hid hA1
  clear hG1 hA1 e
  go_enter Try.func32, Try.ntmps32
  go_wp2_with fail
  refine (hO _).mono ?_
  rintro e w2 ⟨A, c, rfl, hN, hA, hb2⟩
  have hG2 := keepL HG1.out hb2
  have HB0 := Lib.hid (HA1.out.trans (hb2.mono HA1.out.size))
  obtain ⟨r0, f0⟩ := obj29 hG2
  have HNR := Lib.hid (nr_set1 hG2 hN (.slice A 1 c))
  have HB := Lib.hid (HB0.out.setCell (p := ⟨w.heap.size, 0, none⟩) (Nat.le_refl _) (.slice A 1 c))
  have HA := Lib.hid hA
  clear hb2 hN hA hG2
  go_wp2_with fail
  refine bodyPost_ret (v := tr A 1 c) ?_ rfl ⟨A, c, rfl, HNR.out, HA.out, HB.out⟩
  rw [S.results_cell1 rfl]
  go_simp
set_option maxHeartbeats 2000000 in
set_option maxRecDepth 100000 in
theorem leaf_2 (w : World) : Calls Try.prog 32 #[.int .i64 2] w (RetTr w [leafN 2]) := by
  have e : leafN 2 = setN [(99, 99)] := rfl
  rw [e]
  have hO := fun (W : World) => one_any 99 W
  have hA1 := (Below.refl w.heap.size w).alloc (Nat.le_refl _) (.cells #[.slice none 0 0] 24)
  have hG1 := heap_new w (.cells #[.slice none 0 0] 24)
  have hz1 : (w.alloc (.cells #[.slice none 0 0] 24)).heap.size = w.heap.size + 1 := by simp
  have HG1 := Lib.hid hG1; have HA1 := Lib.hid hA1
  clear hG1 hA1 e
  go_enter Try.func32, Try.ntmps32
  go_wp2_with fail
  refine (hO _).mono ?_
  rintro e w2 ⟨A, c, rfl, hN, hA, hb2⟩
  have hG2 := keepL HG1.out hb2
  have HB0 := Lib.hid (HA1.out.trans (hb2.mono HA1.out.size))
  obtain ⟨r0, f0⟩ := obj29 hG2
  have HNR := Lib.hid (nr_set1 hG2 hN (.slice A 1 c))
  have HB := Lib.hid (HB0.out.setCell (p := ⟨w.heap.size, 0, none⟩) (Nat.le_refl _) (.slice A 1 c))
  have HA := Lib.hid hA
  clear hb2 hN hA hG2
  go_wp2_with fail
  refine bodyPost_ret (v := tr A 1 c) ?_ rfl ⟨A, c, rfl, HNR.out, HA.out, HB.out⟩
  rw [S.results_cell1 rfl]
  go_simp
set_option maxHeartbeats 2000000 in
set_option maxRecDepth 100000 in
theorem leaf_3 (w : World) : Calls Try.prog 32 #[.int .i64 3] w (RetTr w [leafN 3]) := by
  have e : leafN 3 = setN [(100, 100)] := rfl
  rw [e]
  have hO := fun (W : World) => one_any 100 W
  have hA1 := (Below.refl w.heap.size w).alloc (Nat.le_refl _) (.cells #[.slice none 0 0] 24)
  have hG1 := heap_new w (.cells #[.slice none 0 0] 24)
  have hz1 : (w.alloc (.cells #[.slice none 0 0] 24)).heap.size = w.heap.size + 1 := by simp
  have HG1 := Lib.hid hG1; have HA1 := Lib.hid hA1
  clear hG1 hA1 e
  go_enter Try.func32, Try.ntmps32
  go_wp2_with fail
  refine (hO _).mono ?_
  rintro e w2 ⟨A, c, rfl, hN, hA, hb2⟩
  have hG2 := keepL HG1.out hb2
  have HB0 := Lib.hid (HA1.out.trans (hb2.mono HA1.out.size))
  obtain ⟨r0, f0⟩ := obj29 hG2
  have HNR := Lib.hid (nr_set1 hG2 hN (.slice A 1 c))
  have HB := Lib.hid (HB0.out.setCell (p := ⟨w.heap.size, 0, none⟩) (Nat.le_refl _) (.slice A 1 c))
  have HA := Lib.hid hA
  clear hb2 hN hA hG2
  go_wp2_with fail
  refine bodyPost_ret (v := tr A 1 c) ?_ rfl ⟨A, c, rfl, HNR.out, HA.out, HB.out⟩
  rw [S.results_cell1 rfl]
  go_simp
set_option maxHeartbeats 2000000 in
set_option maxRecDepth 100000 in
theorem leaf_4 (w : World) : Calls Try.prog 32 #[.int .i64 4] w (RetTr w [leafN 4]) := by
  have e : leafN 4 = setN [(97, 98)] := rfl
  rw [e]
  have hA1 := (Below.refl w.heap.size w).alloc (Nat.le_refl _) (.cells #[.slice none 0 0] 24)
  have hG1 := heap_new w (.cells #[.slice none 0 0] 24)
  have hz1 : (w.alloc (.cells #[.slice none 0 0] 24)).heap.size = w.heap.size + 1 := by simp
  have HG1 := Lib.hid hG1; have HA1 := Lib.hid hA1
  clear hG1 hA1 e
  go_enter Try.func32, Try.ntmps32
  go_wp2_with fail
  have hR := rngs1 (w.alloc (.cells #[.slice none 0 0] 24)) 97 98
  rw [hz1] at hR
  have hG3 := keepL HG1.out ((Below.refl _ _).alloc (Nat.le_refl _) (.cells #[.int .i64 97, .int .i64 98] 69))
  have hB3 := HA1.out.alloc HA1.out.size (.cells #[.int .i64 97, .int .i64 98] 69)
  refine (lf_any _ _ 1 [(97, 98)] _ hR rfl (by omega)).mono ?_
  rintro e w2 ⟨A, c, rfl, hN, hA, hb2⟩
  have hG2 := keepL hG3 hb2
  have HB0 := Lib.hid (hB3.trans (hb2.mono hB3.size))
  clear hR hG3 hB3
  obtain ⟨r0, f0⟩ := obj29 hG2
  have HNR := Lib.hid (nr_set1 hG2 hN (.slice A 1 c))
  have HB := Lib.hid (HB0.out.setCell (p := ⟨w.heap.size, 0, none⟩) (Nat.le_refl _) (.slice A 1 c))
  have HA := Lib.hid hA
  clear hb2 hN hA hG2
  go_wp2_with fail
  refine bodyPost_ret (v := tr A 1 c) ?_ rfl ⟨A, c, rfl, HNR.out, HA.out, HB.out⟩
  rw [S.results_cell1 rfl]
  go_simp
set_option maxHeartbeats 2000000 in
set_option maxRecDepth 100000 in
theorem leaf_5 (w : World) : Calls Try.prog 32 #[.int .i64 5] w (RetTr w [leafN 5]) := by
  have e : leafN 5 = setN (notL [(97, 97)]) := rfl
  rw [e]
  have hA1 := (Below.refl w.heap.size w).alloc (Nat.le_refl _) (.cells #[.slice none 0 0] 24)
  have hG1 := heap_new w (.cells #[.slice none 0 0] 24)
  have hz1 : (w.alloc (.cells #[.slice none 0 0] 24)).heap.size = w.heap.size + 1 := by simp
  have HG1 := Lib.hid hG1; have HA1 := Lib.hid hA1
  clear hG1 hA1 e
  go_enter Try.func32, Try.ntmps32
  go_wp2_with fail
  have hR := rngs1 (w.alloc (.cells #[.slice none 0 0] 24)) 97 97
  rw [hz1] at hR
  have hG3 := keepL HG1.out ((Below.refl _ _).alloc (Nat.le_refl _) (.cells #[.int .i64 97, .int .i64 97] 69))
  have hB3 := HA1.out.alloc HA1.out.size (.cells #[.int .i64 97, .int .i64 97] 69)
  refine (S.rnot_any _ _ [(97, 97)] _ hR (by simp)).mono ?_
  rintro e w1 ⟨v1, rfl, ho1, hb1⟩
  obtain ⟨As, ks, rfl, _, _, hr1, _⟩ := ho1.shape
  have hnl := notL_len [(97, 97)]
  have hG4 := keepL hG3 hb1
  have hB4 := hB3.trans (hb1.mono hB3.size)
  have HLF := Lib.hid (lf_any As ks (notL [(97, 97)]).length (notL [(97, 97)]) w1 hr1 rfl (by simp at hnl; omega))
  obtain ⟨nl, hnn⟩ : ∃ nl, (notL [((97 : Int), (97 : Int))]).length = nl := ⟨_, rfl⟩
  rw [hnn] at HLF ⊢
  have HG4 := Lib.hid hG4; have HB4 := Lib.hid hB4
  clear hnl hnn hR hG3 hB3 ho1 hr1 hb1 hG4 hB4
  go_wp2_with fail
  refine HLF.out.mono ?_
  rintro e w2 ⟨A, c, rfl, hN, hA, hb2⟩
  have hG2 := keepL HG4.out hb2
  have HB0 := Lib.hid (HB4.out.trans (hb2.mono HB4.out.size))
  obtain ⟨r0, f0⟩ := obj29 hG2
  have HNR := Lib.hid (nr_set1 hG2 hN (.slice A 1 c))
  have HB := Lib.hid (HB0.out.setCell (p := ⟨w.heap.size, 0, none⟩) (Nat.le_refl _) (.slice A 1 c))
  have HA := Lib.hid hA
  clear hb2 hN hA hG2
  go_wp2_with fail
  refine bodyPost_ret (v := tr A 1 c) ?_ rfl ⟨A, c, rfl, HNR.out, HA.out, HB.out⟩
  rw [S.results_cell1 rfl]
  go_simp
set_option maxHeartbeats 2000000 in
set_option maxRecDepth 100000 in
theorem leaf_6 (w : World) : Calls Try.prog 32 #[.int .i64 6] w (RetTr w [leafN 6]) := by
  have e : leafN 6 = setN (notL [(10, 10)]) := rfl
  rw [e]
  have hA1 := (Below.refl w.heap.size w).alloc (Nat.le_refl _) (.cells #[.slice none 0 0] 24)
  have hG1 := heap_new w (.cells #[.slice none 0 0] 24)
  have hz1 : (w.alloc (.cells #[.slice none 0 0] 24)).heap.size = w.heap.size + 1 := by simp
  have HG1 := Lib.hid hG1; have HA1 := Lib.hid hA1
  clear hG1 hA1 e
  go_enter Try.func32, Try.ntmps32
  go_wp2_with fail
  have hR := rngs1 (w.alloc (.cells #[.slice none 0 0] 24)) 10 10
  rw [hz1] at hR
  have hG3 := keepL HG1.out ((Below.refl _ _).alloc (Nat.le_refl _) (.cells #[.int .i64 10, .int .i64 10] 69))
  have hB3 := HA1.out.alloc HA1.out.size (.cells #[.int .i64 10, .int .i64 10] 69)
  refine (S.rnot_any _ _ [(10, 10)] _ hR (by simp)).mono ?_
  rintro e w1 ⟨v1, rfl, ho1, hb1⟩
  obtain ⟨As, ks, rfl, _, _, hr1, _⟩ := ho1.shape
  have hnl := notL_len [(10, 10)]
  have hG4 := keepL hG3 hb1
  have hB4 := hB3.trans (hb1.mono hB3.size)
  have HLF := Lib.hid (lf_any As ks (notL [(10, 10)]).length (notL [(10, 10)]) w1 hr1 rfl (by simp at hnl; omega))
  obtain ⟨nl, hnn⟩ : ∃ nl, (notL [((10 : Int), (10 : Int))]).length = nl := ⟨_, rfl⟩
  rw [hnn] at HLF ⊢
  have HG4 := Lib.hid hG4; have HB4 := Lib.hid hB4
  clear hnl hnn hR hG3 hB3 ho1 hr1 hb1 hG4 hB4
  go_wp2_with fail
  refine HLF.out.mono ?_
  rintro e w2 ⟨A, c, rfl, hN, hA, hb2⟩
  have hG2 := keepL HG4.out hb2
  have HB0 := Lib.hid (HB4.out.trans (hb2.mono HB4.out.size))
  obtain ⟨r0, f0⟩ := obj29 hG2
  have HNR := Lib.hid (nr_set1 hG2 hN (.slice A 1 c))
  have HB := Lib.hid (HB0.out.setCell (p := ⟨w.heap.size, 0, none⟩) (Nat.le_refl _) (.slice A 1 c))
  have HA := Lib.hid hA
  clear hb2 hN hA hG2
  go_wp2_with fail
  refine bodyPost_ret (v := tr A 1 c) ?_ rfl ⟨A, c, rfl, HNR.out, HA.out, HB.out⟩
  rw [S.results_cell1 rfl]
  go_simp
set_option maxHeartbeats 2000000 in
set_option maxRecDepth 100000 in
theorem leaf_7 (w : World) : Calls Try.prog 32 #[.int .i64 7] w (RetTr w [leafN 7]) := by
  have e : leafN 7 = setN [(233, 233)] := rfl
  rw [e]
  have hO := fun (W : World) => one_any 233 W
  have hA1 := (Below.refl w.heap.size w).alloc (Nat.le_refl _) (.cells #[.slice none 0 0] 24)
  have hG1 := heap_new w (.cells #[.slice none 0 0] 24)
  have hz1 : (w.alloc (.cells #[.slice none 0 0] 24)).heap.size = w.heap.size + 1 := by simp
  have HG1 := Lib.hid hG1; have HA1 := Lib.hid hA1
  clear hG1 hA1 e
  go_enter Try.func32, Try.ntmps32
  go_wp2_with fail
  refine (hO _).mono ?_
  rintro e w2 ⟨A, c, rfl, hN, hA, hb2⟩
  have hG2 := keepL HG1.out hb2
  have HB0 := Lib.hid (HA1.out.trans (hb2.mono HA1.out.size))
  obtain ⟨r0, f0⟩ := obj29 hG2
  have HNR := Lib.hid (nr_set1 hG2 hN (.slice A 1 c))
  have HB := Lib.hid (HB0.out.setCell (p := ⟨w.heap.size, 0, none⟩) (Nat.le_refl _) (.slice A 1 c))
  have HA := Lib.hid hA
  clear hb2 hN hA hG2
  go_wp2_with fail
  refine bodyPost_ret (v := tr A 1 c) ?_ rfl ⟨A, c, rfl, HNR.out, HA.out, HB.out⟩
  rw [S.results_cell1 rfl]
  go_simp
set_option maxHeartbeats 2000000 in
set_option maxRecDepth 100000 in
theorem leaf_8 (w : World) : Calls Try.prog 32 #[.int .i64 8] w (RetTr w [leafN 8]) := by
  have e : leafN 8 = setN [(1114367, 1114367)] := rfl
  rw [e]
  have hO := fun (W : World) => one_any 1114367 W
  have hA1 := (Below.refl w.heap.size w).alloc (Nat.le_refl _) (.cells #[.slice none 0 0] 24)
  have hG1 := heap_new w (.cells #[.slice none 0 0] 24)
  have hz1 : (w.alloc (.cells #[.slice none 0 0] 24)).heap.size = w.heap.size + 1 := by simp
  have HG1 := Lib.hid hG1; have HA1 := Lib.hid hA1
  clear hG1 hA1 e
  go_enter Try.func32, Try.ntmps32
  go_wp2_with fail
  refine (hO _).mono ?_
  rintro e w2 ⟨A, c, rfl, hN, hA, hb2⟩
  have hG2 := keepL HG1.out hb2
  have HB0 := Lib.hid (HA1.out.trans (hb2.mono HA1.out.size))
  obtain ⟨r0, f0⟩ := obj29 hG2
  have HNR := Lib.hid (nr_set1 hG2 hN (.slice A 1 c))
  have HB := Lib.hid (HB0.out.setCell (p := ⟨w.heap.size, 0, none⟩) (Nat.le_refl _) (.slice A 1 c))
  have HA := Lib.hid hA
  clear hb2 hN hA hG2
  go_wp2_with fail
  refine bodyPost_ret (v := tr A 1 c) ?_ rfl ⟨A, c, rfl, HNR.out, HA.out, HB.out⟩
  rw [S.results_cell1 rfl]
  go_simp
set_option maxHeartbeats 2000000 in
set_option maxRecDepth 100000 in
theorem leaf_9 (w : World) : Calls Try.prog 32 #[.int .i64 9] w (RetTr w [leafN 9]) := by
  have e : leafN 9 = setN [(10, 10)] := rfl
  rw [e]
  have hO := fun (W : World) => one_any 10 W
  have hA1 := (Below.refl w.heap.size w).alloc (Nat.le_refl _) (.cells #[.slice none 0 0] 24)
  have hG1 := heap_new w (.cells #[.slice none 0 0] 24)
  have hz1 : (w.alloc (.cells #[.slice none 0 0] 24)).heap.size = w.heap.size + 1 := by simp
  have HG1 := Lib.hid hG1; have HA1 := Lib.hid hA1
  clear hG1 hA1 e
  go_enter Try.func32, Try.ntmps32
  go_wp2_with fail
  refine (hO _).mono ?_
  rintro e w2 ⟨A, c, rfl, hN, hA, hb2⟩
  have hG2 := keepL HG1.out hb2
  have HB0 := Lib.hid (HA1.out.trans (hb2.mono HA1.out.size))
  obtain ⟨r0, f0⟩ := obj29 hG2
  have HNR := Lib.hid (nr_set1 hG2 hN (.slice A 1 c))
  have HB := Lib.hid (HB0.out.setCell (p := ⟨w.heap.size, 0, none⟩) (Nat.le_refl _) (.slice A 1 c))
  have HA := Lib.hid hA
  clear hb2 hN hA hG2
  go_wp2_with fail
  refine bodyPost_ret (v := tr A 1 c) ?_ rfl ⟨A, c, rfl, HNR.out, HA.out, HB.out⟩
  rw [S.results_cell1 rfl]
  go_simp
set_option maxHeartbeats 2000000 in
set_option maxRecDepth 100000 in
theorem leaf_10 (w : World) : Calls Try.prog 32 #[.int .i64 10] w (RetTr w [leafN 10]) := by
  have e : leafN 10 = ⟨3, 0, 0, [], 0, 0, 0⟩ := rfl
  rw [e]
  have hA1 := (Below.refl w.heap.size w).alloc (Nat.le_refl _) (.cells #[.slice none 0 0] 24)
  have hG1 := heap_new w (.cells #[.slice none 0 0] 24)
  have hz1 : (w.alloc (.cells #[.slice none 0 0] 24)).heap.size = w.heap.size + 1 := by simp
  have HB := Lib.hid (((Below.refl w.heap.size w).alloc (Nat.le_refl _) (.cells #[.slice (some ⟨w.heap.size + 1, 0, none⟩) 1 1] 24)).alloc (by simp) (.cells #[.int .i64 3, .int .i64 0, .int .i64 0, .slice none 0 0, .int .i64 0, .int .i64 0, .int .i64 0] 35))
  have hN := heap_new (w.alloc (.cells #[.slice (some ⟨w.heap.size + 1, 0, none⟩) 1 1] 24)) (.cells #[.int .i64 3, .int .i64 0, .int .i64 0, .slice none 0 0, .int .i64 0, .int .i64 0, .int .i64 0] 35)
  have hNr := one_nr (x := ⟨3, 0, 0, [], 0, 0, 0⟩) hN rfl S.Rgs.nil
  rw [World.size_alloc] at hNr
  have HNR := Lib.hid hNr
  clear hA1 hG1 hN hNr hz1 e
  go_enter Try.func32, Try.ntmps32
  go_wp2_with fail
  refine bodyPost_ret (v := tr (some ⟨w.heap.size + 1, 0, none⟩) 1 1) ?_ rfl ⟨some ⟨w.heap.size + 1, 0, none⟩, 1, rfl, HNR.out, (fun h => by cases h), HB.out⟩
  rw [S.results_cell1 rfl]
  go_simp
set_option maxHeartbeats 2000000 in
set_option maxRecDepth 100000 in
theorem leaf_11 (w : World) : Calls Try.prog 32 #[.int .i64 11] w (RetTr w [leafN 11]) := by
  have e : leafN 11 = ⟨4, 0, 0, [], 0, 0, 0⟩ := rfl
  rw [e]
  have hA1 := (Below.refl w.heap.size w).alloc (Nat.le_refl _) (.cells #[.slice none 0 0] 24)
  have hG1 := heap_new w (.cells #[.slice none 0 0] 24)
  have hz1 : (w.alloc (.cells #[.slice none 0 0] 24)).heap.size = w.heap.size + 1 := by simp
  have HB := Lib.hid (((Below.refl w.heap.size w).alloc (Nat.le_refl _) (.cells #[.slice (some ⟨w.heap.size + 1, 0, none⟩) 1 1] 24)).alloc (by simp) (.cells #[.int .i64 4, .int .i64 0, .int .i64 0, .slice none 0 0, .int .i64 0, .int .i64 0, .int .i64 0] 35))
  have hN := heap_new (w.alloc (.cells #[.slice (some ⟨w.heap.size + 1, 0, none⟩) 1 1] 24)) (.cells #[.int .i64 4, .int .i64 0, .int .i64 0, .slice none 0 0, .int .i64 0, .int .i64 0, .int .i64 0] 35)
  have hNr := one_nr (x := ⟨4, 0, 0, [], 0, 0, 0⟩) hN rfl S.Rgs.nil
  rw [World.size_alloc] at hNr
  have HNR := Lib.hid hNr
  clear hA1 hG1 hN hNr hz1 e
  go_enter Try.func32, Try.ntmps32
  go_wp2_with fail
  refine bodyPost_ret (v := tr (some ⟨w.heap.size + 1, 0, none⟩) 1 1) ?_ rfl ⟨some ⟨w.heap.size + 1, 0, none⟩, 1, rfl, HNR.out, (fun h => by cases h), HB.out⟩
  rw [S.results_cell1 rfl]
  go_simp
set_option maxHeartbeats 2000000 in
set_option maxRecDepth 100000 in
theorem leaf_12 (w : World) : Calls Try.prog 32 #[.int .i64 12] w (RetTr w [leafN 12]) := by
  have e : leafN 12 = ⟨1, 0, 0, [], 0, 0, 0⟩ := rfl
  rw [e]
  have hA1 := (Below.refl w.heap.size w).alloc (Nat.le_refl _) (.cells #[.slice none 0 0] 24)
  have hG1 := heap_new w (.cells #[.slice none 0 0] 24)
  have hz1 : (w.alloc (.cells #[.slice none 0 0] 24)).heap.size = w.heap.size + 1 := by simp
  have HB := Lib.hid (((Below.refl w.heap.size w).alloc (Nat.le_refl _) (.cells #[.slice (some ⟨w.heap.size + 1, 0, none⟩) 1 1] 24)).alloc (by simp) (.cells #[.int .i64 1, .int .i64 0, .int .i64 0, .slice none 0 0, .int .i64 0, .int .i64 0, .int .i64 0] 35))
  have hN := heap_new (w.alloc (.cells #[.slice (some ⟨w.heap.size + 1, 0, none⟩) 1 1] 24)) (.cells #[.int .i64 1, .int .i64 0, .int .i64 0, .slice none 0 0, .int .i64 0, .int .i64 0, .int .i64 0] 35)
  have hNr := one_nr (x := ⟨1, 0, 0, [], 0, 0, 0⟩) hN rfl S.Rgs.nil
  rw [World.size_alloc] at hNr
  have HNR := Lib.hid hNr
  clear hA1 hG1 hN hNr hz1 e
  go_enter Try.func32, Try.ntmps32
  go_wp2_with fail
  refine bodyPost_ret (v := tr (some ⟨w.heap.size + 1, 0, none⟩) 1 1) ?_ rfl ⟨some ⟨w.heap.size + 1, 0, none⟩, 1, rfl, HNR.out, (fun h => by cases h), HB.out⟩
  rw [S.results_cell1 rfl]
  go_simp
theorem leaf_any (k : Nat) (hk : k < 13) (w : World) : Calls Try.prog 32 #[.int .i64 (k : Int)] w (RetTr w [leafN k]) := by
  rcases (show k = 0 ∨ k = 1 ∨ k = 2 ∨ k = 3 ∨ k = 4 ∨ k = 5 ∨ k = 6 ∨ k = 7 ∨ k = 8 ∨ k = 9 ∨ k = 10 ∨ k = 11 ∨ k = 12 by omega) with rfl | rfl | rfl | rfl | rfl | rfl | rfl | rfl | rfl | rfl | rfl | rfl | rfl
  · exact leaf_0 w
  · exact leaf_1 w
  · exact leaf_2 w
  · exact leaf_3 w
  · exact leaf_4 w
  · exact leaf_5 w
  · exact leaf_6 w
  · exact leaf_7 w
  · exact leaf_8 w
  · exact leaf_9 w
  · exact leaf_10 w
  · exact leaf_11 w
  · exact leaf_12 w
/-- What the statements put at a tree's ends: no kids, fields as they should be. -/
def LeafOk (x : Nd) : Prop := kids x = [] ∧ Fine x ∧ x.set.length ≤ 6
theorem setN_ok (l : List R) (h : l.length ≤ 6) : LeafOk (setN l) := by
  refine ⟨rfl, ?_, Nat.le_trans (nrm_len l) h⟩
  unfold Fine
  exact ⟨rfl, rfl, S.normB_nrm (nrm_ok l).1, rfl, rfl, rfl⟩
theorem leafN_ok (k : Nat) : LeafOk (leafN k) := by
  unfold leafN
  split
  · exact setN_ok _ (by simp)
  · split
    · exact setN_ok _ (by have := notL_len [((97 : Int), (97 : Int))]; simp at this; omega)
    · split
      · exact setN_ok _ (by have := notL_len [((10 : Int), (10 : Int))]; simp at this; omega)
      · split
        · exact setN_ok _ (by simp)
        · split
          · exact setN_ok _ (by simp)
          · split
            · exact setN_ok _ (by simp)
            · split
              · exact ⟨rfl, by unfold Fine; exact ⟨rfl, rfl, rfl, rfl, rfl, rfl⟩, by simp⟩
              · split
                · exact ⟨rfl, by unfold Fine; exact ⟨rfl, rfl, rfl, rfl, rfl, rfl⟩, by simp⟩
                · split
                  · exact ⟨rfl, by unfold Fine; exact ⟨rfl, rfl, rfl, rfl, rfl, rfl⟩, by simp⟩
                  · exact setN_ok _ (by simp)
end Go.Proofs.Ytceeimolfalmpaa
