/-
  A tree cut to so many nodes, in new memory (CutTree), of the statements' own: the walk. Conditions: at most 1000 nodes are kept; the tree's slices as Go has them.
-/
import Derived.Test.YtceeimolfalmpaaVX
namespace Go.Proofs.Ytceeimolfalmpaa
open Go.RowKit ObSets ObTree ObTree.Tree

set_option maxHeartbeats 8000000 in
set_option maxRecDepth 100000 in
theorem cut_any (A : Option Addr) (n c most : Nat) (L : List Nd) (w : World) (hN : NrA w A L) (hn : L.length = n) (hnb : n ≤ maxLen) (hmb : most ≤ 1000) :
    Calls Try.prog 8 #[tr A n c, .int .i64 (most : Int)] w (RetTr w ((L.take most).map cutN)) := by
  have hnb' : n ≤ 9223372036854775807 := by unfold maxLen at hnb; omega
  have HN := Lib.hid hN; have HLN := Lib.hid hn
  clear hN hn hnb
  have hb0 := (((Below.refl w.heap.size w).alloc (Nat.le_refl _) (.cells #[.slice A n c] 24)).alloc (by simp) (.cells #[.slice none 0 0] 24)).alloc (by simp; omega) (.cells #[.slice none 0 0] 24)
  have g0 := keepL (keepL (heap_new w (.cells #[.slice A n c] 24)) ((Below.refl _ _).alloc (Nat.le_refl _) (.cells #[.slice none 0 0] 24))) ((Below.refl _ _).alloc (Nat.le_refl _) (.cells #[.slice none 0 0] 24))
  have g1 := keepL (heap_new (w.alloc (.cells #[.slice A n c] 24)) (.cells #[.slice none 0 0] 24)) ((Below.refl _ _).alloc (Nat.le_refl _) (.cells #[.slice none 0 0] 24))
  have g2 := heap_new ((w.alloc (.cells #[.slice A n c] 24)).alloc (.cells #[.slice none 0 0] 24)) (.cells #[.slice none 0 0] 24)
  simp only [World.size_alloc] at g1 g2
  have hz : (((w.alloc (.cells #[.slice A n c] 24)).alloc (.cells #[.slice none 0 0] 24)).alloc (.cells #[.slice none 0 0] 24)).heap.size = w.heap.size + 3 := by simp
  have HG0 := Lib.hid g0; have HG1 := Lib.hid g1; have HG2 := Lib.hid g2; have HB0 := Lib.hid hb0
  clear hb0 g0 g1 g2
  go_enter Try.func8, Try.ntmps8
  go_upto_region 3 with fail
  generalize ((w.alloc (.cells #[.slice A n c] 24)).alloc (.cells #[.slice none 0 0] 24)).alloc (.cells #[.slice none 0 0] 24) = W0 at *
  go_loopw [6] (fun ti wr => ∃ (i : Nat) (Ao : Option Addr) (k : Nat), ti = .int .i64 (i : Int) ∧ i ≤ n ∧ i ≤ most ∧ Hid (Nq wr (.slice Ao i k) ((L.take i).map cutN)) ∧ Hid (∀ g, (Value.slice Ao i k).ownBlock = some g → w.heap.size + 3 ≤ g ∧ g < wr.heap.size) ∧ Hid (wr.heap[w.heap.size]? = some (.cells #[.slice A n c] 24)) ∧ Hid (wr.heap[w.heap.size + 1]? = some (.cells #[.slice none 0 0] 24)) ∧ Hid (wr.heap[w.heap.size + 1 + 1]? = some (.cells #[.slice Ao i k] 24)) ∧ Hid (Below w.heap.size w wr) ∧ w.heap.size + 3 ≤ wr.heap.size) (fun ti _ => n - (intOf ti).toNat)
  case atStart => exact ⟨0, none, 0, rfl, Nat.zero_le _, Nat.zero_le _, Lib.hid (Nq.nil _), Lib.hid (fun g hg => by cases hg), HG0, HG1, HG2, HB0, by omega⟩
  case round =>
    obtain ⟨i, Ao, k, rfl, hi, him, HQ, HO, K0, K1, K2, HB, hws⟩ := hrel
    obtain ⟨b0, _⟩ := obj29 K0.out
    obtain ⟨b2, f2⟩ := obj29 K2.out
    by_cases hin : i < n
    · have d1 : decide (i < n) = true := decide_eq_true hin
      have hin' : (i : Int) < (n : Int) := by omega
      by_cases hit : i < most
      · have d2 : decide (i < most) = true := decide_eq_true hit
        obtain ⟨x, hx⟩ : ∃ x, L[i]? = some x := ⟨_, List.getElem?_eq_getElem (by rw [HLN.out]; exact hin)⟩
        obtain ⟨bb, off, As, ks, rfl, hbl, ⟨c0, c1, c2, c3, c4, c5, c6⟩, hrg, hk1, hk2, hk3⟩ := (HN.out.below HB.out).at_ hx
        obtain ⟨sl, hsl⟩ : ∃ sl, x.set.length = sl := ⟨_, rfl⟩
        rw [hsl] at c3 hk1
        have hWX := (Below.refl wr.heap.size wr).alloc (Nat.le_refl _) (.cells (ndCells x As sl ks) 35)
        have HST := Lib.hid (S.set_any As sl ks 6 x.set (wr.alloc (.cells (ndCells x As sl ks) 35)) hsl hk1 hk2 (rgs_take (hrg.on hWX) 6) hk3 (by omega))
        have HX := Lib.hid hx
        have hNB := heap_new wr (.cells (ndCells x As sl ks) 35)
        have HNB := Lib.hid hNB; have HWX := Lib.hid hWX
        clear hx hrg hk1 hk2 hk3 hsl hWX hNB
        go_wp2_with fail
        refine HST.out.mono ?_
        rintro e w3 ⟨v3, rfl, ho3, hb3⟩
        obtain ⟨Bs, js, rfl, _, _, hr3, hf3⟩ := ho3.shape
        obtain ⟨m3, hm3⟩ : ∃ m3, (x.set.take 6).length = m3 := ⟨_, rfl⟩
        rw [hm3]
        have HM3 := Lib.hid hm3
        have hw3 := hb3.size
        simp only [World.size_alloc] at hw3
        have hB3 := HWX.out.trans (hb3.mono HWX.out.size)
        have hN3 := keepL HNB.out hb3
        obtain ⟨⟨n0, n1, n2, n3, n4, n5, n6⟩, nf⟩ := blk7 hN3
        have nf3 := nf 3
        have hN4 := set3 hN3 (.slice Bs m3 js)
        obtain ⟨⟨p0, p1, p2, p3, p4, p5, p6⟩, _⟩ := blk7 hN4
        have hz4 : (w3.setCell ⟨wr.heap.size, 3, none⟩ (.slice Bs m3 js)).heap.size = w3.heap.size := set_size _ _ _
        have hsame : ∀ r, r ≠ wr.heap.size → (w3.setCell ⟨wr.heap.size, 3, none⟩ (.slice Bs m3 js)).heap[r]? = w3.heap[r]? := fun r hr => Below.heap_setCell _ _ _ _ hr
        have hB4 : Below wr.heap.size wr (w3.setCell ⟨wr.heap.size, 3, none⟩ (.slice Bs m3 js)) := hB3.setCell (p := ⟨wr.heap.size, 3, none⟩) (Nat.le_refl _) _
        have hR4 : S.Rgs (w3.setCell ⟨wr.heap.size, 3, none⟩ (.slice Bs m3 js)) (w3.setCell ⟨wr.heap.size, 3, none⟩ (.slice Bs m3 js)).heap.size Bs (x.set.take 6) := (rgs_far (k := 3) (r := wr.heap.size) hr3 (hf3.imp id fun ⟨g, e, hg, _⟩ a ha => by
          rw [e] at ha; injection ha with ha; subst ha; rw [World.size_alloc] at hg; show g ≠ wr.heap.size; omega) (.slice Bs m3 js)).more (by rw [hz4]; exact Nat.le_refl _)
        have hK2' : (w3.setCell ⟨wr.heap.size, 3, none⟩ (.slice Bs m3 js)).heap[w.heap.size + 1 + 1]? = some (.cells #[.slice Ao i k] 24) := keepL K2.out hB4
        obtain ⟨e2, e2f⟩ := obj29 hK2'
        have hQ4 := HQ.out.below hB4
        have hA5 := (Below.refl (w3.setCell ⟨wr.heap.size, 3, none⟩ (.slice Bs m3 js)).heap.size (w3.setCell ⟨wr.heap.size, 3, none⟩ (.slice Bs m3 js))).alloc (Nat.le_refl _) (.cells (ndCells (cutN x) Bs m3 js) 35)
        have hNG := heap_new (w3.setCell ⟨wr.heap.size, 3, none⟩ (.slice Bs m3 js)) (.cells (ndCells (cutN x) Bs m3 js) 35)
        rw [hz4] at hNG
        have hown : ∀ g, (Value.slice Ao i k).ownBlock = some g → w.heap.size + 3 ≤ g ∧ g < wr.heap.size := HO.out
        obtain ⟨v6, w6, hrun, hq6, hg6, ho6⟩ := nq_append (hQ4.below hA5) (cutN x) Bs m3 js w3.heap.size hm3 hNG (hR4.on hA5) (hf3.imp id fun ⟨g, e, hg, _⟩ a ha h => by
          rw [e] at ha; injection ha with ha; subst ha
          have := (hown _ h).2
          rw [World.size_alloc] at hg
          have hg' : wr.heap.size + 1 ≤ g := hg
          have h' : g < wr.heap.size := this
          omega) (by simp; omega) 22
        obtain ⟨A6, k6, rfl, hA6⟩ := hq6.shape
        have hl6 : ((L.take i).map cutN ++ [cutN x]).length = i + 1 := by rw [List.length_append, List.length_map, List.length_take, HLN.out]; simp; omega
        rw [hl6] at hrun hq6 ho6
        have hz5 : ((w3.setCell ⟨wr.heap.size, 3, none⟩ (.slice Bs m3 js)).alloc (.cells (ndCells (cutN x) Bs m3 js) 35)).heap.size = w3.heap.size + 1 := by rw [World.size_alloc, hz4]
        have hs6 : w3.heap.size + 1 ≤ w6.heap.size := by have := hg6.size; omega
        have hB6 : Below w.heap.size w w6 := ((HB.out.trans (hB4.mono HB.out.size)).trans (hA5.mono (by rw [hz4]; omega))).grown hg6 (by rw [hz5]; omega) (fun g hg => by have := (hown g hg).1; omega)
        have tokeep : ∀ r (o : Obj), r < w.heap.size + 3 → wr.heap[r]? = some o → w6.heap[r]? = some o := fun r o hr ho => keepG (keepL (keepL ho hB4) hA5) hg6 (fun g hg => by have := (hown g hg).1; omega)
        have M0 := Lib.hid (tokeep w.heap.size _ (by omega) K0.out)
        have M1 := Lib.hid (tokeep (w.heap.size + 1) _ (by omega) K1.out)
        have M2 := tokeep (w.heap.size + 1 + 1) _ (by omega) K2.out
        obtain ⟨m2, m2f⟩ := obj29 M2
        have hO6 : ∀ g, (Value.slice A6 (i + 1) k6).ownBlock = some g → w.heap.size + 3 ≤ g ∧ g < w6.heap.size := fun g hg => by
          obtain ⟨Lx, _, hx2, _⟩ := hq6
          have hlt := (hx2.lt g hg).2
          rcases ho6 g hg with h | h
          · exact ⟨(hown g h).1, hlt⟩
          · rw [hz5] at h; exact ⟨by omega, hlt⟩
        have hQ7 := hq6.set1 M2 (fun e => by have := (hO6 _ e).1; omega) (.slice A6 (i + 1) k6)
        have HTK := Lib.hid (show (L.take (i + 1)).map cutN = (L.take i).map cutN ++ [cutN x] by rw [List.take_add_one, HX.out]; simp)
        have HQ7 := Lib.hid (show Nq (w6.setCell ⟨w.heap.size + 1 + 1, 0, none⟩ (.slice A6 (i + 1) k6)) (.slice A6 (i + 1) k6) ((L.take (i + 1)).map cutN) by rw [HTK.out]; exact hQ7)
        have HO7 := Lib.hid (show ∀ g, (Value.slice A6 (i + 1) k6).ownBlock = some g → w.heap.size + 3 ≤ g ∧ g < (w6.setCell ⟨w.heap.size + 1 + 1, 0, none⟩ (.slice A6 (i + 1) k6)).heap.size from fun g hg => by rw [set_size]; exact hO6 g hg)
        have P0 := Lib.hid ((Below.heap_setCell w6 ⟨w.heap.size + 1 + 1, 0, none⟩ (.slice A6 (i + 1) k6) w.heap.size (by show w.heap.size ≠ w.heap.size + 1 + 1; omega)).trans M0.out)
        have P1 := Lib.hid ((Below.heap_setCell w6 ⟨w.heap.size + 1 + 1, 0, none⟩ (.slice A6 (i + 1) k6) (w.heap.size + 1) (by show w.heap.size + 1 ≠ w.heap.size + 1 + 1; omega)).trans M1.out)
        have P2 := Lib.hid (set_same M2 (.slice A6 (i + 1) k6))
        have PB := Lib.hid (hB6.setCell (p := ⟨w.heap.size + 1 + 1, 0, none⟩) (by show w.heap.size ≤ w.heap.size + 1 + 1; omega) (.slice A6 (i + 1) k6))
        have PZ : w.heap.size + 3 ≤ (w6.setCell ⟨w.heap.size + 1 + 1, 0, none⟩ (.slice A6 (i + 1) k6)).heap.size := by rw [set_size]; omega
        have HRUN := Lib.hid hrun
        clear hrun hq6 hg6 ho6 hQ7 hO6 tokeep M2 hB6 hs6 hl6 hA6 hNG hA5 hQ4 hK2' hR4 hB4 hsame hN4 hN3 hB3 hr3 hf3 ho3 hb3 hm3 nf hown
        go_wp2_with (at_builtin; refine Lib.wpList_append_run _ rfl _ _ _ _ rfl _ _ rfl rfl _ _ HRUN.out ?_)
        go_roundw
        case rel => exact ⟨i + 1, A6, k6, congrArg (Value.int .i64) (by omega), hin, hit, HQ7, HO7, P0, P1, P2, PB, PZ⟩
        case measure => simp [intOf]; omega
      · have d2 : decide (i < most) = false := decide_eq_false hit
        have HQF := Lib.hid HQ.out
        have hmin : (L.take most).map cutN = (L.take i).map cutN := by
          congr 1
          rw [show most = i by omega]
        have hlen : ((L.take i).map cutN).length = i := by rw [List.length_map, List.length_take, HLN.out]; omega
        obtain ⟨b1, f1⟩ := obj29 K1.out
        have HNR := Lib.hid (nr_set1 K1.out HQ.out.reads (.slice Ao i k))
        have HBF := Lib.hid (HB.out.setCell (p := ⟨w.heap.size + 1, 0, none⟩) (by show w.heap.size ≤ w.heap.size + 1; omega) (.slice Ao i k))
        obtain ⟨A9, k9, e9, hA9⟩ := HQ.out.shape
        have HA9 := Lib.hid (show Ao = none → (L.take i).map cutN = [] ∧ k = 0 from fun h => by
          injection e9 with q1 q2 q3
          rw [q1] at h
          have := hA9 h
          exact ⟨this.1, by omega⟩)
        have HMIN := Lib.hid hmin
        clear e9 hA9 hmin
        go_wp2_with fail
        refine bodyPost_ret (v := tr Ao i k) ?_ rfl ?_
        · rw [S.results_cell1 rfl]
          go_simp
        · rw [HMIN.out]
          exact ⟨Ao, k, by rw [hlen], HNR.out, HA9.out, HBF.out⟩
    · have d1 : decide (i < n) = false := decide_eq_false hin
      have HQF := Lib.hid HQ.out
      have hmin : (L.take most).map cutN = (L.take i).map cutN := by
        congr 1
        rw [List.take_of_length_le (by rw [HLN.out]; omega), List.take_of_length_le (by rw [HLN.out]; omega)]
      have hlen : ((L.take i).map cutN).length = i := by rw [List.length_map, List.length_take, HLN.out]; omega
      obtain ⟨b1, f1⟩ := obj29 K1.out
      have HNR := Lib.hid (nr_set1 K1.out HQ.out.reads (.slice Ao i k))
      have HBF := Lib.hid (HB.out.setCell (p := ⟨w.heap.size + 1, 0, none⟩) (by show w.heap.size ≤ w.heap.size + 1; omega) (.slice Ao i k))
      obtain ⟨A9, k9, e9, hA9⟩ := HQ.out.shape
      have HA9 := Lib.hid (show Ao = none → (L.take i).map cutN = [] ∧ k = 0 from fun h => by
        injection e9 with q1 q2 q3
        rw [q1] at h
        have := hA9 h
        exact ⟨this.1, by omega⟩)
      have HMIN := Lib.hid hmin
      clear e9 hA9 hmin
      go_wp2_with fail
      refine bodyPost_ret (v := tr Ao i k) ?_ rfl ?_
      · rw [S.results_cell1 rfl]
        go_simp
      · rw [HMIN.out]
        exact ⟨Ao, k, by rw [hlen], HNR.out, HA9.out, HBF.out⟩
end Go.Proofs.Ytceeimolfalmpaa
