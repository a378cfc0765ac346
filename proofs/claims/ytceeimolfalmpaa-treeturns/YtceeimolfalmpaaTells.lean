/-
  TreeTells: the walk. Conditions: the tree's slices as Go has them.
-/
import Derived.Test.YtceeimolfalmpaaVY
namespace Go.Proofs.Ytceeimolfalmpaa
open Go.RowKit ObSets ObTree ObTree.Tree

theorem cut_len (L : List Nd) (most : Nat) : ((L.take most).map cutN).length ≤ most := by rw [List.length_map, List.length_take]; omega
theorem cut_small (L : List Nd) (most : Nat) : ∀ x ∈ (L.take most).map cutN, x.set.length ≤ 1000000 := fun x hx => by
  obtain ⟨y, _, rfl⟩ := List.mem_map.1 hx
  show (y.set.take 6).length ≤ 1000000
  rw [List.length_take]; omega
theorem held3 {w W : World} {A : Prop} (h : A ∧ Below w.heap.size w W) : Below w.heap.size w W := h.2
set_option maxHeartbeats 8000000 in
set_option maxRecDepth 100000 in
theorem tells_walk (A : Option Addr) (n c : Nat) (L : List Nd) (i : Int) (w : World) (hN : NrA w A L) (hn : L.length = n) (hnb : n ≤ maxLen) :
    Calls Try.prog 3 #[tr A n c, .int .i64 i] w (RetD w true) := by
  have ha0 := (Below.refl w.heap.size w).alloc (Nat.le_refl _) (.cells #[.slice A n c] 24)
  have HCT := Lib.hid (cut_any A n c 14 L _ (hN.below ha0) hn hnb (by omega))
  have HG0 := Lib.hid (heap_new w (.cells #[.slice A n c] 24))
  have HA0 := Lib.hid ha0
  have HML := Lib.hid (cut_len L 14); have HMS := Lib.hid (cut_small L 14)
  clear ha0 hN
  generalize (L.take 14).map cutN = M at *
  go_enter Try.func3, Try.ntmps3
  go_wp2_with fail
  refine HCT.out.mono ?_
  rintro e w1 ⟨A1, c1, rfl, hN1, hA1, hb1⟩
  obtain ⟨m, hm⟩ : ∃ m, M.length = m := ⟨_, rfl⟩
  rw [hm] at HML ⊢
  have HLM := Lib.hid hm
  have hg1 := keepL HG0.out hb1
  obtain ⟨r0, f0⟩ := obj29 hg1
  have HN2 := Lib.hid (nr_set1 hg1 hN1 (.slice A1 m c1))
  have HB2 := Lib.hid ((HA0.out.trans (hb1.mono HA0.out.size)).setCell (p := ⟨w.heap.size, 0, none⟩) (Nat.le_refl _) (.slice A1 m c1))
  have HG2 := Lib.hid (set_same hg1 (.slice A1 m c1))
  have hm14 : m ≤ 14 := HML.out
  have hlt : w.heap.size < w1.heap.size := lt_of_heap hg1
  clear hN1 hA1 hb1 hg1 hm
  go_upto_region 2 with fail
  have hz2 : (w1.setCell ⟨w.heap.size, 0, none⟩ (.slice A1 m c1)).heap.size = w1.heap.size := set_size _ _ _
  generalize w1.setCell ⟨w.heap.size, 0, none⟩ (.slice A1 m c1) = W0 at *
  have HAS := Lib.hid (fun (z : Int) (W : World) (hW : Below W0.heap.size W0 W) => asks_any A1 m c1 M z W (HN2.out.below hW) HLM.out (by omega) HMS.out)
  have HWK := Lib.hid (fun (W : World) => wakes_any W)
  have HWI := Lib.hid (fun (W : World) => within_any i 15 (by omega) (by omega) W)
  have HSF := Lib.hid (show ∀ W, Below W0.heap.size W0 W → (W.cell? ⟨w.heap.size, 0, none⟩ = some (.slice A1 m c1) ∧ Below W0.heap.size W0 W) from fun W hW => ⟨(hW.cell (p := ⟨w.heap.size, 0, none⟩) (by show w.heap.size < W0.heap.size; omega)).trans (blk1 HG2.out), hW⟩)
  clear r0 f0
  go_region_held3 (fun W => W.cell? ⟨w.heap.size, 0, none⟩ = some (.slice A1 m c1) ∧ Below W0.heap.size W0 W) (first | exact HSF.out _ (Below.refl _ _).drew | exact HSF.out _ (S.bel_trans (held3 (by assumption)) (by assumption)) | assumption | fail) (first
    | (go_at_call 9; (with_reducible refine (HAS.out _ _ (held3 (by assumption))).mono ?_); rintro e w9 ⟨rfl, hb9⟩)
    | (go_at_call 10; (with_reducible refine (HWI.out _).mono ?_); rintro e w10 ⟨k, hk, rfl, rfl⟩)
    | (go_at_call 11; (with_reducible refine (HWK.out _).mono ?_); rintro e w11 ⟨rfl, hb11⟩)
    | fail)
  go_wp2_with fail
  go_ret
  exact ⟨rfl, HB2.out.trans ((held3 (by assumption)).mono HB2.out.size)⟩
end Go.Proofs.Ytceeimolfalmpaa
