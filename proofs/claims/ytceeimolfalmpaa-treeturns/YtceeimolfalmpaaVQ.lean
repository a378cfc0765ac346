/-
  Two trees held against each other by the statements (EqTree). Conditions: at most 20000 nodes, each with at most 1000000 ranges.
-/
import Derived.Test.YtceeimolfalmpaaVP
import Derived.Deep.RegionHeld3
namespace Go.Proofs.Ytceeimolfalmpaa
open Go.RowKit ObSets ObTree ObTree.Tree

theorem held_below {w W : World} {A : Prop} (h : A ∧ Below w.heap.size w W) : Below w.heap.size w W := h.2
set_option maxHeartbeats 4000000 in
set_option maxRecDepth 100000 in
theorem eqtree_any (A A' : Option Addr) (n c m d : Nat) (L M : List Nd) (w : World) (hN : Nr w A L) (hn : L.length = n) (hM : Nr w A' M) (hm : M.length = m) (hnb : n ≤ 20000) (hs : ∀ x ∈ L, x.set.length ≤ 1000000) (hs2 : ∀ x ∈ M, x.set.length ≤ 1000000) :
    Calls Try.prog 18 #[tr A n c, tr A' m d] w (RetB w (L = M)) := by
  have ha0 := ((Below.refl w.heap.size w).alloc (Nat.le_refl _) (.cells #[.slice A n c] 24)).alloc (by simp) (.cells #[.slice A' m d] 24)
  have hz : ((w.alloc (.cells #[.slice A n c] 24)).alloc (.cells #[.slice A' m d] 24)).heap.size = w.heap.size + 2 := by simp
  have hG0 := keepL (heap_new w (.cells #[.slice A n c] 24)) ((Below.refl _ _).alloc (Nat.le_refl _) (.cells #[.slice A' m d] 24))
  have hG1 := heap_new (w.alloc (.cells #[.slice A n c] 24)) (.cells #[.slice A' m d] 24)
  rw [World.size_alloc] at hG1
  have HN := Lib.hid hN; have HLN := Lib.hid hn; have HM := Lib.hid hM; have HLM := Lib.hid hm; have HS := Lib.hid hs; have HS2 := Lib.hid hs2
  clear hN hn hM hm hs hs2
  by_cases hlen : n = m
  · subst hlen
    have hb : ((n : Int) != (n : Int)) = false := by simp
    go_enter Try.func18, Try.ntmps18
    go_upto_region 1 with fail
    generalize (w.alloc (.cells #[.slice A n c] 24)).alloc (.cells #[.slice A' n d] 24) = W0 at *
    obtain ⟨a0, _⟩ := obj29 hG0
    obtain ⟨a1, _⟩ := obj29 hG1
    have HG0 := Lib.hid hG0; have HG1 := Lib.hid hG1; have HA0 := Lib.hid ha0
    clear hG0 hG1 ha0
    go_wp2_with fail
    go_loopw [5] (fun t wr => ∃ k : Nat, t = .int .i64 (k : Int) ∧ k ≤ n ∧ Hid (L.take k = M.take k) ∧ Hid (Below W0.heap.size W0 wr)) (fun t _ => n - (intOf t).toNat)
    case atStart => exact ⟨0, rfl, Nat.zero_le _, Lib.hid rfl, Lib.hid (Below.refl _ _)⟩
    case round =>
      obtain ⟨i, rfl, hi, HT, HG⟩ := hrel
      have hgs := HG.out.size
      have HB := Lib.hid (HA0.out.trans (HG.out.mono HA0.out.size))
      obtain ⟨b0, _⟩ := obj29 (keepL HG0.out HG.out)
      obtain ⟨b1, _⟩ := obj29 (keepL HG1.out HG.out)
      by_cases hin : i < n
      · have d1 : decide (i < n) = true := decide_eq_true hin
        have hin' : (i : Int) < (n : Int) := by omega
        obtain ⟨x, hx⟩ : ∃ x, L[i]? = some x := ⟨_, List.getElem?_eq_getElem (by rw [HLN.out]; exact hin)⟩
        obtain ⟨y, hy⟩ : ∃ y, M[i]? = some y := ⟨_, List.getElem?_eq_getElem (by rw [HLM.out]; exact hin)⟩
        obtain ⟨bb, off, rfl, hbl, hnd⟩ := nr_at HN.out hx
        obtain ⟨bb2, off2, rfl, hbl2, hnd2⟩ := nr_at HM.out hy
        obtain ⟨As, ks, ⟨c0, c1, c2, c3, c4, c5, c6⟩, hrg⟩ := hnd.below hbl HB.out
        obtain ⟨Bs, js, ⟨e0, e1, e2, e3, e4, e5, e6⟩, hrg2⟩ := hnd2.below hbl2 HB.out
        have HSA := Lib.hid (fun (W : World) (hW : Below wr.heap.size wr W) => eqnode_any x y As Bs ks js W (hrg.on hW) (hrg2.on hW) (HS.out x (List.mem_of_getElem? hx)) (HS2.out y (List.mem_of_getElem? hy)))
        obtain ⟨sl, hsl⟩ : ∃ sl, x.set.length = sl := ⟨_, rfl⟩
        obtain ⟨sl2, hsl2⟩ : ∃ sl2, y.set.length = sl2 := ⟨_, rfl⟩
        rw [hsl] at c3 HSA
        rw [hsl2] at e3 HSA
        have HX := Lib.hid hx; have HY := Lib.hid hy
        have hbw : bb < wr.heap.size := by have := HB.out.size; omega
        have hbw2 : bb2 < wr.heap.size := by have := HB.out.size; omega
        have hrw : w.heap.size + 1 < wr.heap.size := by omega
        have HSF := Lib.hid (show ∀ W, Below wr.heap.size wr W → (((W.cell? ⟨w.heap.size, 0, none⟩ = some (.slice (some ⟨bb, off, none⟩) n c) ∧ W.cell? ⟨w.heap.size + 1, 0, none⟩ = some (.slice (some ⟨bb2, off2, none⟩) n d)) ∧ (W.cell? ⟨bb, off + i * 7, none⟩ = some (.int .i64 x.kind) ∧ W.cell? ⟨bb, off + i * 7 + 1, none⟩ = some (.int .i64 x.a) ∧ W.cell? ⟨bb, off + i * 7 + 2, none⟩ = some (.int .i64 x.b) ∧ W.cell? ⟨bb, off + i * 7 + 3, none⟩ = some (.slice As sl ks) ∧ W.cell? ⟨bb, off + i * 7 + 4, none⟩ = some (.int .i64 x.mn) ∧ W.cell? ⟨bb, off + i * 7 + 5, none⟩ = some (.int .i64 x.mx) ∧ W.cell? ⟨bb, off + i * 7 + 6, none⟩ = some (.int .i64 x.n)) ∧ (W.cell? ⟨bb2, off2 + i * 7, none⟩ = some (.int .i64 y.kind) ∧ W.cell? ⟨bb2, off2 + i * 7 + 1, none⟩ = some (.int .i64 y.a) ∧ W.cell? ⟨bb2, off2 + i * 7 + 2, none⟩ = some (.int .i64 y.b) ∧ W.cell? ⟨bb2, off2 + i * 7 + 3, none⟩ = some (.slice Bs sl2 js) ∧ W.cell? ⟨bb2, off2 + i * 7 + 4, none⟩ = some (.int .i64 y.mn) ∧ W.cell? ⟨bb2, off2 + i * 7 + 5, none⟩ = some (.int .i64 y.mx) ∧ W.cell? ⟨bb2, off2 + i * 7 + 6, none⟩ = some (.int .i64 y.n))) ∧ Below wr.heap.size wr W) from fun W hW => ⟨⟨⟨(hW.cell (p := ⟨w.heap.size, 0, none⟩) (by show w.heap.size < wr.heap.size; omega)).trans b0, (hW.cell (p := ⟨w.heap.size + 1, 0, none⟩) hrw).trans b1⟩, ⟨(hW.cell (p := ⟨bb, _, none⟩) hbw).trans c0, (hW.cell (p := ⟨bb, _, none⟩) hbw).trans c1, (hW.cell (p := ⟨bb, _, none⟩) hbw).trans c2, (hW.cell (p := ⟨bb, _, none⟩) hbw).trans c3, (hW.cell (p := ⟨bb, _, none⟩) hbw).trans c4, (hW.cell (p := ⟨bb, _, none⟩) hbw).trans c5, (hW.cell (p := ⟨bb, _, none⟩) hbw).trans c6⟩, ⟨(hW.cell (p := ⟨bb2, _, none⟩) hbw2).trans e0, (hW.cell (p := ⟨bb2, _, none⟩) hbw2).trans e1, (hW.cell (p := ⟨bb2, _, none⟩) hbw2).trans e2, (hW.cell (p := ⟨bb2, _, none⟩) hbw2).trans e3, (hW.cell (p := ⟨bb2, _, none⟩) hbw2).trans e4, (hW.cell (p := ⟨bb2, _, none⟩) hbw2).trans e5, (hW.cell (p := ⟨bb2, _, none⟩) hbw2).trans e6⟩⟩, hW⟩)
        clear hnd hnd2 hx hy hrg hrg2 hsl hsl2 c0 c1 c2 c3 c4 c5 c6 e0 e1 e2 e3 e4 e5 e6
        go_wp2_with fail
        go_region_held3 (fun W => ((W.cell? ⟨w.heap.size, 0, none⟩ = some (.slice (some ⟨bb, off, none⟩) n c) ∧ W.cell? ⟨w.heap.size + 1, 0, none⟩ = some (.slice (some ⟨bb2, off2, none⟩) n d)) ∧ (W.cell? ⟨bb, off + i * 7, none⟩ = some (.int .i64 x.kind) ∧ W.cell? ⟨bb, off + i * 7 + 1, none⟩ = some (.int .i64 x.a) ∧ W.cell? ⟨bb, off + i * 7 + 2, none⟩ = some (.int .i64 x.b) ∧ W.cell? ⟨bb, off + i * 7 + 3, none⟩ = some (.slice As sl ks) ∧ W.cell? ⟨bb, off + i * 7 + 4, none⟩ = some (.int .i64 x.mn) ∧ W.cell? ⟨bb, off + i * 7 + 5, none⟩ = some (.int .i64 x.mx) ∧ W.cell? ⟨bb, off + i * 7 + 6, none⟩ = some (.int .i64 x.n)) ∧ (W.cell? ⟨bb2, off2 + i * 7, none⟩ = some (.int .i64 y.kind) ∧ W.cell? ⟨bb2, off2 + i * 7 + 1, none⟩ = some (.int .i64 y.a) ∧ W.cell? ⟨bb2, off2 + i * 7 + 2, none⟩ = some (.int .i64 y.b) ∧ W.cell? ⟨bb2, off2 + i * 7 + 3, none⟩ = some (.slice Bs sl2 js) ∧ W.cell? ⟨bb2, off2 + i * 7 + 4, none⟩ = some (.int .i64 y.mn) ∧ W.cell? ⟨bb2, off2 + i * 7 + 5, none⟩ = some (.int .i64 y.mx) ∧ W.cell? ⟨bb2, off2 + i * 7 + 6, none⟩ = some (.int .i64 y.n))) ∧ Below wr.heap.size wr W) (first | exact HSF.out _ (Below.refl _ _).drew | exact HSF.out _ (S.bel_trans (held_below (by assumption)) (by assumption)) | fail) (first
          | (go_at_call 16; (with_reducible refine (HSA.out _ (held_below (by assumption))).mono ?_); rintro e w2 ⟨q, rfl, hq, hb2⟩)
          | fail)
        have HB3 := Lib.hid (HB.out.trans ((held_below (by assumption)).mono HB.out.size))
        clear hb2
        cases q with
        | false =>
          have HNO := Lib.hid (show L ≠ M from fun h => by
            have h1 := HX.out
            rw [h, HY.out] at h1
            injection h1 with h1
            have := hq.2 h1.symm
            cases this)
          clear hq
          go_wp2_with fail
          go_ret
          exact ⟨false, rfl, iff_of_false Bool.noConfusion HNO.out, HB3.out⟩
        | true =>
          have HT2 := Lib.hid (show L.take (i + 1) = M.take (i + 1) by rw [List.take_add_one, List.take_add_one, HT.out, HX.out, HY.out, hq.1 rfl])
          clear hq
          go_wp2_with fail
          go_roundw
          case rel => exact ⟨i + 1, congrArg (Value.int .i64) (by omega), hin, HT2, Lib.hid (HG.out.trans ((held_below (by assumption)).mono hgs))⟩
          case measure => simp [intOf]; omega
      · have d1 : decide (i < n) = false := decide_eq_false hin
        obtain rfl : i = n := by omega
        have HF := Lib.hid (show L = M by have := HT.out; rw [List.take_of_length_le (by rw [HLN.out]; exact Nat.le_refl _), List.take_of_length_le (by rw [HLM.out]; exact Nat.le_refl _)] at this; exact this)
        go_wp2_with fail
        go_ret
        exact ⟨true, rfl, iff_of_true rfl HF.out, HB.out⟩
  · have hb : ((n : Int) != (m : Int)) = true := by rw [bne_iff_ne]; omega
    have HF := Lib.hid (show L ≠ M from fun h => hlen (by rw [← HLN.out, ← HLM.out, h]))
    have HA0 := Lib.hid ha0
    go_enter Try.func18, Try.ntmps18
    go_wp2_with fail
    go_ret
    exact ⟨false, rfl, iff_of_false Bool.noConfusion HF.out, HA0.out⟩
end Go.Proofs.Ytceeimolfalmpaa
