/-
  Trees of one node, as the statements make them (Leaf, One, leaf). Conditions: at most 1000 ranges; for leaf: a number below 13.
-/
import Derived.Test.YtceeimolfalmpaaVR
import Derived.Test.YtceeimolfalmpaaSC
namespace Go.Proofs.Ytceeimolfalmpaa
open Go.RowKit ObSets ObTree ObTree.Tree

/-- A node that is a set. -/
abbrev setN (l : List R) : Nd := ⟨2, 0, 0, nrm l, 0, 0, 0⟩
theorem one_nr {w : World} {g : Nat} {x : Nd} {As : Option Addr} {sl ks : Nat} (h : w.heap[g]? = some (.cells #[.int .i64 x.kind, .int .i64 x.a, .int .i64 x.b, .slice As sl ks, .int .i64 x.mn, .int .i64 x.mx, .int .i64 x.n] 35 (0, 0))) (hl : x.set.length = sl) (hr : S.Rgs w w.heap.size As x.set) : Nr w (some ⟨g, 0, none⟩) [x] := fun _ => by
  subst hl
  refine ⟨g, 0, rfl, lt_of_heap h, fun j y hj => ?_⟩
  cases j with
  | zero =>
    simp at hj; subst hj
    obtain ⟨⟨c0, c1, c2, c3, c4, c5, c6⟩, _⟩ := blk7 h
    exact ⟨As, ks, ⟨c0, c1, c2, c3, c4, c5, c6⟩, hr⟩
  | succ j => simp at hj
theorem rgs_far {w : World} {B r k : Nat} {A : Option Addr} {l : List R} (h : S.Rgs w B A l) (hA : l = [] ∨ ∀ a, A = some a → a.block ≠ r) (u : Value) : S.Rgs (w.setCell ⟨r, k, none⟩ u) B A l := fun hn => by
  obtain ⟨b, off, e, hb, hc⟩ := h hn
  rcases hA with h0 | hA
  · exact absurd h0 hn
  · have hne := hA _ e
    have e2 : ∀ o : Nat, (w.setCell ⟨r, k, none⟩ u).cell? ⟨b, o, none⟩ = w.cell? ⟨b, o, none⟩ := fun o => by
      simp only [World.cell?, Below.heap_setCell w ⟨r, k, none⟩ u b hne]
    refine ⟨b, off, e, hb, fun j q hq => ?_⟩
    rw [e2, e2]; exact hc j q hq
set_option maxHeartbeats 2000000 in
set_option maxRecDepth 100000 in
theorem lf_any (A : Option Addr) (c n : Nat) (l : List R) (w : World) (h : S.Rgs w w.heap.size A l) (hn : l.length = n) (hl : n ≤ 1000) : Calls Try.prog 47 #[.slice A n c] w (RetTr w [setN l]) := by
  have ha0 := (Below.refl w.heap.size w).alloc (Nat.le_refl _) (.cells #[.slice none 0 0] 24)
  have HNO := Lib.hid (S.rnorm_any A c l (w.alloc (.cells #[.slice none 0 0] 24)) (h.on ha0) (by omega))
  rw [hn] at HNO
  have HA0 := Lib.hid ha0
  have HG0 := Lib.hid (heap_new w (.cells #[.slice none 0 0] 24))
  clear ha0 h
  go_enter Try.func47, Try.ntmps47
  go_wp2_with fail
  refine HNO.out.mono ?_
  rintro e w2 ⟨v, rfl, ho, hb2⟩
  obtain ⟨As, ks, rfl, _, _, hr, hfar⟩ := ho.shape
  obtain ⟨m, hm⟩ : ∃ m, (nrm l).length = m := ⟨_, rfl⟩
  rw [hm]
  have hw2 := hb2.size
  simp only [World.size_alloc] at hw2
  have HB := Lib.hid (((HA0.out.trans (hb2.mono HA0.out.size)).alloc (by omega) (.cells #[.int .i64 2, .int .i64 0, .int .i64 0, .slice As m ks, .int .i64 0, .int .i64 0, .int .i64 0] 35)).setCell (p := ⟨w.heap.size, 0, none⟩) (Nat.le_refl _) (.slice (some ⟨w2.heap.size, 0, none⟩) 1 1))
  have hG1 := keepL (keepL HG0.out hb2) ((Below.refl _ _).alloc (Nat.le_refl _) (.cells #[.int .i64 2, .int .i64 0, .int .i64 0, .slice As m ks, .int .i64 0, .int .i64 0, .int .i64 0] 35))
  obtain ⟨r0, f0⟩ := obj29 hG1
  have hN := heap_new w2 (.cells #[.int .i64 2, .int .i64 0, .int .i64 0, .slice As m ks, .int .i64 0, .int .i64 0, .int .i64 0] 35)
  have hN2 := (Below.heap_setCell (w2.alloc (.cells #[.int .i64 2, .int .i64 0, .int .i64 0, .slice As m ks, .int .i64 0, .int .i64 0, .int .i64 0] 35)) ⟨w.heap.size, 0, none⟩ (.slice (some ⟨w2.heap.size, 0, none⟩) 1 1) w2.heap.size (by show w2.heap.size ≠ w.heap.size; omega)).trans hN
  have hR2 := rgs_far (k := 0) (r := w.heap.size) (hr.on ((Below.refl _ _).alloc (Nat.le_refl _) (.cells #[.int .i64 2, .int .i64 0, .int .i64 0, .slice As m ks, .int .i64 0, .int .i64 0, .int .i64 0] 35))) (hfar.imp id fun ⟨g, e, hg, _⟩ a ha => by
    rw [e] at ha; injection ha with ha; subst ha; rw [World.size_alloc] at hg; show g ≠ w.heap.size; omega) (.slice (some ⟨w2.heap.size, 0, none⟩) 1 1)
  have HNR := Lib.hid (one_nr (x := setN l) hN2 hm (hR2.more (by simp [World.setCell])))
  clear hb2 hG1 hN hN2 hR2 ho hr hfar
  go_wp2_with fail
  refine bodyPost_ret (v := tr (some ⟨w2.heap.size, 0, none⟩) 1 1) ?_ rfl ⟨some ⟨w2.heap.size, 0, none⟩, 1, rfl, HNR.out, (fun h => by cases h), HB.out⟩
  rw [S.results_cell1 rfl]
  go_simp
theorem rngs1 (w : World) (a b : Int) : S.Rgs (w.alloc (.cells #[.int .i64 a, .int .i64 b] 69)) (w.alloc (.cells #[.int .i64 a, .int .i64 b] 69)).heap.size (some ⟨w.heap.size, 0, none⟩) [(a, b)] := fun _ => by
  refine ⟨w.heap.size, 0, rfl, by simp, fun j q hq => ?_⟩
  cases j with
  | zero => simp at hq; subst hq; simp
  | succ j => simp at hq
theorem set_size (w : World) (p : Addr) (u : Value) : (w.setCell p u).heap.size = w.heap.size := by simp [World.setCell]
theorem cell_off {w : World} {r k : Nat} {u : Value} {t : TypeId} (h : w.heap[r]? = some (.cells #[u] t (0, 0))) : w.cell? ⟨r, k + 1, none⟩ = none := by simp [World.cell?, h]
theorem cell_other {w : World} {r b o : Nat} (u : Value) (h : b ≠ r) : (w.setCell ⟨r, 0, none⟩ u).cell? ⟨b, o, none⟩ = w.cell? ⟨b, o, none⟩ := by
  simp only [World.cell?, Below.heap_setCell w ⟨r, 0, none⟩ u b h]
theorem rgs_set1 {w : World} {r : Nat} {u0 : Value} {t : TypeId} (hr : w.heap[r]? = some (.cells #[u0] t (0, 0))) {B : Nat} {A : Option Addr} {l : List R} (h : S.Rgs w B A l) (u : Value) : S.Rgs (w.setCell ⟨r, 0, none⟩ u) B A l := fun hn => by
  obtain ⟨b, off, e, hb, hc⟩ := h hn
  have hne : b ≠ r := fun e => by
    subst e
    cases l with
    | nil => exact hn rfl
    | cons q l =>
      have := (hc 0 q rfl).2
      rw [cell_off hr] at this; cases this
  exact ⟨b, off, e, hb, fun j q hq => by rw [cell_other u hne, cell_other u hne]; exact hc j q hq⟩
/-- A tree that reads as nodes reads so still, where a block of one cell is written. -/
theorem nr_set1 {w : World} {r : Nat} {u0 : Value} {t : TypeId} (hr : w.heap[r]? = some (.cells #[u0] t (0, 0))) {A : Option Addr} {l : List Nd} (h : Nr w A l) (u : Value) : Nr (w.setCell ⟨r, 0, none⟩ u) A l := fun hn => by
  obtain ⟨b, off, e, hb, hc⟩ := h hn
  refine ⟨b, off, e, by rw [set_size]; exact hb, fun j x hx => ?_⟩
  obtain ⟨As, ks, ⟨c0, c1, c2, c3, c4, c5, c6⟩, hg⟩ := hc j x hx
  have hne : b ≠ r := fun e => by subst e; rw [cell_off hr] at c1; cases c1
  exact ⟨As, ks, ⟨(cell_other u hne).trans c0, (cell_other u hne).trans c1, (cell_other u hne).trans c2, (cell_other u hne).trans c3, (cell_other u hne).trans c4, (cell_other u hne).trans c5, (cell_other u hne).trans c6⟩, by rw [set_size]; exact rgs_set1 hr hg u⟩
set_option maxHeartbeats 2000000 in
set_option maxRecDepth 100000 in
theorem one_any (a : Int) (w : World) : Calls Try.prog 31 #[.int .i64 a] w (RetTr w [setN [(a, a)]]) := by
  have ha0 := ((Below.refl w.heap.size w).alloc (Nat.le_refl _) (.cells #[.slice none 0 0] 24)).alloc (by simp) (.cells #[.int .i64 a, .int .i64 a] 69)
  have HNO := Lib.hid (lf_any (some ⟨(w.alloc (.cells #[.slice none 0 0] 24)).heap.size, 0, none⟩) 1 1 [(a, a)] ((w.alloc (.cells #[.slice none 0 0] 24)).alloc (.cells #[.int .i64 a, .int .i64 a] 69)) (rngs1 _ a a) rfl (by omega))
  rw [World.size_alloc] at HNO
  have HA0 := Lib.hid ha0
  have HG0 := Lib.hid (keepL (heap_new w (.cells #[.slice none 0 0] 24)) ((Below.refl _ _).alloc (Nat.le_refl _) (.cells #[.int .i64 a, .int .i64 a] 69)))
  clear ha0
  go_enter Try.func31, Try.ntmps31
  go_wp2_with fail
  refine HNO.out.mono ?_
  rintro e w2 ⟨A, c, rfl, hN, hA, hb2⟩
  have hG2 := keepL HG0.out hb2
  obtain ⟨r0, f0⟩ := obj29 hG2
  have HNR := Lib.hid (nr_set1 hG2 hN (.slice A 1 c))
  have HB := Lib.hid ((HA0.out.trans (hb2.mono HA0.out.size)).setCell (p := ⟨w.heap.size, 0, none⟩) (Nat.le_refl _) (.slice A 1 c))
  have HA := Lib.hid hA
  clear hb2 hN hA hG2
  go_wp2_with fail
  refine bodyPost_ret (v := tr A 1 c) ?_ rfl ⟨A, c, rfl, HNR.out, HA.out, HB.out⟩
  rw [S.results_cell1 rfl]
  go_simp
end Go.Proofs.Ytceeimolfalmpaa
