/-
  A node about a tree (About), of the statements' own. Conditions: at most 50000 nodes.
-/
import Derived.Test.YtceeimolfalmpaaTG
import Derived.Deep.Cut
namespace Go.Proofs.Ytceeimolfalmpaa
open Go.RowKit ObSets ObTree

/-- What is handed back: a tree. -/
def RetTr (w : World) (l : List Nd) (e : Ending) (w' : World) : Prop := ∃ A c, e = .returned (tr A l.length c) ∧ Nr w' A l ∧ (A = none → l = [] ∧ c = 0) ∧ Below w.heap.size w w'
/-- An append within a region that draws its order. -/
theorem step_append_nk {w : World} {ops : Array Oper} {E : Prop} {o : Oper} {a : Act} {K : Act → World → Prop} {Q : Exit → Act → World → Prop} (hw : Region.wanted o (yielded ops a.tmps) = true) (h : o.wp Try.prog a w K Q) : if Region.wanted o (yielded ops a.tmps) = true then o.wp Try.prog a w K Q else E := by rw [if_pos hw]; exact h
theorem Nk.setO {w : World} {B r k : Nat} {v : Value} {l : List Nd} (h : Nk w B v l) (hr : B ≤ r) (hne : ∀ g, v.ownBlock = some g → g ≠ r) (u : Value) : Nk (w.setCell ⟨r, k, none⟩ u) B v l := by
  obtain ⟨L, h1, h2, h3⟩ := h
  refine ⟨L, h1, ownsRow_setCell_other h2 (fun e => hne r e rfl) u, fun p hp => ?_⟩
  obtain ⟨As, ks, e, hg⟩ := h3 p hp
  exact ⟨As, ks, e, hg.below ((Below.refl B w).setCell (p := ⟨r, k, none⟩) hr u)⟩
set_option maxHeartbeats 4000000 in
set_option maxRecDepth 100000 in
theorem about_any (x : Nd) (As : Option Addr) (ks : Nat) (A : Option Addr) (n c : Nat) (L : List Nd) (w : World) (hx : S.Rgs w w.heap.size As x.set) (hN : Nr w A L) (hA : A = none → L = [] ∧ c = 0) (hn : L.length = n) (h0 : 1 ≤ n) (hnb : n ≤ 50000) :
    Calls Try.prog 21 #[nv x (.slice As x.set.length ks), tr A n c] w (RetTr w (L ++ [{ x with a := (n : Int) - 1 }])) := by
  have HX := Lib.hid hx; have HN := Lib.hid hN; have HA := Lib.hid hA; have HLN := Lib.hid hn
  clear hx hN hA hn
  go_enter Try.func21, Try.ntmps21
  go_upto_region 2 with fail
  have hw0 := (((Below.refl w.heap.size w).alloc (Nat.le_refl _) (.cells #[.int .i64 x.kind, .int .i64 ((n : Int) - 1), .int .i64 x.b, .slice As x.set.length ks, .int .i64 x.mn, .int .i64 x.mx, .int .i64 x.n] 35)).alloc (by simp) (.cells #[.slice A n c] 24)).alloc (by simp; omega) (.cells #[.slice none 0 0] 24)
  have G51 := Lib.hid (keepL (keepL (heap_new w (.cells #[.int .i64 x.kind, .int .i64 ((n : Int) - 1), .int .i64 x.b, .slice As x.set.length ks, .int .i64 x.mn, .int .i64 x.mx, .int .i64 x.n] 35)) ((Below.refl _ _).alloc (Nat.le_refl _) (.cells #[.slice A n c] 24))) ((Below.refl _ _).alloc (Nat.le_refl _) (.cells #[.slice none 0 0] 24)))
  have G29 := Lib.hid (show (((w.alloc (.cells #[.int .i64 x.kind, .int .i64 ((n : Int) - 1), .int .i64 x.b, .slice As x.set.length ks, .int .i64 x.mn, .int .i64 x.mx, .int .i64 x.n] 35)).alloc (.cells #[.slice A n c] 24)).alloc (.cells #[.slice none 0 0] 24)).heap[w.heap.size + 1]? = some (.cells #[.slice A n c] 24) by
    have := keepL (heap_new (w.alloc (.cells #[.int .i64 x.kind, .int .i64 ((n : Int) - 1), .int .i64 x.b, .slice As x.set.length ks, .int .i64 x.mn, .int .i64 x.mx, .int .i64 x.n] 35)) (.cells #[.slice A n c] 24)) ((Below.refl _ _).alloc (Nat.le_refl _) (.cells #[.slice none 0 0] 24))
    simpa using this)
  have GR := Lib.hid (show (((w.alloc (.cells #[.int .i64 x.kind, .int .i64 ((n : Int) - 1), .int .i64 x.b, .slice As x.set.length ks, .int .i64 x.mn, .int .i64 x.mx, .int .i64 x.n] 35)).alloc (.cells #[.slice A n c] 24)).alloc (.cells #[.slice none 0 0] 24)).heap[w.heap.size + 2]? = some (.cells #[.slice none 0 0] 24) by
    have := heap_new ((w.alloc (.cells #[.int .i64 x.kind, .int .i64 ((n : Int) - 1), .int .i64 x.b, .slice As x.set.length ks, .int .i64 x.mn, .int .i64 x.mx, .int .i64 x.n] 35)).alloc (.cells #[.slice A n c] 24)) (.cells #[.slice none 0 0] 24)
    simpa using this)
  have hz0 : (((w.alloc (.cells #[.int .i64 x.kind, .int .i64 ((n : Int) - 1), .int .i64 x.b, .slice As x.set.length ks, .int .i64 x.mn, .int .i64 x.mx, .int .i64 x.n] 35)).alloc (.cells #[.slice A n c] 24)).alloc (.cells #[.slice none 0 0] 24)).heap.size = w.heap.size + 3 := by simp
  generalize (((w.alloc (.cells #[.int .i64 x.kind, .int .i64 ((n : Int) - 1), .int .i64 x.b, .slice As x.set.length ks, .int .i64 x.mn, .int .i64 x.mx, .int .i64 x.n] 35)).alloc (.cells #[.slice A n c] 24)).alloc (.cells #[.slice none 0 0] 24)) = W0 at *
  have HW0 := Lib.hid hw0
  clear hw0
  have hs3 : w.heap.size ≤ w.heap.size + 3 := by omega
  have SF := Lib.hid (fun (W : World) (hW : Below (w.heap.size + 2) W0 W) => (show (W.cell? ⟨w.heap.size + 1, 0, none⟩ = some (.slice A n c) ∧ (W.cell? ⟨w.heap.size, 0, none⟩ = some (.int .i64 x.kind) ∧ W.cell? ⟨w.heap.size, 1, none⟩ = some (.int .i64 ((n : Int) - 1)) ∧ W.cell? ⟨w.heap.size, 2, none⟩ = some (.int .i64 x.b) ∧ W.cell? ⟨w.heap.size, 3, none⟩ = some (.slice As x.set.length ks) ∧ W.cell? ⟨w.heap.size, 4, none⟩ = some (.int .i64 x.mn) ∧ W.cell? ⟨w.heap.size, 5, none⟩ = some (.int .i64 x.mx) ∧ W.cell? ⟨w.heap.size, 6, none⟩ = some (.int .i64 x.n))) from ⟨(hW.cell (p := ⟨w.heap.size + 1, 0, none⟩) (by show w.heap.size + 1 < w.heap.size + 2; omega)).trans (blk1 G29.out), by
    obtain ⟨⟨g0, g1, g2, g3, g4, g5, g6⟩, _⟩ := blk7 G51.out
    have hl : w.heap.size < w.heap.size + 2 := by omega
    exact ⟨(hW.cell (p := ⟨w.heap.size, 0, none⟩) hl).trans g0, (hW.cell (p := ⟨w.heap.size, 1, none⟩) hl).trans g1, (hW.cell (p := ⟨w.heap.size, 2, none⟩) hl).trans g2, (hW.cell (p := ⟨w.heap.size, 3, none⟩) hl).trans g3, (hW.cell (p := ⟨w.heap.size, 4, none⟩) hl).trans g4, (hW.cell (p := ⟨w.heap.size, 5, none⟩) hl).trans g5, (hW.cell (p := ⟨w.heap.size, 6, none⟩) hl).trans g6⟩⟩))
  obtain ⟨xa, hxa⟩ : ∃ xa : Nd, { x with a := (n : Int) - 1 } = xa := ⟨_, rfl⟩
  have hb0 : Below (w.heap.size + 3) W0 W0.drew := (Below.refl _ _).drew
  have qz : w.heap.size + 3 ≤ W0.heap.size := by omega
  have hL1 : Below (w.heap.size + 3) W0 (W0.alloc (.cells #[.int .i64 x.kind, .int .i64 ((n : Int) - 1), .int .i64 x.b, .slice As x.set.length ks, .int .i64 x.mn, .int .i64 x.mx, .int .i64 x.n] 35)).drew := ((Below.refl _ _).alloc qz _).drew
  have hE1 : Below (w.heap.size + 3) W0 (W0.alloc (.cells #[] 35)).drew := ((Below.refl _ _).alloc qz _).drew
  have hE2 : Below (w.heap.size + 3) W0 ((W0.alloc (.cells #[] 35)).alloc (.cells #[.int .i64 x.kind, .int .i64 ((n : Int) - 1), .int .i64 x.b, .slice As x.set.length ks, .int .i64 x.mn, .int .i64 x.mx, .int .i64 x.n] 35)).drew := (((Below.refl _ _).alloc qz _).alloc (by simp; omega) _).drew
  have hE3 : Below (w.heap.size + 3) W0 ((W0.alloc (.cells #[.int .i64 x.kind, .int .i64 ((n : Int) - 1), .int .i64 x.b, .slice As x.set.length ks, .int .i64 x.mn, .int .i64 x.mx, .int .i64 x.n] 35)).alloc (.cells #[] 35)).drew := (((Below.refl _ _).alloc qz _).alloc (by simp; omega) _).drew
  have NE1 : Nk (W0.alloc (.cells #[] 35)).drew w.heap.size (.slice (some ⟨w.heap.size + 3, 0, none⟩) 0 0) [] := (Nk.empty hz0.symm (by omega)).below (by simp; omega) (Below.refl _ _).drew
  have NE2 : Nk ((W0.alloc (.cells #[] 35)).alloc (.cells #[.int .i64 x.kind, .int .i64 ((n : Int) - 1), .int .i64 x.b, .slice As x.set.length ks, .int .i64 x.mn, .int .i64 x.mx, .int .i64 x.n] 35)).drew w.heap.size (.slice (some ⟨w.heap.size + 3, 0, none⟩) 0 0) [] := ((Nk.empty hz0.symm (by omega)).below (by simp; omega) ((Below.refl _ _).alloc (Nat.le_refl _) _)).below (by simp; omega) (Below.refl _ _).drew
  have NE3 : Nk ((W0.alloc (.cells #[.int .i64 x.kind, .int .i64 ((n : Int) - 1), .int .i64 x.b, .slice As x.set.length ks, .int .i64 x.mn, .int .i64 x.mx, .int .i64 x.n] 35)).alloc (.cells #[] 35)).drew w.heap.size (.slice (some ⟨w.heap.size + 3 + 1, 0, none⟩) 0 0) [] := (Nk.empty (by simp; omega) (by omega)).below (by simp; omega) (Below.refl _ _).drew
  have LE2 := Lib.hid (show ((W0.alloc (.cells #[] 35)).alloc (.cells #[.int .i64 x.kind, .int .i64 ((n : Int) - 1), .int .i64 x.b, .slice As x.set.length ks, .int .i64 x.mn, .int .i64 x.mx, .int .i64 x.n] 35)).drew.heap[w.heap.size + 3 + 1]? = some (.cells #[.int .i64 x.kind, .int .i64 ((n : Int) - 1), .int .i64 x.b, .slice As x.set.length ks, .int .i64 x.mn, .int .i64 x.mx, .int .i64 x.n] 35) by
    have := heap_new (W0.alloc (.cells #[] 35)) (.cells #[.int .i64 x.kind, .int .i64 ((n : Int) - 1), .int .i64 x.b, .slice As x.set.length ks, .int .i64 x.mn, .int .i64 x.mx, .int .i64 x.n] 35)
    rw [show (W0.alloc (.cells #[] 35)).heap.size = w.heap.size + 3 + 1 by simp; omega] at this
    exact this)
  have LE3 := Lib.hid (show ((W0.alloc (.cells #[.int .i64 x.kind, .int .i64 ((n : Int) - 1), .int .i64 x.b, .slice As x.set.length ks, .int .i64 x.mn, .int .i64 x.mx, .int .i64 x.n] 35)).alloc (.cells #[] 35)).drew.heap[w.heap.size + 3]? = some (.cells #[.int .i64 x.kind, .int .i64 ((n : Int) - 1), .int .i64 x.b, .slice As x.set.length ks, .int .i64 x.mn, .int .i64 x.mx, .int .i64 x.n] 35) by
    have := keepL (heap_new W0 (.cells #[.int .i64 x.kind, .int .i64 ((n : Int) - 1), .int .i64 x.b, .slice As x.set.length ks, .int .i64 x.mn, .int .i64 x.mx, .int .i64 x.n] 35)) ((Below.refl _ _).alloc (Nat.le_refl _) (.cells #[] 35))
    rw [hz0] at this
    exact this)
  refine wp_region_held_drew (S := fun W => (W.cell? ⟨w.heap.size + 1, 0, none⟩ = some (.slice A n c) ∧ (W.cell? ⟨w.heap.size, 0, none⟩ = some (.int .i64 x.kind) ∧ W.cell? ⟨w.heap.size, 1, none⟩ = some (.int .i64 ((n : Int) - 1)) ∧ W.cell? ⟨w.heap.size, 2, none⟩ = some (.int .i64 x.b) ∧ W.cell? ⟨w.heap.size, 3, none⟩ = some (.slice As x.set.length ks) ∧ W.cell? ⟨w.heap.size, 4, none⟩ = some (.int .i64 x.mn) ∧ W.cell? ⟨w.heap.size, 5, none⟩ = some (.int .i64 x.mx) ∧ W.cell? ⟨w.heap.size, 6, none⟩ = some (.int .i64 x.n)))) (by kernel_rfl) (SF.out _ (hb0.mono (by omega))) (fun hHeld => ?_)
  refine wpAnyH_take (i := 1) (oi := ⟨some 11, _, _, _, _, _⟩) (v := ?_) rfl (by kernel_rfl) (by kernel_rfl) (by kernel_rfl) (fun _ _ _ h => h) (Or.inl ⟨by rfl, ?_⟩) (by assumption) ?_
  rotate_left 1
  · (intro w9 hSw; (try dsimp only at hSw); go_simp; try with_reducible rfl)
  simp only [Act.put, List.setIfInBounds_toArray, List.set_cons_zero, List.set_cons_succ]
  refine wpAnyH_take (i := 2) (oi := ⟨some 12, _, _, _, _, _⟩) (v := ?_) rfl (by kernel_rfl) (by kernel_rfl) (by kernel_rfl) (fun _ _ _ h => h) (Or.inl ⟨by rfl, ?_⟩) (by assumption) ?_
  rotate_left 1
  · (intro w9 hSw; (try dsimp only at hSw); go_simp; try with_reducible rfl)
  simp only [Act.put, List.setIfInBounds_toArray, List.set_cons_zero, List.set_cons_succ]
  refine wpAnyH_take (i := 4) (oi := ⟨some 14, _, _, _, _, _⟩) (v := ?_) rfl (by kernel_rfl) (by kernel_rfl) (by kernel_rfl) (fun _ _ _ h => h) (Or.inl ⟨by rfl, ?_⟩) (by assumption) ?_
  rotate_left 1
  · (intro w9 hSw; (try dsimp only at hSw); go_simp; try with_reducible rfl)
  simp only [Act.put, List.setIfInBounds_toArray, List.set_cons_zero, List.set_cons_succ]
  refine wpAnyH_ready (rs := [0, 5]) (by kernel_rfl) (by simp) ?_
  refine AllReadyH.cons (o := ⟨some 10, _, _, _, _, _⟩) rfl (fun K hK => ?_) ?_
  rotate_left 1
  · refine AllReadyH.cons (o := ⟨some 15, _, _, _, _, _⟩) rfl (fun K hK => ?_) ?_
    rotate_left 1
    · exact AllReadyH.nil
    go_simp
    refine hK.out _ _ (SF.out _ (hL1.mono (by omega))) (fun hHeld => ?_)
    clear hK K
    try simp only [Act.put, List.setIfInBounds_toArray, List.set_cons_zero, List.set_cons_succ]
    refine wpAnyH_ready (rs := [0]) (by kernel_rfl) (by simp) ?_
    refine AllReadyH.cons (o := ⟨some 10, _, _, _, _, _⟩) rfl (fun K hK => ?_) ?_
    rotate_left 1
    · exact AllReadyH.nil
    go_simp
    refine hK.out _ _ (SF.out _ (hE3.mono (by omega))) (fun hHeld => ?_)
    clear hK K
    try simp only [Act.put, List.setIfInBounds_toArray, List.set_cons_zero, List.set_cons_succ]
    refine wpAnyH_ready (rs := [3]) (by kernel_rfl) (by simp) ?_
    refine AllReadyH.cons (o := ⟨some 13, _, _, _, _, _⟩) rfl (fun K hK => ?_) ?_
    rotate_left 1
    · exact AllReadyH.nil
    refine step_append_nk (by rfl) ?_
    refine wp_append_nk _ _ rfl w.heap.size _ [] L n rfl NE3 A c HLN.out rfl (Sc.of HN.out HA.out (HW0.out.trans (hE3.mono hs3))) (by simp; omega) (w.heap.size + 3) (by omega) (by have := hE3.size; omega) (fun k hk => by injection hk with hk; simp at hk; omega) ?_
    intro v1 V1 hn1 hv1 hg1
    have hb1 := hE3.trans (below_grown hg1 (by have := hE3.size; omega) (fun k hk => by injection hk with hk; simp at hk; omega))
    have hz1 : w.heap.size + 3 ≤ V1.heap.size := by have := hb1.size; omega
    rw [List.nil_append] at hn1
    refine hK.out _ _ (SF.out _ (hb1.mono (by omega))) (fun hHeld => ?_)
    clear hK K
    try simp only [Act.put, List.setIfInBounds_toArray, List.set_cons_zero, List.set_cons_succ]
    refine wpAnyH_ready (rs := [6]) (by kernel_rfl) (by simp) ?_
    refine AllReadyH.cons (o := ⟨some 16, _, _, _, _, _⟩) rfl (fun K hK => ?_) ?_
    rotate_left 1
    · exact AllReadyH.nil
    refine step_append_nk (by rfl) ?_
    refine wp_append_nk _ _ rfl w.heap.size v1 L [xa] 1 rfl (hn1) (some ⟨_, 0, none⟩) 1 rfl rfl (by rw [← hxa]; exact Sc.one (x := { x with a := (n : Int) - 1 }) (keepG LE3.out hg1 (fun g hg => by injection hg with hg; simp at hg; omega)) (HX.out.below (HW0.out.trans (hb1.mono hs3)))) (by rw [HLN.out]; omega) (w.heap.size + 3) (by omega) (by have := hb1.size; omega) hv1 ?_
    intro v2 V2 hn2 hv2 hg2
    obtain ⟨A2, k2, rfl⟩ := hn2.shape
    have hb3 := hb1.trans (below_grown hg2 (by have := hb1.size; omega) hv1)
    refine hK.out _ _ (SF.out _ (hb3.mono (by omega))) (fun hHeld => ?_)
    clear hK K
    try simp only [Act.put, List.setIfInBounds_toArray, List.set_cons_zero, List.set_cons_succ]
    refine wpAnyH_take (i := 7) (oi := ⟨some 17, _, _, _, _, _⟩) (v := ?_) rfl (by kernel_rfl) (by kernel_rfl) (by kernel_rfl) (fun _ _ _ h => h) (Or.inl ⟨by rfl, ?_⟩) (by assumption) ?_
    rotate_left 1
    · (intro w9 hSw; (try dsimp only at hSw); go_simp; try with_reducible rfl)
    simp only [Act.put, List.setIfInBounds_toArray, List.set_cons_zero, List.set_cons_succ]
    have hr0 := blk1 ((hb3.block _ (show w.heap.size + 2 < w.heap.size + 3 by omega)).trans GR.out)
    have hrf : V2.frozen? ⟨w.heap.size + 2, 0, none⟩ = false := by simp [World.frozen?, (hb3.block _ (show w.heap.size + 2 < w.heap.size + 3 by omega)).trans GR.out]
    have hbf := (hb3.mono (show w.heap.size + 2 ≤ w.heap.size + 3 by omega)).setCell (p := ⟨w.heap.size + 1 + 1, 0, none⟩) (Nat.le_refl _) (.slice A2 (L.length + 1) k2)
    have HN2 := Lib.hid (hn2.setO (r := w.heap.size + 1 + 1) (k := 0) (by omega) (fun g hg => by have := hv2 g hg; omega) (.slice A2 (L.length + 1) k2))
    have HBF := Lib.hid hbf
    have hr1 : V2.cell? ⟨w.heap.size + 1 + 1, 0, none⟩ = some (.slice none 0 0) := hr0
    have hzz : w.heap.size ≤ V2.heap.size := by have := hb3.size; omega
    refine wpAnyH_ready (rs := [8]) (by kernel_rfl) (by simp) ?_
    refine AllReadyH.cons (o := ⟨none, _, _, _, _, _⟩) rfl (fun K hK => ?_) ?_
    rotate_left 1
    · exact AllReadyH.nil
    go_simp
    refine hK.out _ _ (SF.out _ hbf) (fun hHeld => ?_)
    clear hK K
    refine wpAnyH_done (by kernel_rfl) ?_ _
    go_wp2_with fail
    rw [← hxa] at HN2
    refine bodyPost_ret (v := tr A2 (L.length + 1) k2) ?_ rfl ⟨A2, k2, by simp, (HN2.out.reads (by simpa using hzz)), (Sc.own HN2.out).1, HW0.out.trans (HBF.out.mono (by omega))⟩
    rw [S.results_cell1 rfl]
    go_simp
  go_simp
  refine hK.out _ _ (SF.out _ (hE1.mono (by omega))) (fun hHeld => ?_)
  clear hK K
  try simp only [Act.put, List.setIfInBounds_toArray, List.set_cons_zero, List.set_cons_succ]
  refine wpAnyH_ready (rs := [3, 5]) (by kernel_rfl) (by simp) ?_
  refine AllReadyH.cons (o := ⟨some 13, _, _, _, _, _⟩) rfl (fun K hK => ?_) ?_
  rotate_left 1
  · refine AllReadyH.cons (o := ⟨some 15, _, _, _, _, _⟩) rfl (fun K hK => ?_) ?_
    rotate_left 1
    · exact AllReadyH.nil
    go_simp
    refine hK.out _ _ (SF.out _ (hE2.mono (by omega))) (fun hHeld => ?_)
    clear hK K
    try simp only [Act.put, List.setIfInBounds_toArray, List.set_cons_zero, List.set_cons_succ]
    refine wpAnyH_ready (rs := [3]) (by kernel_rfl) (by simp) ?_
    refine AllReadyH.cons (o := ⟨some 13, _, _, _, _, _⟩) rfl (fun K hK => ?_) ?_
    rotate_left 1
    · exact AllReadyH.nil
    refine step_append_nk (by rfl) ?_
    refine wp_append_nk _ _ rfl w.heap.size _ [] L n rfl NE2 A c HLN.out rfl (Sc.of HN.out HA.out (HW0.out.trans (hE2.mono hs3))) (by simp; omega) (w.heap.size + 3) (by omega) (by have := hE2.size; omega) (fun k hk => by injection hk with hk; simp at hk; omega) ?_
    intro v1 V1 hn1 hv1 hg1
    have hb1 := hE2.trans (below_grown hg1 (by have := hE2.size; omega) (fun k hk => by injection hk with hk; simp at hk; omega))
    have hz1 : w.heap.size + 3 ≤ V1.heap.size := by have := hb1.size; omega
    rw [List.nil_append] at hn1
    refine hK.out _ _ (SF.out _ (hb1.mono (by omega))) (fun hHeld => ?_)
    clear hK K
    try simp only [Act.put, List.setIfInBounds_toArray, List.set_cons_zero, List.set_cons_succ]
    refine wpAnyH_ready (rs := [6]) (by kernel_rfl) (by simp) ?_
    refine AllReadyH.cons (o := ⟨some 16, _, _, _, _, _⟩) rfl (fun K hK => ?_) ?_
    rotate_left 1
    · exact AllReadyH.nil
    refine step_append_nk (by rfl) ?_
    refine wp_append_nk _ _ rfl w.heap.size v1 L [xa] 1 rfl (hn1) (some ⟨_, 0, none⟩) 1 rfl rfl (by rw [← hxa]; exact Sc.one (x := { x with a := (n : Int) - 1 }) (keepG LE2.out hg1 (fun g hg => by injection hg with hg; simp at hg; omega)) (HX.out.below (HW0.out.trans (hb1.mono hs3)))) (by rw [HLN.out]; omega) (w.heap.size + 3) (by omega) (by have := hb1.size; omega) hv1 ?_
    intro v2 V2 hn2 hv2 hg2
    obtain ⟨A2, k2, rfl⟩ := hn2.shape
    have hb3 := hb1.trans (below_grown hg2 (by have := hb1.size; omega) hv1)
    refine hK.out _ _ (SF.out _ (hb3.mono (by omega))) (fun hHeld => ?_)
    clear hK K
    try simp only [Act.put, List.setIfInBounds_toArray, List.set_cons_zero, List.set_cons_succ]
    refine wpAnyH_take (i := 7) (oi := ⟨some 17, _, _, _, _, _⟩) (v := ?_) rfl (by kernel_rfl) (by kernel_rfl) (by kernel_rfl) (fun _ _ _ h => h) (Or.inl ⟨by rfl, ?_⟩) (by assumption) ?_
    rotate_left 1
    · (intro w9 hSw; (try dsimp only at hSw); go_simp; try with_reducible rfl)
    simp only [Act.put, List.setIfInBounds_toArray, List.set_cons_zero, List.set_cons_succ]
    have hr0 := blk1 ((hb3.block _ (show w.heap.size + 2 < w.heap.size + 3 by omega)).trans GR.out)
    have hrf : V2.frozen? ⟨w.heap.size + 2, 0, none⟩ = false := by simp [World.frozen?, (hb3.block _ (show w.heap.size + 2 < w.heap.size + 3 by omega)).trans GR.out]
    have hbf := (hb3.mono (show w.heap.size + 2 ≤ w.heap.size + 3 by omega)).setCell (p := ⟨w.heap.size + 1 + 1, 0, none⟩) (Nat.le_refl _) (.slice A2 (L.length + 1) k2)
    have HN2 := Lib.hid (hn2.setO (r := w.heap.size + 1 + 1) (k := 0) (by omega) (fun g hg => by have := hv2 g hg; omega) (.slice A2 (L.length + 1) k2))
    have HBF := Lib.hid hbf
    have hr1 : V2.cell? ⟨w.heap.size + 1 + 1, 0, none⟩ = some (.slice none 0 0) := hr0
    have hzz : w.heap.size ≤ V2.heap.size := by have := hb3.size; omega
    refine wpAnyH_ready (rs := [8]) (by kernel_rfl) (by simp) ?_
    refine AllReadyH.cons (o := ⟨none, _, _, _, _, _⟩) rfl (fun K hK => ?_) ?_
    rotate_left 1
    · exact AllReadyH.nil
    go_simp
    refine hK.out _ _ (SF.out _ hbf) (fun hHeld => ?_)
    clear hK K
    refine wpAnyH_done (by kernel_rfl) ?_ _
    go_wp2_with fail
    rw [← hxa] at HN2
    refine bodyPost_ret (v := tr A2 (L.length + 1) k2) ?_ rfl ⟨A2, k2, by simp, (HN2.out.reads (by simpa using hzz)), (Sc.own HN2.out).1, HW0.out.trans (HBF.out.mono (by omega))⟩
    rw [S.results_cell1 rfl]
    go_simp
  refine step_append_nk (by rfl) ?_
  refine wp_append_nk _ _ rfl w.heap.size _ [] L n rfl NE1 A c HLN.out rfl (Sc.of HN.out HA.out (HW0.out.trans (hE1.mono hs3))) (by simp; omega) (w.heap.size + 3) (by omega) (by have := hE1.size; omega) (fun k hk => by injection hk with hk; simp at hk; omega) ?_
  intro v1 V1 hn1 hv1 hg1
  have hb1 := hE1.trans (below_grown hg1 (by have := hE1.size; omega) (fun k hk => by injection hk with hk; simp at hk; omega))
  have hz1 : w.heap.size + 3 ≤ V1.heap.size := by have := hb1.size; omega
  rw [List.nil_append] at hn1
  refine hK.out _ _ (SF.out _ (hb1.mono (by omega))) (fun hHeld => ?_)
  clear hK K
  try simp only [Act.put, List.setIfInBounds_toArray, List.set_cons_zero, List.set_cons_succ]
  refine wpAnyH_ready (rs := [5]) (by kernel_rfl) (by simp) ?_
  refine AllReadyH.cons (o := ⟨some 15, _, _, _, _, _⟩) rfl (fun K hK => ?_) ?_
  rotate_left 1
  · exact AllReadyH.nil
  go_simp
  have hb2 := (hb1).alloc hz1 (.cells #[.int .i64 x.kind, .int .i64 ((n : Int) - 1), .int .i64 x.b, .slice As x.set.length ks, .int .i64 x.mn, .int .i64 x.mx, .int .i64 x.n] 35)
  refine hK.out _ _ (SF.out _ (hb2.mono (by omega))) (fun hHeld => ?_)
  clear hK K
  try simp only [Act.put, List.setIfInBounds_toArray, List.set_cons_zero, List.set_cons_succ]
  refine wpAnyH_ready (rs := [6]) (by kernel_rfl) (by simp) ?_
  refine AllReadyH.cons (o := ⟨some 16, _, _, _, _, _⟩) rfl (fun K hK => ?_) ?_
  rotate_left 1
  · exact AllReadyH.nil
  refine step_append_nk (by rfl) ?_
  refine wp_append_nk _ _ rfl w.heap.size v1 L [xa] 1 rfl (hn1.below (by omega) ((Below.refl _ _).alloc (Nat.le_refl _) _)) (some ⟨_, 0, none⟩) 1 rfl rfl (by rw [← hxa]; exact Sc.one (x := { x with a := (n : Int) - 1 }) (heap_new _ _) (HX.out.below (HW0.out.trans (hb2.mono hs3)))) (by rw [HLN.out]; omega) (w.heap.size + 3) (by omega) (by have := hb2.size; omega) hv1 ?_
  intro v2 V2 hn2 hv2 hg2
  obtain ⟨A2, k2, rfl⟩ := hn2.shape
  have hb3 := hb2.trans (below_grown hg2 (by have := hb2.size; omega) hv1)
  refine hK.out _ _ (SF.out _ (hb3.mono (by omega))) (fun hHeld => ?_)
  clear hK K
  try simp only [Act.put, List.setIfInBounds_toArray, List.set_cons_zero, List.set_cons_succ]
  refine wpAnyH_take (i := 7) (oi := ⟨some 17, _, _, _, _, _⟩) (v := ?_) rfl (by kernel_rfl) (by kernel_rfl) (by kernel_rfl) (fun _ _ _ h => h) (Or.inl ⟨by rfl, ?_⟩) (by assumption) ?_
  rotate_left 1
  · (intro w9 hSw; (try dsimp only at hSw); go_simp; try with_reducible rfl)
  simp only [Act.put, List.setIfInBounds_toArray, List.set_cons_zero, List.set_cons_succ]
  have hr0 := blk1 ((hb3.block _ (show w.heap.size + 2 < w.heap.size + 3 by omega)).trans GR.out)
  have hrf : V2.frozen? ⟨w.heap.size + 2, 0, none⟩ = false := by simp [World.frozen?, (hb3.block _ (show w.heap.size + 2 < w.heap.size + 3 by omega)).trans GR.out]
  have hbf := (hb3.mono (show w.heap.size + 2 ≤ w.heap.size + 3 by omega)).setCell (p := ⟨w.heap.size + 1 + 1, 0, none⟩) (Nat.le_refl _) (.slice A2 (L.length + 1) k2)
  have HN2 := Lib.hid (hn2.setO (r := w.heap.size + 1 + 1) (k := 0) (by omega) (fun g hg => by have := hv2 g hg; omega) (.slice A2 (L.length + 1) k2))
  have HBF := Lib.hid hbf
  have hr1 : V2.cell? ⟨w.heap.size + 1 + 1, 0, none⟩ = some (.slice none 0 0) := hr0
  have hzz : w.heap.size ≤ V2.heap.size := by have := hb3.size; omega
  refine wpAnyH_ready (rs := [8]) (by kernel_rfl) (by simp) ?_
  refine AllReadyH.cons (o := ⟨none, _, _, _, _, _⟩) rfl (fun K hK => ?_) ?_
  rotate_left 1
  · exact AllReadyH.nil
  go_simp
  refine hK.out _ _ (SF.out _ hbf) (fun hHeld => ?_)
  clear hK K
  refine wpAnyH_done (by kernel_rfl) ?_ _
  go_wp2_with fail
  rw [← hxa] at HN2
  refine bodyPost_ret (v := tr A2 (L.length + 1) k2) ?_ rfl ⟨A2, k2, by simp, (HN2.out.reads (by simpa using hzz)), (Sc.own HN2.out).1, HW0.out.trans (HBF.out.mono (by omega))⟩
  rw [S.results_cell1 rfl]
  go_simp
end Go.Proofs.Ytceeimolfalmpaa
