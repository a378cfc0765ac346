/-
  GapPlays answers true at every size, every slice of edits and every place.
-/
import Derived.Test.YtjciadimeejmjaaW13
namespace Go.Proofs.Ytjciadimeejmjaa
open Go.RowKit ObGap

/-- A slice of edits in a block from lo on. -/
def EdsIn (w : World) (lo : Nat) (A : Option Addr) (l : List Ed) : Prop :=
  l ≠ [] → ∃ b off, A = some ⟨b, off, none⟩ ∧ lo ≤ b ∧ b < w.heap.size ∧ ∀ j x, l[j]? = some x → EdAt w b (off + j * 4) x
theorem Ow.edsIn {w : World} {B : Nat} {v : Value} {l : List Ed} (h : Ow w B v l) : ∃ A cap, v = .slice A l.length cap ∧ EdsIn w B A l := by
  obtain ⟨A, cap, hv, hE, hA⟩ := h.shape
  refine ⟨A, cap, hv, fun hn => ?_⟩
  obtain ⟨b, off, e, hb, hc⟩ := hE hn
  rcases hA with h0 | ⟨g, e2, h1, h2⟩
  · exact absurd h0 hn
  · rw [e] at e2
    injection e2 with e2
    injection e2 with e2
    exact ⟨b, off, e, by omega, hb, hc⟩
theorem EdsIn.keep {w w' : World} {lo : Nat} {A : Option Addr} {l : List Ed} (h : EdsIn w lo A l) (hs : w.heap.size ≤ w'.heap.size) (hk : ∀ k, k < w.heap.size → lo ≤ k → w'.heap[k]? = w.heap[k]?) : EdsIn w' lo A l := fun hn => by
  obtain ⟨b, off, e, h1, h2, hc⟩ := h hn
  exact ⟨b, off, e, h1, by omega, fun j x hj => (hc j x hj).keep (hk b h2 h1)⟩
theorem EdsIn.on {w w' : World} {lo : Nat} {A : Option Addr} {l : List Ed} (h : EdsIn w lo A l) (hb : Below w.heap.size w w') : EdsIn w' lo A l := h.keep hb.size (fun k hk _ => hb.block k hk)
theorem EdsIn.past3 {w w' : World} {lo c g t : Nat} {A : Option Addr} {l : List Ed} (h : EdsIn w lo A l) (hx : Ex3 c g t w w') (hc : c < lo) (hg : g < lo) (ht : t < lo) : EdsIn w' lo A l := h.keep hx.size (fun k hk hl => hx.block k hk (by omega) (by omega) (by omega))
theorem EdsIn.at_ {w : World} {lo : Nat} {A : Option Addr} {l : List Ed} (h : EdsIn w lo A l) {k : Nat} (hk : k < l.length) :
    ∃ b off, A = some ⟨b, off, none⟩ ∧ lo ≤ b ∧ b < w.heap.size ∧ EdAt w b (off + k * 4) l[k] := by
  obtain ⟨b, off, e, h1, h2, hc⟩ := h (fun e => by rw [e] at hk; simp at hk)
  exact ⟨b, off, e, h1, h2, hc k _ (List.getElem?_eq_getElem hk)⟩
theorem EdAt.past3 {w w' : World} {b o c g t : Nat} {x : Ed} (h : EdAt w b o x) (hx : Ex3 c g t w w') (hl : b < w.heap.size) (h1 : b ≠ c) (h2 : b ≠ g) (h3 : b ≠ t) : EdAt w' b o x := h.keep (hx.block _ hl h1 h2 h3)
/-- The new text of the page's own. -/
theorem tx_new (w : World) (n : Nat) (h : n ≤ 4096) : Tx (w.alloc (.cells #[.int .i64 (n : Int), str [], .int .i64 0] 30)) w.heap.size n [] 0 := ⟨heap_new _ _, by simp, h⟩
/-- Within a region that draws its order one may go on with a condition that says more. -/
theorem wpAnyH_switch {P : Program} {md : Region.Mode} {ops : Array Oper} {Q : Exit → Act → World → Prop} {S S' : World → Prop} (h : ∀ w, S' w → S w) :
    ∀ (fuel : Nat) (listed : Array Bool) (a : Act) (w : World), wpAnyH P md ops Q S' fuel listed a w → wpAnyH P md ops Q S fuel listed a w
  | 0, _, _, _, hw => hw
  | fuel + 1, _, _, _, hw => ⟨hw.1, fun i hi => wpOp_mono (fun a' w' h' => ⟨h _ h'.1, wpAnyH_switch h fuel _ a' w' h'.2⟩) (hw.2 i hi)⟩
theorem s1_of {W : World} {b o t mx p : Nat} {s : Bs} {x : Ed} (E : EdAt W b o x) (h : Tx W t mx s p) : W.cell? ⟨b, o, none⟩ = some (.int .i64 x.k) ∧ W.cell? ⟨b, o + 1, none⟩ = some (.int .i64 x.a) ∧ W.cell? ⟨b, o + 2, none⟩ = some (.int .i64 x.n) ∧ W.cell? ⟨b, o + 3, none⟩ = some (str x.s) ∧ W.cell? ⟨t, 1, none⟩ = some (str s) := ⟨E.1, E.2.1, E.2.2.1, E.2.2.2, h.cells.2.1⟩
/-- What a round of GapPlays keeps. -/
def PlayRel (w : World) (c g t mx lo : Nat) (A : Option Addr) (l : List Ed) (wr : World) : Prop :=
  (∃ s p, Chk wr c g mx s p ∧ Tx wr t mx s p) ∧ EdsIn wr lo A l ∧ Below w.heap.size w wr
set_option maxHeartbeats 4000000 in
set_option maxRecDepth 100000 in
theorem plays_walk (size at0 : Int) (A0 : Option Addr) (l0 : List Ed) (cap0 : Nat) (w : World) (hE0 : Eds w w.heap.size A0 l0) : Calls Try.prog 3 #[.int .i64 size, .slice A0 l0.length cap0, .int .i64 at0] w fun e w' => e = .returned (.bool true) ∧ Below w.heap.size w w' := by
  have HE0 := Lib.hid hE0
  clear hE0
  by_cases hsz : size < 4 ∨ 4096 < size
  · have HN := Lib.hid (fun w => new_not size w hsz)
    by_cases h1 : size < 4
    · have d1 : decide (size < 4) = true := by simp [h1]
      clear hsz h1
      go_enter Try.func3, Try.ntmps3
      go_wp2_with fail
      refine (wakes_any _).mono ?_
      rintro e w1 ⟨rfl, hb1⟩
      go_wp2_with fail
      refine (HN.out _).mono ?_
      rintro e w2 ⟨rfl, hb2⟩
      go_wp2_with fail
      go_ret
      exact ⟨rfl, bel_trans hb1 hb2⟩
    · have d1 : decide (size < 4) = false := by simpa using h1
      have d2 : decide (4096 < size) = true := by simp; omega
      clear hsz h1
      go_enter Try.func3, Try.ntmps3
      go_wp2_with fail
      refine (wakes_any _).mono ?_
      rintro e w1 ⟨rfl, hb1⟩
      go_wp2_with fail
      refine (HN.out _).mono ?_
      rintro e w2 ⟨rfl, hb2⟩
      go_wp2_with fail
      go_ret
      exact ⟨rfl, bel_trans hb1 hb2⟩
  · obtain ⟨mx, rfl⟩ : ∃ n : Nat, size = n := ⟨size.toNat, by omega⟩
    have hm4 : 4 ≤ mx := by omega
    have hm5 : mx ≤ 4096 := by omega
    have d1 : decide ((mx : Int) < 4) = false := by simp; omega
    have d2 : decide (4096 < (mx : Int)) = false := by simp; omega
    have HTN := Lib.hid (fun w => tx_new w mx hm5)
    have HNW := Lib.hid (fun w => new_chk mx w hm4 hm5)
    clear hsz hm4 hm5
    go_enter Try.func3, Try.ntmps3
    go_wp2_with fail
    refine (wakes_any _).mono ?_
    rintro e w1 ⟨rfl, hb1⟩
    have B1 := Lib.hid hb1
    clear hb1
    go_wp2_with fail
    refine (HNW.out _).mono ?_
    rintro e w2 ⟨rfl, hc2, hb2⟩
    have C2 := Lib.hid hc2
    have B2 := Lib.hid (bel_trans B1.out hb2)
    clear hc2 hb2
    go_wp2_with fail
    have T3 := Lib.hid (HTN.out w2)
    have B3 := Lib.hid (alloc_below w2 (.cells #[.int .i64 (mx : Int), str [], .int .i64 0] 30))
    have L3 := Lib.hid (show (w2.alloc (.cells #[.int .i64 (mx : Int), str [], .int .i64 0] 30)).heap.size = w2.heap.size + 1 by simp)
    have N2 := Lib.hid (show w1.heap.size + 1 < w2.heap.size from C2.out.lt.1)
    obtain ⟨w3, hw3⟩ : ∃ W, W = w2.alloc (.cells #[.int .i64 (mx : Int), str [], .int .i64 0] 30) := ⟨_, rfl⟩
    have hw3' : w2.alloc (.cells #[.int .i64 (mx : Int), .string ⟨#[]⟩, .int .i64 0] 30) = w3 := hw3.symm
    rw [← hw3] at T3 B3 L3
    rw [hw3']
    have C3 := Lib.hid (C2.out.on B3.out)
    have BB3 := Lib.hid (bel_trans B2.out B3.out)
    clear hw3 hw3' C2
    refine (edits_any A0 l0 cap0 60 5000 w3 (HE0.out.on BB3.out) (by omega)).mono ?_
    rintro e w4 ⟨v, rfl, hO, hb4⟩
    have hlen := eds_len l0 60 5000
    generalize eds l0 60 5000 = l at hO hlen
    obtain ⟨A, cap, rfl, hE⟩ := hO.edsIn
    have C4 := Lib.hid (C3.out.on hb4)
    have T4 := Lib.hid (T3.out.on hb4)
    have E4 := Lib.hid hE
    have B4 := Lib.hid (bel_trans BB3.out hb4)
    have BLO := Lib.hid B2.out.size
    have BL1 := Lib.hid B1.out.size
    clear hO hb4 hE C3 T3 BB3 B3 B2 B1 HE0 HTN HNW
    generalize hlo : w3.heap.size = lo at *
    clear hlo
    go_wp2_with fail
    go_loopw [10] (fun t wr => ∃ k : Nat, k ≤ l.length ∧ t = .int .i64 k ∧ PlayRel w (w1.heap.size + 1) w1.heap.size w2.heap.size mx lo A l wr) (fun t _ => l.length - (intOf t).toNat)
    case atStart => exact ⟨0, by omega, rfl, ⟨[], 0, C4.out, T4.out⟩, E4.out, B4.out⟩
    case round =>
      obtain ⟨k, hk, rfl, ⟨s, p, hc, ht⟩, hE, hb⟩ := hrel
      have HC := Lib.hid hc
      have HT := Lib.hid ht
      have HE := Lib.hid hE
      have HB := Lib.hid hb
      clear hc ht hE hb
      by_cases hkn : k < l.length
      · have i1 : (k : Int) < (l.length : Int) := by omega
        have i2 : decide (k < l.length) = true := by simp [hkn]
        obtain ⟨b, off, rfl, hlo, hbl, hA⟩ := HE.out.at_ hkn
        generalize l[k] = x at hA
        obtain ⟨xk, xa, xn, xs⟩ := x
        have HA := Lib.hid hA
        obtain ⟨e0, e1, e2, e3⟩ := hA
        simp only at e0 e1 e2 e3
        have HNE := Lib.hid (show b ≠ w1.heap.size + 1 ∧ b ≠ w1.heap.size ∧ b ≠ w2.heap.size ∧ b < wr.heap.size from ⟨by have := L3.out; have := N2.out; omega, by have := L3.out; have := N2.out; omega, by have := L3.out; omega, hbl⟩)
        have HT12 := Lib.hid (show w2.heap.size ≠ w1.heap.size + 1 ∧ w2.heap.size ≠ w1.heap.size from ⟨by have := N2.out; omega, by have := N2.out; omega⟩)
        clear hlo hbl
        go_wp2_with fail
        refine wp_region_held_drew (S := fun V => V.cell? ⟨b, off + k * 4, none⟩ = some (.int .i64 xk) ∧ V.cell? ⟨b, off + k * 4 + 1, none⟩ = some (.int .i64 xa) ∧ V.cell? ⟨b, off + k * 4 + 2, none⟩ = some (.int .i64 xn) ∧ V.cell? ⟨b, off + k * 4 + 3, none⟩ = some (str xs)) (by kernel_rfl) HA.out.drew (fun hHeld => ?_)
        refine wpAnyH_take (i := 0) (oi := ⟨some 47, _, _, _, _, _⟩) (v := ?_) rfl (by kernel_rfl) (by kernel_rfl) (by kernel_rfl) (fun _ _ _ h => h) (Or.inl ⟨by rfl, ?_⟩) (by assumption) ?_
        rotate_left 1
        · (intro w9 hSw; (try dsimp only at hSw); go_simp; try with_reducible rfl)
        simp only [Act.put, List.setIfInBounds_toArray, List.set_cons_zero, List.set_cons_succ]
        refine wpAnyH_take (i := 1) (oi := ⟨some 48, _, _, _, _, _⟩) (v := ?_) rfl (by kernel_rfl) (by kernel_rfl) (by kernel_rfl) (fun _ _ _ h => h) (Or.inl ⟨by rfl, ?_⟩) (by assumption) ?_
        rotate_left 1
        · (intro w9 hSw; (try dsimp only at hSw); go_simp; try with_reducible rfl)
        simp only [Act.put, List.setIfInBounds_toArray, List.set_cons_zero, List.set_cons_succ]
        refine wpAnyH_take (i := 2) (oi := ⟨some 49, _, _, _, _, _⟩) (v := ?_) rfl (by kernel_rfl) (by kernel_rfl) (by kernel_rfl) (fun _ _ _ h => h) (Or.inl ⟨by rfl, ?_⟩) (by assumption) ?_
        rotate_left 1
        · (intro w9 hSw; (try dsimp only at hSw); go_simp; try with_reducible rfl)
        simp only [Act.put, List.setIfInBounds_toArray, List.set_cons_zero, List.set_cons_succ]
        refine wpAnyH_take (i := 3) (oi := ⟨some 50, _, _, _, _, _⟩) (v := ?_) rfl (by kernel_rfl) (by kernel_rfl) (by kernel_rfl) (fun _ _ _ h => h) (Or.inl ⟨by rfl, ?_⟩) (by assumption) ?_
        rotate_left 1
        · (intro w9 hSw; (try dsimp only at hSw); go_simp; try with_reducible rfl)
        simp only [Act.put, List.setIfInBounds_toArray, List.set_cons_zero, List.set_cons_succ]
        refine wpAnyH_take (i := 4) (oi := ⟨some 51, _, _, _, _, _⟩) (v := ?_) rfl (by kernel_rfl) (by kernel_rfl) (by kernel_rfl) (fun _ _ _ h => h) (Or.inl ⟨by rfl, ?_⟩) (by assumption) ?_
        rotate_left 1
        · (intro w9 hSw; (try dsimp only at hSw); go_simp; try with_reducible rfl)
        simp only [Act.put, List.setIfInBounds_toArray, List.set_cons_zero, List.set_cons_succ]
        refine wpAnyH_take (i := 5) (oi := ⟨some 52, _, _, _, _, _⟩) (v := ?_) rfl (by kernel_rfl) (by kernel_rfl) (by kernel_rfl) (fun _ _ _ h => h) (Or.inl ⟨by rfl, ?_⟩) (by assumption) ?_
        rotate_left 1
        · (intro w9 hSw; (try dsimp only at hSw); go_simp; try with_reducible rfl)
        simp only [Act.put, List.setIfInBounds_toArray, List.set_cons_zero, List.set_cons_succ]
        refine wpAnyH_ready (rs := [6]) (by kernel_rfl) (by simp) ?_
        refine AllReadyH.cons (o := ⟨some 53, _, _, _, _, _⟩) rfl (fun K hK => ?_) ?_
        rotate_left 1
        · exact AllReadyH.nil
        go_simp
        refine (does_any (w := wr.drew) HC.out HT.out HT12.out.1 HT12.out.2 ⟨xk, xa, xn, xs⟩).mono ?_
        rintro e w5 ⟨rfl, ⟨⟨s5, p5, hc5, ht5⟩, hx5⟩⟩
        have E5 := Lib.hid (HA.out.drew.past3 hx5 HNE.out.2.2.2 HNE.out.1 HNE.out.2.1 HNE.out.2.2.1)
        have C5 := Lib.hid hc5
        have T5 := Lib.hid ht5
        have X5 := Lib.hid hx5
        have LT5 := Lib.hid (Nat.lt_of_lt_of_le HNE.out.2.2.2 hx5.size)
        clear hc5 ht5 hx5
        refine hK.out _ _ (E5.out) (fun hHeld => ?_)
        clear hK K
        try simp only [Act.put, List.setIfInBounds_toArray, List.set_cons_zero, List.set_cons_succ]
        refine wpAnyH_switch (S' := fun V => V.cell? ⟨b, off + k * 4, none⟩ = some (.int .i64 xk) ∧ V.cell? ⟨b, off + k * 4 + 1, none⟩ = some (.int .i64 xa) ∧ V.cell? ⟨b, off + k * 4 + 2, none⟩ = some (.int .i64 xn) ∧ V.cell? ⟨b, off + k * 4 + 3, none⟩ = some (str xs) ∧ V.cell? ⟨w2.heap.size, 1, none⟩ = some (str s5)) (fun _ h => ⟨h.1, h.2.1, h.2.2.1, h.2.2.2.1⟩) _ _ _ _ ?_
        have hHeld5 := s1_of E5.out T5.out
        clear hHeld
        refine wpAnyH_take (i := 7) (oi := ⟨some 54, _, _, _, _, _⟩) (v := ?_) rfl (by kernel_rfl) (by kernel_rfl) (by kernel_rfl) (fun _ _ _ h => h) (Or.inl ⟨by rfl, ?_⟩) (by assumption) ?_
        rotate_left 1
        · (intro w9 hSw; (try dsimp only at hSw); go_simp; try with_reducible rfl)
        simp only [Act.put, List.setIfInBounds_toArray, List.set_cons_zero, List.set_cons_succ]
        refine wpAnyH_take (i := 8) (oi := ⟨some 55, _, _, _, _, _⟩) (v := ?_) rfl (by kernel_rfl) (by kernel_rfl) (by kernel_rfl) (fun _ _ _ h => h) (Or.inl ⟨by rfl, ?_⟩) (by assumption) ?_
        rotate_left 1
        · (intro w9 hSw; (try dsimp only at hSw); go_simp; try with_reducible rfl)
        simp only [Act.put, List.setIfInBounds_toArray, List.set_cons_zero, List.set_cons_succ]
        refine wpAnyH_take (i := 9) (oi := ⟨some 56, _, _, _, _, _⟩) (v := ?_) rfl (by kernel_rfl) (by kernel_rfl) (by kernel_rfl) (fun _ _ _ h => h) (Or.inl ⟨by rfl, ?_⟩) (by assumption) ?_
        rotate_left 1
        · (intro w9 hSw; (try dsimp only at hSw); go_simp; try with_reducible rfl)
        simp only [Act.put, List.setIfInBounds_toArray, List.set_cons_zero, List.set_cons_succ]
        refine wpAnyH_take (i := 10) (oi := ⟨some 57, _, _, _, _, _⟩) (v := ?_) rfl (by kernel_rfl) (by kernel_rfl) (by kernel_rfl) (fun _ _ _ h => h) (Or.inl ⟨by rfl, ?_⟩) (by assumption) ?_
        rotate_left 1
        · (intro w9 hSw; (try dsimp only at hSw); go_simp; try with_reducible rfl)
        simp only [Act.put, List.setIfInBounds_toArray, List.set_cons_zero, List.set_cons_succ]
        refine wpAnyH_ready (rs := [11]) (by kernel_rfl) (by simp) ?_
        refine AllReadyH.cons (o := ⟨some 58, _, _, _, _, _⟩) rfl (fun K hK => ?_) ?_
        rotate_left 1
        · exact AllReadyH.nil
        go_simp
        refine (same_any C5.out T5.out).mono ?_
        rintro e w6 ⟨rfl, hb6⟩
        have E6 := Lib.hid (E5.out.keep (hb6.block _ LT5.out))
        have C6 := Lib.hid (C5.out.on hb6)
        have T6 := Lib.hid (T5.out.on hb6)
        have LT6 := Lib.hid (Nat.lt_of_lt_of_le LT5.out hb6.size)
        have B6 := Lib.hid hb6
        clear hb6
        refine hK.out _ _ (s1_of E6.out T6.out) (fun hHeld => ?_)
        clear hK K
        try simp only [Act.put, List.setIfInBounds_toArray, List.set_cons_zero, List.set_cons_succ]
        refine wpAnyH_take (i := 12) (oi := ⟨some 59, _, _, _, _, _⟩) (v := ?_) rfl (by kernel_rfl) (by kernel_rfl) (by kernel_rfl) (fun _ _ _ h => h) (Or.inl ⟨by rfl, ?_⟩) (by assumption) ?_
        rotate_left 1
        · (intro w9 hSw; (try dsimp only at hSw); go_simp; try with_reducible rfl)
        simp only [Act.put, List.setIfInBounds_toArray, List.set_cons_zero, List.set_cons_succ]
        refine wpAnyH_take (i := 13) (oi := ⟨some 60, _, _, _, _, _⟩) (v := ?_) rfl (by kernel_rfl) (by kernel_rfl) (by kernel_rfl) (fun _ _ _ h => h) (Or.inl ⟨by rfl, ?_⟩) (by assumption) ?_
        rotate_left 1
        · (intro w9 hSw; (try dsimp only at hSw); go_simp; try with_reducible rfl)
        simp only [Act.put, List.setIfInBounds_toArray, List.set_cons_zero, List.set_cons_succ]
        refine wpAnyH_take (i := 14) (oi := ⟨some 61, _, _, _, _, _⟩) (v := ?_) rfl (by kernel_rfl) (by kernel_rfl) (by kernel_rfl) (fun _ _ _ h => h) (Or.inl ⟨by rfl, ?_⟩) (by assumption) ?_
        rotate_left 1
        · (intro w9 hSw; (try dsimp only at hSw); go_simp; try with_reducible rfl)
        simp only [Act.put, List.setIfInBounds_toArray, List.set_cons_zero, List.set_cons_succ]
        refine wpAnyH_take (i := 15) (oi := ⟨some 62, _, _, _, _, _⟩) (v := ?_) rfl (by kernel_rfl) (by kernel_rfl) (by kernel_rfl) (fun _ _ _ h => h) (Or.inl ⟨by rfl, ?_⟩) (by assumption) ?_
        rotate_left 1
        · (intro w9 hSw; (try dsimp only at hSw); go_simp; try with_reducible rfl)
        simp only [Act.put, List.setIfInBounds_toArray, List.set_cons_zero, List.set_cons_succ]
        refine wpAnyH_take (i := 16) (oi := ⟨some 63, _, _, _, _, _⟩) (v := ?_) rfl (by kernel_rfl) (by kernel_rfl) (by kernel_rfl) (fun _ _ _ h => h) (Or.inl ⟨by rfl, ?_⟩) (by assumption) ?_
        rotate_left 1
        · (intro w9 hSw; (try dsimp only at hSw); go_simp; try with_reducible rfl)
        simp only [Act.put, List.setIfInBounds_toArray, List.set_cons_zero, List.set_cons_succ]
        refine wpAnyH_take (i := 18) (oi := ⟨some 65, _, _, _, _, _⟩) (v := ?_) rfl (by kernel_rfl) (by kernel_rfl) (by kernel_rfl) (fun _ _ _ h => h) (Or.inl ⟨by rfl, ?_⟩) (by assumption) ?_
        rotate_left 1
        · (intro w9 hSw; (try dsimp only at hSw); go_simp; try with_reducible rfl)
        simp only [Act.put, List.setIfInBounds_toArray, List.set_cons_zero, List.set_cons_succ]
        refine wpAnyH_take (i := 19) (oi := ⟨some 66, _, _, _, _, _⟩) (v := ?_) rfl (by kernel_rfl) (by kernel_rfl) (by kernel_rfl) (fun _ _ _ h => h) (Or.inl ⟨by rfl, ?_⟩) (by assumption) ?_
        rotate_left 1
        · (intro w9 hSw; (try dsimp only at hSw); go_simp; try with_reducible rfl)
        simp only [Act.put, List.setIfInBounds_toArray, List.set_cons_zero, List.set_cons_succ]
        refine wpAnyH_take (i := 20) (oi := ⟨some 67, _, _, _, _, _⟩) (v := ?_) rfl (by kernel_rfl) (by kernel_rfl) (by kernel_rfl) (fun _ _ _ h => h) (Or.inl ⟨by rfl, ?_⟩) (by assumption) ?_
        rotate_left 1
        · (intro w9 hSw; (try dsimp only at hSw); go_simp; try with_reducible rfl)
        simp only [Act.put, List.setIfInBounds_toArray, List.set_cons_zero, List.set_cons_succ]
        refine wpAnyH_take (i := 21) (oi := ⟨some 68, _, _, _, _, _⟩) (v := ?_) rfl (by kernel_rfl) (by kernel_rfl) (by kernel_rfl) (fun _ _ _ h => h) (Or.inl ⟨by rfl, ?_⟩) (by assumption) ?_
        rotate_left 1
        · (intro w9 hSw; (try dsimp only at hSw); go_simp; try with_reducible rfl)
        simp only [Act.put, List.setIfInBounds_toArray, List.set_cons_zero, List.set_cons_succ]
        refine wpAnyH_take (i := 22) (oi := ⟨some 69, _, _, _, _, _⟩) (v := ?_) rfl (by kernel_rfl) (by kernel_rfl) (by kernel_rfl) (fun _ _ _ h => h) (Or.inl ⟨by rfl, ?_⟩) (by assumption) ?_
        rotate_left 1
        · (intro w9 hSw; (try dsimp only at hSw); go_simp; try with_reducible rfl)
        simp only [Act.put, List.setIfInBounds_toArray, List.set_cons_zero, List.set_cons_succ]
        refine wpAnyH_ready (rs := [17]) (by kernel_rfl) (by simp) ?_
        refine AllReadyH.cons (o := ⟨some 64, _, _, _, _, _⟩) rfl (fun K hK => ?_) ?_
        rotate_left 1
        · exact AllReadyH.nil
        go_simp
        refine (byte_chk C6.out at0).mono ?_
        rintro e w7 ⟨rfl, hb7⟩
        have E7 := Lib.hid (E6.out.keep (hb7.block _ LT6.out))
        have C7 := Lib.hid (C6.out.on hb7)
        have T7 := Lib.hid (T6.out.on hb7)
        have LT7 := Lib.hid (Nat.lt_of_lt_of_le LT6.out hb7.size)
        have B7 := Lib.hid hb7
        clear hb7
        refine hK.out _ _ (s1_of E7.out T7.out) (fun hHeld => ?_)
        clear hK K
        try simp only [Act.put, List.setIfInBounds_toArray, List.set_cons_zero, List.set_cons_succ]
        refine wpAnyH_ready (rs := [23]) (by kernel_rfl) (by simp) ?_
        refine AllReadyH.cons (o := ⟨some 70, _, _, _, _, _⟩) rfl (fun K hK => ?_) ?_
        rotate_left 1
        · exact AllReadyH.nil
        go_simp
        refine (rbyte_any s5 at0 _).mono ?_
        rintro e w8 ⟨rfl, rfl⟩
        refine hK.out _ _ (s1_of E7.out T7.out) (fun hHeld => ?_)
        clear hK K
        try simp only [Act.put, List.setIfInBounds_toArray, List.set_cons_zero, List.set_cons_succ]
        refine wpAnyH_take (i := 24) (oi := ⟨some 71, _, _, _, _, _⟩) (v := ?_) rfl (by kernel_rfl) (by kernel_rfl) (by kernel_rfl) (fun _ _ _ h => h) (Or.inl ⟨by rfl, ?_⟩) (by assumption) ?_
        rotate_left 1
        · (intro w9 hSw; (try dsimp only at hSw); go_simp; try with_reducible rfl)
        simp only [Act.put, List.setIfInBounds_toArray, List.set_cons_zero, List.set_cons_succ]
        refine wpAnyH_take (i := 25) (oi := ⟨some 72, _, _, _, _, _⟩) (v := ?_) rfl (by kernel_rfl) (by kernel_rfl) (by kernel_rfl) (fun _ _ _ h => h) (Or.inl ⟨by rfl, ?_⟩) (by assumption) ?_
        rotate_left 1
        · (intro w9 hSw; (try dsimp only at hSw); go_simp; try with_reducible rfl)
        simp only [Act.put, List.setIfInBounds_toArray, List.set_cons_zero, List.set_cons_succ]
        refine wpAnyH_take (i := 26) (oi := ⟨some 73, _, _, _, _, _⟩) (v := ?_) rfl (by kernel_rfl) (by kernel_rfl) (by kernel_rfl) (fun _ _ _ h => h) (Or.inl ⟨by rfl, ?_⟩) (by assumption) ?_
        rotate_left 1
        · (intro w9 hSw; (try dsimp only at hSw); go_simp; try with_reducible rfl)
        simp only [Act.put, List.setIfInBounds_toArray, List.set_cons_zero, List.set_cons_succ]
        refine wpAnyH_take (i := 27) (oi := ⟨some 74, _, _, _, _, _⟩) (v := ?_) rfl (by kernel_rfl) (by kernel_rfl) (by kernel_rfl) (fun _ _ _ h => h) (Or.inl ⟨by rfl, ?_⟩) (by assumption) ?_
        rotate_left 1
        · (intro w9 hSw; (try dsimp only at hSw); go_simp; try with_reducible rfl)
        simp only [Act.put, List.setIfInBounds_toArray, List.set_cons_zero, List.set_cons_succ]
        refine wpAnyH_take (i := 28) (oi := ⟨some 75, _, _, _, _, _⟩) (v := ?_) rfl (by kernel_rfl) (by kernel_rfl) (by kernel_rfl) (fun _ _ _ h => h) (Or.inl ⟨by rfl, ?_⟩) (by assumption) ?_
        rotate_left 1
        · (intro w9 hSw; (try dsimp only at hSw); go_simp; try with_reducible rfl)
        simp only [Act.put, List.setIfInBounds_toArray, List.set_cons_zero, List.set_cons_succ]
        refine wpAnyH_take (i := 29) (oi := ⟨some 76, _, _, _, _, _⟩) (v := ?_) rfl (by kernel_rfl) (by kernel_rfl) (by kernel_rfl) (fun _ _ _ h => h) (Or.inl ⟨by rfl, ?_⟩) (by assumption) ?_
        rotate_left 1
        · (intro w9 hSw; (try dsimp only at hSw); go_simp; try with_reducible rfl)
        simp only [Act.put, List.setIfInBounds_toArray, List.set_cons_zero, List.set_cons_succ]
        refine wpAnyH_take (i := 30) (oi := ⟨some 77, _, _, _, _, _⟩) (v := ?_) rfl (by kernel_rfl) (by kernel_rfl) (by kernel_rfl) (fun _ _ _ h => h) (Or.inl ⟨by rfl, ?_⟩) (by assumption) ?_
        rotate_left 1
        · (intro w9 hSw; (try dsimp only at hSw); go_simp; try with_reducible rfl)
        simp only [Act.put, List.setIfInBounds_toArray, List.set_cons_zero, List.set_cons_succ]
        refine wpAnyH_take (i := 31) (oi := ⟨some 78, _, _, _, _, _⟩) (v := ?_) rfl (by kernel_rfl) (by kernel_rfl) (by kernel_rfl) (fun _ _ _ h => h) (Or.inl ⟨by rfl, ?_⟩) (by assumption) ?_
        rotate_left 1
        · (intro w9 hSw; (try dsimp only at hSw); go_simp; try with_reducible rfl)
        simp only [Act.put, List.setIfInBounds_toArray, List.set_cons_zero, List.set_cons_succ]
        refine wpAnyH_take (i := 32) (oi := ⟨some 79, _, _, _, _, _⟩) (v := ?_) rfl (by kernel_rfl) (by kernel_rfl) (by kernel_rfl) (fun _ _ _ h => h) (Or.inl ⟨by rfl, ?_⟩) (by assumption) ?_
        rotate_left 1
        · (intro w9 hSw; (try dsimp only at hSw); go_simp; try with_reducible rfl)
        simp only [Act.put, List.setIfInBounds_toArray, List.set_cons_zero, List.set_cons_succ]
        refine wpAnyH_take (i := 34) (oi := ⟨some 81, _, _, _, _, _⟩) (v := ?_) rfl (by kernel_rfl) (by kernel_rfl) (by kernel_rfl) (fun _ _ _ h => h) (Or.inl ⟨by rfl, ?_⟩) (by assumption) ?_
        rotate_left 1
        · (intro w9 hSw; (try dsimp only at hSw); go_simp; try with_reducible rfl)
        simp only [Act.put, List.setIfInBounds_toArray, List.set_cons_zero, List.set_cons_succ]
        refine wpAnyH_take (i := 35) (oi := ⟨some 82, _, _, _, _, _⟩) (v := ?_) rfl (by kernel_rfl) (by kernel_rfl) (by kernel_rfl) (fun _ _ _ h => h) (Or.inl ⟨by rfl, ?_⟩) (by assumption) ?_
        rotate_left 1
        · (intro w9 hSw; (try dsimp only at hSw); go_simp; try with_reducible rfl)
        simp only [Act.put, List.setIfInBounds_toArray, List.set_cons_zero, List.set_cons_succ]
        refine wpAnyH_take (i := 36) (oi := ⟨some 83, _, _, _, _, _⟩) (v := ?_) rfl (by kernel_rfl) (by kernel_rfl) (by kernel_rfl) (fun _ _ _ h => h) (Or.inl ⟨by rfl, ?_⟩) (by assumption) ?_
        rotate_left 1
        · (intro w9 hSw; (try dsimp only at hSw); go_simp; try with_reducible rfl)
        simp only [Act.put, List.setIfInBounds_toArray, List.set_cons_zero, List.set_cons_succ]
        refine wpAnyH_take (i := 37) (oi := ⟨some 84, _, _, _, _, _⟩) (v := ?_) rfl (by kernel_rfl) (by kernel_rfl) (by kernel_rfl) (fun _ _ _ h => h) (Or.inl ⟨by rfl, ?_⟩) (by assumption) ?_
        rotate_left 1
        · (intro w9 hSw; (try dsimp only at hSw); go_simp; try with_reducible rfl)
        simp only [Act.put, List.setIfInBounds_toArray, List.set_cons_zero, List.set_cons_succ]
        refine wpAnyH_take (i := 38) (oi := ⟨some 85, _, _, _, _, _⟩) (v := ?_) rfl (by kernel_rfl) (by kernel_rfl) (by kernel_rfl) (fun _ _ _ h => h) (Or.inl ⟨by rfl, ?_⟩) (by assumption) ?_
        rotate_left 1
        · (intro w9 hSw; (try dsimp only at hSw); go_simp; try with_reducible rfl)
        simp only [Act.put, List.setIfInBounds_toArray, List.set_cons_zero, List.set_cons_succ]
        refine wpAnyH_take (i := 39) (oi := ⟨some 86, _, _, _, _, _⟩) (v := ?_) rfl (by kernel_rfl) (by kernel_rfl) (by kernel_rfl) (fun _ _ _ h => h) (Or.inl ⟨by rfl, ?_⟩) (by assumption) ?_
        rotate_left 1
        · (intro w9 hSw; (try dsimp only at hSw); go_simp; try with_reducible rfl)
        simp only [Act.put, List.setIfInBounds_toArray, List.set_cons_zero, List.set_cons_succ]
        refine wpAnyH_take (i := 40) (oi := ⟨some 87, _, _, _, _, _⟩) (v := ?_) rfl (by kernel_rfl) (by kernel_rfl) (by kernel_rfl) (fun _ _ _ h => h) (Or.inl ⟨by rfl, ?_⟩) (by assumption) ?_
        rotate_left 1
        · (intro w9 hSw; (try dsimp only at hSw); go_simp; try with_reducible rfl)
        simp only [Act.put, List.setIfInBounds_toArray, List.set_cons_zero, List.set_cons_succ]
        refine wpAnyH_take (i := 41) (oi := ⟨some 88, _, _, _, _, _⟩) (v := ?_) rfl (by kernel_rfl) (by kernel_rfl) (by kernel_rfl) (fun _ _ _ h => h) (Or.inl ⟨by rfl, ?_⟩) (by assumption) ?_
        rotate_left 1
        · (intro w9 hSw; (try dsimp only at hSw); go_simp; try with_reducible rfl)
        simp only [Act.put, List.setIfInBounds_toArray, List.set_cons_zero, List.set_cons_succ]
        refine wpAnyH_take (i := 42) (oi := ⟨some 89, _, _, _, _, _⟩) (v := ?_) rfl (by kernel_rfl) (by kernel_rfl) (by kernel_rfl) (fun _ _ _ h => h) (Or.inl ⟨by rfl, ?_⟩) (by assumption) ?_
        rotate_left 1
        · (intro w9 hSw; (try dsimp only at hSw); go_simp; try with_reducible rfl)
        simp only [Act.put, List.setIfInBounds_toArray, List.set_cons_zero, List.set_cons_succ]
        refine wpAnyH_ready (rs := [33]) (by kernel_rfl) (by simp) ?_
        refine AllReadyH.cons (o := ⟨some 80, _, _, _, _, _⟩) rfl (fun K hK => ?_) ?_
        rotate_left 1
        · exact AllReadyH.nil
        go_simp
        refine (byte_chk C7.out xa).mono ?_
        rintro e w8 ⟨rfl, hb8⟩
        have E8 := Lib.hid (E7.out.keep (hb8.block _ LT7.out))
        have C8 := Lib.hid (C7.out.on hb8)
        have T8 := Lib.hid (T7.out.on hb8)
        have LT8 := Lib.hid (Nat.lt_of_lt_of_le LT7.out hb8.size)
        have B8 := Lib.hid hb8
        clear hb8
        refine hK.out _ _ (s1_of E8.out T8.out) (fun hHeld => ?_)
        clear hK K
        try simp only [Act.put, List.setIfInBounds_toArray, List.set_cons_zero, List.set_cons_succ]
        refine wpAnyH_ready (rs := [43]) (by kernel_rfl) (by simp) ?_
        refine AllReadyH.cons (o := ⟨some 90, _, _, _, _, _⟩) rfl (fun K hK => ?_) ?_
        rotate_left 1
        · exact AllReadyH.nil
        go_simp
        refine (rbyte_any s5 xa _).mono ?_
        rintro e w9 ⟨rfl, rfl⟩
        refine hK.out _ _ (s1_of E8.out T8.out) (fun hHeld => ?_)
        clear hK K
        try simp only [Act.put, List.setIfInBounds_toArray, List.set_cons_zero, List.set_cons_succ]
        refine wpAnyH_take (i := 44) (oi := ⟨some 91, _, _, _, _, _⟩) (v := ?_) rfl (by kernel_rfl) (by kernel_rfl) (by kernel_rfl) (fun _ _ _ h => h) (Or.inl ⟨by rfl, ?_⟩) (by assumption) ?_
        rotate_left 1
        · (intro w9 hSw; (try dsimp only at hSw); go_simp; try with_reducible rfl)
        simp only [Act.put, List.setIfInBounds_toArray, List.set_cons_zero, List.set_cons_succ]
        refine wpAnyH_take (i := 45) (oi := ⟨some 92, _, _, _, _, _⟩) (v := ?_) rfl (by kernel_rfl) (by kernel_rfl) (by kernel_rfl) (fun _ _ _ h => h) (Or.inl ⟨by rfl, ?_⟩) (by assumption) ?_
        rotate_left 1
        · (intro w9 hSw; (try dsimp only at hSw); go_simp; try with_reducible rfl)
        simp only [Act.put, List.setIfInBounds_toArray, List.set_cons_zero, List.set_cons_succ]
        refine wpAnyH_done (by kernel_rfl) ?_ _
        go_wp2_with fail
        go_roundw
        case rel => exact ⟨k + 1, by omega, by go_num, ⟨s5, p5, C8.out, T8.out⟩, (((HE.out.past3 (w := wr.drew) X5.out (by have := L3.out; have := N2.out; omega) (by have := L3.out; have := N2.out; omega) (by have := L3.out; omega)).on B6.out).on B7.out).on B8.out, below_on (below_on (below_on (HB.out.drew.trans (X5.out.below (by have := HB.out.size; exact this) (by have := BL1.out; omega) (by have := BL1.out; omega) (by have := BLO.out; omega))) (Nat.le_refl _) B6.out) (Nat.le_refl _) B7.out) (Nat.le_refl _) B8.out⟩
        case measure => simp [intOf]; omega
      · have i2 : decide (k < l.length) = false := by simp; omega
        go_wp2_with fail
        refine (same_any HC.out HT.out).mono ?_
        rintro e w6 ⟨rfl, hb6⟩
        go_wp2_with fail
        go_ret
        exact ⟨rfl, below_on HB.out (Nat.le_refl _) hb6⟩
end Go.Proofs.Ytjciadimeejmjaa
