/-
  The order in which the program's groups are sorted (the closure of numbered, cmp.Or). Conditions: the numbers are places of a row.
-/
import Derived.Test.YtceeimolfalmpaaVG
import Derived.Test.YtceeimolfalmpaaShelf
namespace Go.Proofs.Ytceeimolfalmpaa
open Go.RowKit ObSets ObTree Go.Shelf Go.Lib
open Go.Sort (SWO grow grow_grow alloc_eq_grow heap_grow_old PermIn SortedIn Holds)

set_option maxHeartbeats 1000000 in
theorem or_any (v : Value) (a b : Int) (w : World) (h : IntsAt w v [a, b]) : Calls Try.prog 64 #[v] w fun e w' => e = .returned (.int .i64 (if a ≠ 0 then a else b)) ∧ w' = w := by
  obtain ⟨A, c, rfl, hc⟩ := h
  obtain ⟨g, o, rfl, _, c0⟩ := hc 0 a rfl
  obtain ⟨g', o', e, _, c1⟩ := hc 1 b rfl
  injection e with e
  injection e with e1 e2
  subst e1 e2
  clear hc
  simp only [Nat.add_zero] at c0
  have c0' : w.cell? ⟨g, o + 0, none⟩ = some (.int .i64 a) := c0
  by_cases ha : a = 0
  · subst ha
    rw [if_neg (by simp)]
    by_cases hb : b = 0
    · subst hb
      go_enter Try.func64, Try.ntmps64
      go_wp2_with fail
      go_loopw [8] (fun tj wr => ∃ j : Nat, tj = .int .i64 (j : Int) ∧ j ≤ 2 ∧ wr = w) (fun tj _ => 2 - (intOf tj).toNat)
      case atStart => exact ⟨0, rfl, by omega, rfl⟩
      case round =>
        obtain ⟨j, rfl, hj, rfl⟩ := hrel
        rcases (show j = 0 ∨ j = 1 ∨ j = 2 by omega) with rfl | rfl | rfl
        · go_wp2_with fail
          go_roundw
          case rel => exact ⟨1, rfl, by omega, trivial⟩
          case measure => simp [intOf]
        · go_wp2_with fail
          go_roundw
          case rel => exact ⟨2, rfl, by omega, trivial⟩
          case measure => simp [intOf]
        · go_wp2_with fail
          go_ret
          exact ⟨rfl, rfl⟩
    · have e1 : (b != 0) = true := by rw [bne_iff_ne]; exact hb
      go_enter Try.func64, Try.ntmps64
      go_wp2_with fail
      go_loopw [8] (fun tj wr => ∃ j : Nat, tj = .int .i64 (j : Int) ∧ j ≤ 1 ∧ wr = w) (fun tj _ => 2 - (intOf tj).toNat)
      case atStart => exact ⟨0, rfl, by omega, rfl⟩
      case round =>
        obtain ⟨j, rfl, hj, rfl⟩ := hrel
        rcases (show j = 0 ∨ j = 1 by omega) with rfl | rfl
        · go_wp2_with fail
          go_roundw
          case rel => exact ⟨1, rfl, by omega, trivial⟩
          case measure => simp [intOf]
        · go_wp2_with fail
          go_ret
          exact ⟨rfl, rfl⟩
  · have e1 : (a != 0) = true := by rw [bne_iff_ne]; exact ha
    rw [if_pos ha]
    go_enter Try.func64, Try.ntmps64
    go_wp2_with fail
    go_loopw [8] (fun tj wr => tj = .int .i64 0 ∧ wr = w) (fun tj _ => 0)
    case atStart => exact ⟨rfl, rfl⟩
    case round =>
      obtain ⟨rfl, rfl⟩ := hrel
      go_wp2_with fail
      go_ret
      exact ⟨rfl, rfl⟩
/-- What is handed back in a world that has grown and drawn alone. -/
def Gr (W W' : World) : Prop := ∃ q os, W' = grow (W.drewN q) os
theorem Gr.refl (W : World) : Gr W W := ⟨0, #[], by simp [Sort.grow]; rfl⟩
theorem Gr.drew {W V : World} (h : Gr W V) : Gr W V.drew := by obtain ⟨q, os, rfl⟩ := h; exact ⟨q + 1, os, rfl⟩
theorem Gr.alloc {W V : World} (h : Gr W V) (o : Obj) : Gr W (V.alloc o) := by obtain ⟨q, os, rfl⟩ := h; exact ⟨q, os ++ #[o], by rw [alloc_eq_grow, grow_grow]⟩
theorem Gr.block {W V : World} (h : Gr W V) {k : Nat} (hk : k < W.heap.size) : V.heap[k]? = W.heap[k]? := by
  obtain ⟨q, os, rfl⟩ := h
  exact heap_grow_old (W.drewN q) os hk
theorem Gr.cell {W V : World} (h : Gr W V) {p : Addr} (hk : p.block < W.heap.size) : V.cell? p = W.cell? p := by
  simp only [World.cell?, h.block hk]
theorem Gr.size {W V : World} (h : Gr W V) : W.heap.size ≤ V.heap.size := by obtain ⟨q, os, rfl⟩ := h; simp [Sort.grow, World.drewN]
theorem Gr.of {A : Prop} {W V : World} (h : A ∧ Gr W V) : Gr W V := h.2
def cfV (fs : List Int) (x y : Nat) : Int := if compareInt (fs[x]?.getD 0) (fs[y]?.getD 0) ≠ 0 then compareInt (fs[x]?.getD 0) (fs[y]?.getD 0) else compareInt (y : Int) (x : Int)
set_option maxHeartbeats 2000000 in
set_option maxRecDepth 100000 in
theorem closure_any (fs : List Int) (n c fb gF : Nat) (hl : fs.length = n) (W : World) (hbox : W.cell? ⟨fb, 0, none⟩ = some (.slice (some ⟨gF, 0, none⟩) n c)) (hfb : fb < W.heap.size) (hgF : gF < W.heap.size)
    (hc : ∀ (j : Nat) z, fs[j]? = some z → W.cell? ⟨gF, j, none⟩ = some (.int .i64 z)) (x y : Nat) (hx : x < n) (hy : y < n) :
    Calls Try.prog 63 #[.int .i64 (x : Int), .int .i64 (y : Int), .pointer (some ⟨fb, 0, none⟩)] W fun e w' => e = .returned (.int .i64 (cfV fs x y)) ∧ ∃ q os', w' = grow (W.drewN q) os' := by
  obtain ⟨a, ha⟩ : ∃ a, fs[x]? = some a := ⟨_, List.getElem?_eq_getElem (by omega)⟩
  obtain ⟨b, hb⟩ : ∃ b, fs[y]? = some b := ⟨_, List.getElem?_eq_getElem (by omega)⟩
  have e1 := hc x a ha
  have e2 := hc y b hb
  have hcf : cfV fs x y = if compareInt a b ≠ 0 then compareInt a b else compareInt (y : Int) (x : Int) := by unfold cfV; rw [ha, hb]; rfl
  rw [hcf]
  have hC1 := Lib.hid (fun V => Try.cmp_Compare_int a b V)
  have hC2 := Lib.hid (fun V => Try.cmp_Compare_int (y : Int) (x : Int) V)
  generalize compareInt a b = p at *
  generalize compareInt (y : Int) (x : Int) = r at *
  obtain ⟨q, hq⟩ : ∃ q, (if p ≠ 0 then p else r) = q := ⟨_, rfl⟩
  have hx' : (x : Int) < (n : Int) := by omega
  have hy' : (y : Int) < (n : Int) := by omega
  have G0 := Gr.refl W
  have HF := Lib.hid (show ∀ V, Gr W V → (V.cell? ⟨fb, 0, none⟩ = some (.slice (some ⟨gF, 0, none⟩) n c) ∧ V.cell? ⟨gF, x, none⟩ = some (.int .i64 a) ∧ V.cell? ⟨gF, y, none⟩ = some (.int .i64 b)) from fun V h => ⟨(h.cell (p := ⟨fb, 0, none⟩) hfb).trans hbox, (h.cell (p := ⟨gF, x, none⟩) hgF).trans e1, (h.cell (p := ⟨gF, y, none⟩) hgF).trans e2⟩)
  clear hc ha hb hl hcf
  rw [hq]
  go_enter Try.func63, Try.ntmps63
  go_wp2_with fail
  have HS := Lib.hid (show ∀ V, Gr W V → ((V.cell? ⟨fb, 0, none⟩ = some (.slice (some ⟨gF, 0, none⟩) n c) ∧ V.cell? ⟨gF, x, none⟩ = some (.int .i64 a) ∧ V.cell? ⟨gF, y, none⟩ = some (.int .i64 b)) ∧ Gr W V) from fun V h => ⟨HF.out V h, h⟩)
  have HROW := Lib.hid (show IntsAt (W.alloc (.cells #[.int .i64 p, .int .i64 r] 3)).drew (.slice (some ⟨W.heap.size, 0, none⟩) 2 2) [p, r] from (IntsAt.own (zs := [p, r]) (row2 (B := W.heap.size) rfl (Nat.le_refl _) p r)).below (Below.refl _ _).drew)
  have HOR := Lib.hid (or_any _ p r _ HROW.out)
  rw [hq] at HOR
  go_region_held3 (fun V => (V.cell? ⟨fb, 0, none⟩ = some (.slice (some ⟨gF, 0, none⟩) n c) ∧ V.cell? ⟨gF, x, none⟩ = some (.int .i64 a) ∧ V.cell? ⟨gF, y, none⟩ = some (.int .i64 b)) ∧ Gr W V) (first | exact HS.out _ (Gr.refl W).drew | exact HS.out _ ((Gr.refl W).alloc _).drew | fail) (first | (go_at_call 65; (with_reducible refine (hC1.out _).mono ?_); rintro e w' ⟨rfl, rfl⟩) | (go_at_call 65; (with_reducible refine (hC2.out _).mono ?_); rintro e w' ⟨rfl, rfl⟩) | (go_at_call 64; refine HOR.out.mono ?_; rintro e w' ⟨rfl, rfl⟩) | fail)
  go_wp2_with fail
  go_ret
  exact ⟨rfl, Gr.of (by assumption)⟩
end Go.Proofs.Ytceeimolfalmpaa
