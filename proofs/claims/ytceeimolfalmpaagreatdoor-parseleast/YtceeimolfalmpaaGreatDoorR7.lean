/-
  What the page's own word answers at a sign that is a word by itself, and at a plain symbol. Conditions: the text has at most 100000 bytes; the place lies within it.
-/
import Derived.Test.YtceeimolfalmpaaGreatDoorR3
import Derived.Test.YtceeimolfalmpaaGreatDoorLD
namespace Go.Proofs.YtceeimolfalmpaaGreatDoor
open Go.RowKit ObUtf ObSets ObLex

/-- What the page's own word hands back. -/
def RetQ (i : Nat) (r : Res (T × Nat)) (w : World) (e : Ending) (w' : World) : Prop :=
  match r with
  | .error (er, a) => (∃ k b A m q x y N, e = .returned (.tuple #[tv k b (.slice A m q) x y, .int .i64 N, fv er (a : Int)])) ∧ Below w.heap.size w w' ∧ (er = 4 ∨ er = 5 ∨ er = 7)
  | .ok (t, j) => ∃ A k fa, e = .returned (.tuple #[tv t.kind (i : Int) (.slice A t.set.length k) t.mn t.mx, .int .i64 ((j : Int) - (i : Int)), fv 0 fa]) ∧ S.Ow w' w.heap.size (.slice A t.set.length k) t.set ∧ Below w.heap.size w w'
/-- The word's own cell. -/
abbrev wo (i : Nat) : Obj := .cells #[.int .i64 0, .int .i64 (i : Int), .slice none 0 0, .int .i64 0, .int .i64 0] 40
theorem wo_at (w : World) (i : Nat) : ((W0 w).alloc (wo i)).heap[w.heap.size + 2]? = some (wo i) := by
  have := heap_new (W0 w) (wo i)
  rw [w0_size] at this
  exact this
section
variable {s : ByteArray} {i : Nat} (w : World) (hi : i < s.size)
include hi
set_option maxHeartbeats 2000000 in
set_option maxRecDepth 100000 in
theorem rw_mark {b : Nat} {k m n : Int} (hb : bt s i = b) (hc : b = 41 ∧ k = 4 ∧ m = 0 ∧ n = 0 ∨ b = 124 ∧ k = 5 ∧ m = 0 ∧ n = 0 ∨ b = 94 ∧ k = 8 ∧ m = 0 ∧ n = 0 ∨ b = 36 ∧ k = 9 ∧ m = 0 ∧ n = 0 ∨ b = 42 ∧ k = 6 ∧ m = 0 ∧ n = -1 ∨ b = 43 ∧ k = 6 ∧ m = 1 ∧ n = -1 ∨ b = 63 ∧ k = 6 ∧ m = 0 ∧ n = 1) :
    Calls Tryz.prog 38 #[.string s, .int .i64 (i : Int)] w (RetQ i (.ok (⟨k, (i : Int), [], m, n⟩, i + 1)) w) := by
  have hg := U.bt_eq s i hi
  have hbx : ((s[i]'hi).toNat : Int) = (b : Int) := by omega
  have HB := Lib.hid ((w0_below w).alloc (by simp; omega) (wo i))
  obtain ⟨⟨t0, t1, t2, t3, t4⟩, f0, f1, f2, f3, f4⟩ := blk5 (keepL (w0_tok w) ((Below.refl _ (W0 w)).alloc (Nat.le_refl _) (wo i)))
  obtain ⟨q0, q1, q2, q3⟩ := blk2 (keepL (w0_fault w) ((Below.refl _ (W0 w)).alloc (Nat.le_refl _) (wo i)))
  clear hg hb
  rcases hc with ⟨rfl, rfl, rfl, rfl⟩ | ⟨rfl, rfl, rfl, rfl⟩ | ⟨rfl, rfl, rfl, rfl⟩ | ⟨rfl, rfl, rfl, rfl⟩ | ⟨rfl, rfl, rfl, rfl⟩ | ⟨rfl, rfl, rfl, rfl⟩ | ⟨rfl, rfl, rfl, rfl⟩
  all_goals (
    go_enter Tryz.func38, Tryz.ntmps38
    go_wp2_with fail
    refine bodyPost_ret (v := .tuple #[tv _ (i : Int) nls _ _, .int .i64 1, fv 0 0]) ?_ rfl ⟨none, 0, 0, by rw [show (((i + 1 : Nat) : Int) - (i : Int)) = 1 by omega]; rfl, S.Ow.nil _ _, ?_⟩
    · rw [results_ctc rfl]; go_simp
    · repeat' (first | with_reducible exact HB.out | with_reducible exact w0_below w | with_reducible exact Below.refl _ _ | with_reducible refine Below.drew ?_ | with_reducible refine Below.alloc ?_ ?_ _ | with_reducible refine Below.setCell ?_ ?_ _ | (simp; done) | (simp; omega)))
set_option maxHeartbeats 2000000 in
set_option maxRecDepth 100000 in
theorem rw_stray {b : Nat} (hb : bt s i = b) (hc : b = 93 ∨ b = 125) : Calls Tryz.prog 38 #[.string s, .int .i64 (i : Int)] w (RetQ i (.error (4, i)) w) := by
  have hg := U.bt_eq s i hi
  have hbx : ((s[i]'hi).toNat : Int) = (b : Int) := by omega
  have ba : Below (W0 w).heap.size (W0 w) ((W0 w).alloc (wo i)) := (Below.refl _ (W0 w)).alloc (Nat.le_refl _) (wo i)
  have HT := Lib.hid (keepL (w0_tok w) ba)
  have HF := Lib.hid (keepL (w0_fault w) ba)
  have HW := Lib.hid (wo_at w i)
  have HB := Lib.hid (bel_trans (w0_below w) ba)
  have s1 : w.heap.size < ((W0 w).alloc (wo i)).heap.size := lt_of_heap HT.out
  obtain ⟨⟨k0, k1, k2, k3, k4⟩, kf0, kf1, kf2, kf3, kf4⟩ := blk5 (wo_at w i)
  clear hg hb ba
  rcases hc with rfl | rfl
  all_goals (
    go_enter Tryz.func38, Tryz.ntmps38
    go_wp2_with fail
    go_region_with (go_at_call 69; refine (bad_any _ _ _).mono ?_; rintro e w1 ⟨rfl, hb1⟩; obtain ⟨⟨t0', t1', t2', t3', t4'⟩, f0', f1', f2', f3', f4'⟩ := blk5 (keepL HT.out (undrew hb1)); obtain ⟨q0', q1', q2', q3'⟩ := blk2 (keepL HF.out (undrew hb1)); obtain ⟨⟨k0', k1', k2', k3', k4'⟩, kf0', kf1', kf2', kf3', kf4'⟩ := blk5 (keepL HW.out (undrew hb1))))
  all_goals (
    have hbw := bel_trans HB.out (undrew hb1)
    go_wp2_with fail
    refine bodyPost_ret (v := .tuple #[tv 0 (i : Int) nls 0 0, .int .i64 0, fv 4 (i : Int)]) ?_ rfl ⟨⟨_, _, _, _, _, _, _, _, rfl⟩, ?_, .inl rfl⟩
    · rw [results_ctc rfl]; go_simp
    · repeat' (first | with_reducible exact HB.out | with_reducible exact w0_below w | with_reducible exact Below.refl _ _ | with_reducible exact hbw | with_reducible refine Below.drew ?_ | with_reducible refine Below.alloc ?_ ?_ _ | with_reducible refine Below.setCell ?_ ?_ _ | (simp; done) | (simp; omega)))
set_option maxHeartbeats 2000000 in
set_option maxRecDepth 100000 in
theorem rw_plain (hs : s.size ≤ 100000) (hn : bt s i ≠ 92 ∧ bt s i ≠ 91 ∧ bt s i ≠ 123 ∧ bt s i ≠ 93 ∧ bt s i ≠ 125 ∧ bt s i ≠ 46 ∧ bt s i ≠ 40 ∧ bt s i ≠ 41 ∧ bt s i ≠ 124 ∧ bt s i ≠ 94 ∧ bt s i ≠ 36 ∧ bt s i ≠ 42 ∧ bt s i ≠ 43 ∧ bt s i ≠ 63) : Calls Tryz.prog 38 #[.string s, .int .i64 (i : Int)] w (RetQ i (.ok (⟨1, (i : Int), [(sy s i, sy s i)], 0, 0⟩, i + wd s i)) w) := by
  have hg := U.bt_eq s i hi
  have ne : ∀ c : Nat, bt s i ≠ c → (((s[i]'hi).toNat : Int) == (c : Int)) = false := fun c h => beq_eq_false_iff_ne.2 (by omega)
  obtain ⟨h1, h2, h3, h4, h5, h6, h7, h8, h9, h10, h11, h12, h13, h14⟩ := hn
  have e1 := ne 92 h1; have e2 := ne 91 h2; have e3 := ne 123 h3; have e4 := ne 93 h4; have e5 := ne 125 h5; have e6 := ne 46 h6; have e7 := ne 40 h7; have e8 := ne 41 h8; have e9 := ne 124 h9; have e10 := ne 94 h10; have e11 := ne 36 h11; have e12 := ne 42 h12; have e13 := ne 43 h13; have e14 := ne 63 h14
  simp only [Int.cast_ofNat_Int] at e1 e2 e3 e4 e5 e6 e7 e8 e9 e10 e11 e12 e13 e14
  have ba : Below (W0 w).heap.size (W0 w) ((W0 w).alloc (wo i)) := (Below.refl _ (W0 w)).alloc (Nat.le_refl _) (wo i)
  have HT := Lib.hid (keepL (w0_tok w) ba)
  have HF := Lib.hid (keepL (w0_fault w) ba)
  have HW := Lib.hid (wo_at w i)
  have HB := Lib.hid (bel_trans (w0_below w) ba)
  have HA := Lib.hid (rat_nat s i ((W0 w).alloc (wo i)) hs)
  have HZ := Lib.hid (show ((W0 w).alloc (wo i)).heap.size = w.heap.size + 3 by simp)
  clear ne h1 h2 h3 h4 h5 h6 h7 h8 h9 h10 h11 h12 h13 h14 hg ba
  generalize sy s i = x at *
  generalize wd s i = d at *
  go_enter Tryz.func38, Tryz.ntmps38
  go_wp2_with fail
  refine HA.out.mono ?_
  rintro e w1 ⟨rfl, hb1⟩
  go_wp2_with fail
  refine (rone_any x w1).mono ?_
  intro e w2 hr2
  obtain ⟨g, k, rfl, ho2, hb2⟩ := RetR.some_ hr2 (by simp)
  have hb := bel_trans hb1 hb2
  obtain ⟨⟨t0', t1', t2', t3', t4'⟩, f0', f1', f2', f3', f4'⟩ := blk5 (keepL HT.out hb)
  obtain ⟨q0', q1', q2', q3'⟩ := blk2 (keepL HF.out hb)
  obtain ⟨⟨k0', k1', k2', k3', k4'⟩, kf0', kf1', kf2', kf3', kf4'⟩ := blk5 (keepL HW.out hb)
  have hbw := bel_trans HB.out hb
  have z1 := hb1.size
  rw [HZ.out] at z1
  go_wp2_with fail
  refine bodyPost_ret (v := .tuple #[tv 1 (i : Int) (.slice (some ⟨g, 0, none⟩) 1 k) 0 0, .int .i64 (d : Int), fv 0 0]) ?_ rfl ⟨_, _, 0, by rw [show (((i + d : Nat) : Int) - (i : Int)) = (d : Int) by omega]; rfl, ?_, ?_⟩
  · rw [results_ctc rfl]; go_simp
  · refine S.Ow.less ?_ (show w.heap.size ≤ w1.heap.size by omega)
    repeat' (first | with_reducible exact ho2 | refine S.Ow.set ?_ (by omega) _ _)
  · repeat' (first | with_reducible exact HB.out | with_reducible exact w0_below w | with_reducible exact Below.refl _ _ | with_reducible exact hbw | with_reducible refine Below.drew ?_ | with_reducible refine Below.alloc ?_ ?_ _ | with_reducible refine Below.setCell ?_ ?_ _ | (simp; done) | (simp; omega))
end
end Go.Proofs.YtceeimolfalmpaaGreatDoor
