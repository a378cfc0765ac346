/-
  What the page's own word answers at . ( { [ and 92. Conditions: the text has at most 100000 bytes; the place lies within it.
  What the page's own word answers at [ and at 92. Conditions: the text has at most 100000 bytes; the place lies within it.
-/
import Derived.Test.YtceeimolfalmpaaGreatDoorR7
import Derived.Test.YtceeimolfalmpaaGreatDoorR4
import Derived.Test.YtceeimolfalmpaaGreatDoorRB
import Derived.Test.YtceeimolfalmpaaGreatDoorLG
import Derived.Test.YtceeimolfalmpaaGreatDoorL7
namespace Go.Proofs.YtceeimolfalmpaaGreatDoor
open Go.RowKit ObUtf ObSets ObLex
section
variable {s : ByteArray} {i : Nat} (w : World) (hs : s.size ≤ 100000) (hi : i < s.size)
include hs hi
set_option maxHeartbeats 2000000 in
set_option maxRecDepth 100000 in
theorem rw_dot (hb : bt s i = 46) : Calls Tryz.prog 38 #[.string s, .int .i64 (i : Int)] w (RetQ i (.ok (⟨1, (i : Int), notL [(10, 10)], 0, 0⟩, i + 1)) w) := by
  have hg := U.bt_eq s i hi
  have hs' := hs
  have hbx : ((s[i]'hi).toNat : Int) = 46 := by omega
  have ba : Below (W0 w).heap.size (W0 w) ((W0 w).alloc (wo i)) := (Below.refl _ (W0 w)).alloc (Nat.le_refl _) (wo i)
  have HT := Lib.hid (keepL (w0_tok w) ba)
  have HF := Lib.hid (keepL (w0_fault w) ba)
  have HW := Lib.hid (wo_at w i)
  have HB := Lib.hid (bel_trans (w0_below w) ba)
  have HZ := Lib.hid (show ((W0 w).alloc (wo i)).heap.size = w.heap.size + 3 by simp)
  have HNN := Lib.hid (fun (A : Option Addr) (k : Nat) (W : World) (h : S.Rgs W W.heap.size A [(10, 10)]) => S.rnot_any A k [(10, 10)] W h (by simp))
  obtain ⟨m, hm⟩ : ∃ m, m = notL [(10, 10)] := ⟨_, rfl⟩
  rw [← hm] at HNN ⊢
  clear hm
  clear hg hb ba
  go_enter Tryz.func38, Tryz.ntmps38
  go_wp2_with fail
  refine (rone_any 10 _).mono ?_
  intro e w2 hr2
  obtain ⟨A, k, rfl, _, hrg, hb2⟩ := RetR.shape hr2
  go_wp2_with fail
  refine (HNN.out _ _ _ hrg).mono ?_
  intro e w3 hr3
  obtain ⟨A3, k3, rfl, ho3, _, hb3⟩ := RetR.shape hr3
  have hb := bel_trans hb2 hb3
  obtain ⟨⟨t0', t1', t2', t3', t4'⟩, f0', f1', f2', f3', f4'⟩ := blk5 (keepL HT.out hb)
  obtain ⟨q0', q1', q2', q3'⟩ := blk2 (keepL HF.out hb)
  obtain ⟨⟨k0', k1', k2', k3', k4'⟩, kf0', kf1', kf2', kf3', kf4'⟩ := blk5 (keepL HW.out hb)
  have hbw := bel_trans HB.out hb
  have z1 := hb2.size
  rw [HZ.out] at z1
  clear hr2 hr3 hrg
  generalize hmn : m.length = n at *
  go_wp2_with fail
  refine bodyPost_ret (v := .tuple #[tv 1 (i : Int) (.slice A3 n k3) 0 0, .int .i64 1, fv 0 0]) ?_ rfl ⟨A3, k3, 0, by rw [hmn, show (((i + 1 : Nat) : Int) - (i : Int)) = 1 by omega], ?_, ?_⟩
  · rw [results_ctc rfl]; go_simp
  · dsimp only
    rw [hmn]
    refine S.Ow.less ?_ (show w.heap.size ≤ w2.heap.size by omega)
    repeat' (first | with_reducible exact ho3 | refine S.Ow.set ?_ (by omega) _ _)
  · repeat' (first | with_reducible exact HB.out | with_reducible exact w0_below w | with_reducible exact Below.refl _ _ | with_reducible exact hbw | with_reducible refine Below.drew ?_ | with_reducible refine Below.alloc ?_ ?_ _ | with_reducible refine Below.setCell ?_ ?_ _ | (simp; done) | (simp; omega))
set_option maxHeartbeats 2000000 in
set_option maxRecDepth 100000 in
theorem rw_plaingroup (hb : bt s i = 40) (hp : (bt s (i + 1) = 63 ∧ bt s (i + 2) = 58)) : Calls Tryz.prog 38 #[.string s, .int .i64 (i : Int)] w (RetQ i (.ok (⟨3, (i : Int), [], 0, 0⟩, i + 3)) w) := by
  have hg := U.bt_eq s i hi
  have hs' := hs
  have hbx : ((s[i]'hi).toNat : Int) = 40 := by omega
  have ba : Below (W0 w).heap.size (W0 w) ((W0 w).alloc (wo i)) := (Below.refl _ (W0 w)).alloc (Nat.le_refl _) (wo i)
  have HT := Lib.hid (keepL (w0_tok w) ba)
  have HF := Lib.hid (keepL (w0_fault w) ba)
  have HW := Lib.hid (wo_at w i)
  have HB := Lib.hid (bel_trans (w0_below w) ba)
  have HZ := Lib.hid (show ((W0 w).alloc (wo i)).heap.size = w.heap.size + 3 by simp)
  obtain ⟨b1, hb1⟩ : ∃ b, b = decide (bt s (i + 1) = 63) := ⟨_, rfl⟩
  obtain ⟨b2, hb2⟩ : ∃ b, b = decide (bt s (i + 2) = 58) := ⟨_, rfl⟩
  have H1 := Lib.hid (is_at (s := s) (i := i + 1) (c := 63) hb1 (by omega) (show ((i + 1 : Nat) : Int) = (i : Int) + 1 by omega))
  have H2 := Lib.hid (is_at (s := s) (i := i + 2) (c := 58) hb2 (by omega) (show ((i + 2 : Nat) : Int) = (i : Int) + 2 by omega))
  obtain ⟨⟨t0, t1, t2, t3, t4⟩, f0, f1, f2, f3, f4⟩ := blk5 HT.out
  obtain ⟨q0, q1, q2, q3⟩ := blk2 HF.out
  obtain rfl : b1 = true := by rw [hb1]; exact decide_eq_true hp.1
  obtain rfl : b2 = true := by rw [hb2]; exact decide_eq_true hp.2
  clear hb1 hb2 hp hg hb ba
  go_enter Tryz.func38, Tryz.ntmps38
  go_wp2_with fail
  refine (H1.out _).mono ?_
  rintro e w' ⟨rfl, rfl⟩
  go_wp2_with fail
  refine (H2.out _).mono ?_
  rintro e w' ⟨rfl, rfl⟩
  go_wp2_with fail
  refine bodyPost_ret (v := .tuple #[tv 3 (i : Int) nls 0 0, .int .i64 3, fv 0 0]) ?_ rfl ⟨none, 0, 0, by rw [show (((i + 3 : Nat) : Int) - (i : Int)) = 3 by omega]; rfl, S.Ow.nil _ _, ?_⟩
  · rw [results_ctc rfl]; go_simp
  · repeat' (first | with_reducible exact HB.out | with_reducible exact w0_below w | with_reducible exact Below.refl _ _ | with_reducible refine Below.drew ?_ | with_reducible refine Below.alloc ?_ ?_ _ | with_reducible refine Below.setCell ?_ ?_ _ | (simp; done) | (simp; omega))
set_option maxHeartbeats 2000000 in
set_option maxRecDepth 100000 in
theorem rw_group (hb : bt s i = 40) (hp : ¬ (bt s (i + 1) = 63 ∧ bt s (i + 2) = 58)) : Calls Tryz.prog 38 #[.string s, .int .i64 (i : Int)] w (RetQ i (.ok (⟨2, (i : Int), [], 0, 0⟩, i + 1)) w) := by
  have hg := U.bt_eq s i hi
  have hs' := hs
  have hbx : ((s[i]'hi).toNat : Int) = 40 := by omega
  have ba : Below (W0 w).heap.size (W0 w) ((W0 w).alloc (wo i)) := (Below.refl _ (W0 w)).alloc (Nat.le_refl _) (wo i)
  have HT := Lib.hid (keepL (w0_tok w) ba)
  have HF := Lib.hid (keepL (w0_fault w) ba)
  have HW := Lib.hid (wo_at w i)
  have HB := Lib.hid (bel_trans (w0_below w) ba)
  have HZ := Lib.hid (show ((W0 w).alloc (wo i)).heap.size = w.heap.size + 3 by simp)
  obtain ⟨b1, hb1⟩ : ∃ b, b = decide (bt s (i + 1) = 63) := ⟨_, rfl⟩
  obtain ⟨b2, hb2⟩ : ∃ b, b = decide (bt s (i + 2) = 58) := ⟨_, rfl⟩
  have H1 := Lib.hid (is_at (s := s) (i := i + 1) (c := 63) hb1 (by omega) (show ((i + 1 : Nat) : Int) = (i : Int) + 1 by omega))
  have H2 := Lib.hid (is_at (s := s) (i := i + 2) (c := 58) hb2 (by omega) (show ((i + 2 : Nat) : Int) = (i : Int) + 2 by omega))
  obtain ⟨⟨t0, t1, t2, t3, t4⟩, f0, f1, f2, f3, f4⟩ := blk5 HT.out
  obtain ⟨q0, q1, q2, q3⟩ := blk2 HF.out
  have hcs : b1 = false ∨ (b1 = true ∧ b2 = false) := by
    by_cases h : bt s (i + 1) = 63
    · right; exact ⟨by rw [hb1]; exact decide_eq_true h, by rw [hb2]; exact decide_eq_false (fun e => hp ⟨h, e⟩)⟩
    · left; rw [hb1]; exact decide_eq_false h
  clear hb1 hb2 hp hg hb ba
  rcases hcs with rfl | ⟨rfl, rfl⟩
  · go_enter Tryz.func38, Tryz.ntmps38
    go_wp2_with fail
    refine (H1.out _).mono ?_
    rintro e w' ⟨rfl, rfl⟩
    go_wp2_with fail
    refine bodyPost_ret (v := .tuple #[tv 2 (i : Int) nls 0 0, .int .i64 1, fv 0 0]) ?_ rfl ⟨none, 0, 0, by rw [show (((i + 1 : Nat) : Int) - (i : Int)) = 1 by omega]; rfl, S.Ow.nil _ _, ?_⟩
    · rw [results_ctc rfl]; go_simp
    · repeat' (first | with_reducible exact HB.out | with_reducible exact w0_below w | with_reducible exact Below.refl _ _ | with_reducible refine Below.drew ?_ | with_reducible refine Below.alloc ?_ ?_ _ | with_reducible refine Below.setCell ?_ ?_ _ | (simp; done) | (simp; omega))
  · go_enter Tryz.func38, Tryz.ntmps38
    go_wp2_with fail
    refine (H1.out _).mono ?_
    rintro e w' ⟨rfl, rfl⟩
    go_wp2_with fail
    refine (H2.out _).mono ?_
    rintro e w' ⟨rfl, rfl⟩
    go_wp2_with fail
    refine bodyPost_ret (v := .tuple #[tv 2 (i : Int) nls 0 0, .int .i64 1, fv 0 0]) ?_ rfl ⟨none, 0, 0, by rw [show (((i + 1 : Nat) : Int) - (i : Int)) = 1 by omega]; rfl, S.Ow.nil _ _, ?_⟩
    · rw [results_ctc rfl]; go_simp
    · repeat' (first | with_reducible exact HB.out | with_reducible exact w0_below w | with_reducible exact Below.refl _ _ | with_reducible refine Below.drew ?_ | with_reducible refine Below.alloc ?_ ?_ _ | with_reducible refine Below.setCell ?_ ?_ _ | (simp; done) | (simp; omega))
set_option maxHeartbeats 2000000 in
set_option maxRecDepth 100000 in
theorem rw_braces (hb : bt s i = 123) {r : Res (Int × Int × Int × Nat)} (hr : braces s i = r) : Calls Tryz.prog 38 #[.string s, .int .i64 (i : Int)] w (RetQ i (brW i r) w) := by
  have hg := U.bt_eq s i hi
  have hs' := hs
  have hbx : ((s[i]'hi).toNat : Int) = 123 := by omega
  have ba : Below (W0 w).heap.size (W0 w) ((W0 w).alloc (wo i)) := (Below.refl _ (W0 w)).alloc (Nat.le_refl _) (wo i)
  have HT := Lib.hid (keepL (w0_tok w) ba)
  have HF := Lib.hid (keepL (w0_fault w) ba)
  have HW := Lib.hid (wo_at w i)
  have HB := Lib.hid (bel_trans (w0_below w) ba)
  have HZ := Lib.hid (show ((W0 w).alloc (wo i)).heap.size = w.heap.size + 3 by simp)
  have HBR := Lib.hid (rbraces_any ((W0 w).alloc (wo i)) hs hi)
  rw [hr] at HBR
  clear hr
  rcases r with ⟨er, a⟩ | ⟨k, x, y, j⟩
  · clear hg hb ba
    go_enter Tryz.func38, Tryz.ntmps38
    go_wp2_with fail
    refine HBR.out.mono ?_
    rintro e w1 ⟨rfl, hb, hee⟩
    obtain ⟨⟨t0', t1', t2', t3', t4'⟩, f0', f1', f2', f3', f4'⟩ := blk5 (keepL HT.out hb)
    obtain ⟨q0', q1', q2', q3'⟩ := blk2 (keepL HF.out hb)
    obtain ⟨⟨k0', k1', k2', k3', k4'⟩, kf0', kf1', kf2', kf3', kf4'⟩ := blk5 (keepL HW.out hb)
    have hbw := bel_trans HB.out hb
    go_wp2_with fail
    refine bodyPost_ret (v := .tuple #[tv 0 0 nls 0 0, .int .i64 0, fv er (a : Int)]) ?_ rfl ⟨⟨_, _, _, _, _, _, _, _, rfl⟩, ?_, hee⟩
    · rw [results_ctc rfl]; go_simp
    · repeat' (first | with_reducible exact HB.out | with_reducible exact w0_below w | with_reducible exact Below.refl _ _ | with_reducible exact hbw | with_reducible refine Below.drew ?_ | with_reducible refine Below.alloc ?_ ?_ _ | with_reducible refine Below.setCell ?_ ?_ _ | (simp; done) | (simp; omega))
  · clear hg hb ba
    go_enter Tryz.func38, Tryz.ntmps38
    go_wp2_with fail
    refine HBR.out.mono ?_
    rintro e w1 ⟨rfl, hb⟩
    obtain ⟨⟨t0', t1', t2', t3', t4'⟩, f0', f1', f2', f3', f4'⟩ := blk5 (keepL HT.out hb)
    obtain ⟨q0', q1', q2', q3'⟩ := blk2 (keepL HF.out hb)
    obtain ⟨⟨k0', k1', k2', k3', k4'⟩, kf0', kf1', kf2', kf3', kf4'⟩ := blk5 (keepL HW.out hb)
    have hbw := bel_trans HB.out hb
    go_wp2_with fail
    refine bodyPost_ret (v := .tuple #[tv k (i : Int) nls x y, .int .i64 ((j : Int) - (i : Int)), fv 0 0]) ?_ rfl ⟨none, 0, 0, rfl, S.Ow.nil _ _, ?_⟩
    · rw [results_ctc rfl]; go_simp
    · repeat' (first | with_reducible exact HB.out | with_reducible exact w0_below w | with_reducible exact Below.refl _ _ | with_reducible exact hbw | with_reducible refine Below.drew ?_ | with_reducible refine Below.alloc ?_ ?_ _ | with_reducible refine Below.setCell ?_ ?_ _ | (simp; done) | (simp; omega))
end
end Go.Proofs.YtceeimolfalmpaaGreatDoor

namespace Go.Proofs.YtceeimolfalmpaaGreatDoor
open Go.RowKit ObUtf ObSets ObLex
/-- A class's word; an escape's. -/
def clsQ (i : Nat) : Res (List R × Nat) → Res (T × Nat)
  | .error f => .error f
  | .ok (l, j) => .ok (⟨1, (i : Int), l, 0, 0⟩, j)
def escQ (i : Nat) : Esc → Res (T × Nat)
  | .bad e => .error (e, i)
  | .one x n => .ok (⟨1, (i : Int), [(x, x)], 0, 0⟩, i + n)
  | .many l => .ok (⟨1, (i : Int), l, 0, 0⟩, i + 2)
section
variable {s : ByteArray} {i : Nat} (w : World) (hs : s.size ≤ 100000) (hi : i < s.size)
include hs hi
set_option maxHeartbeats 2000000 in
set_option maxRecDepth 100000 in
theorem rw_class (hb : bt s i = 91) {r : Res (List R × Nat)} (hr : cls s i = r) {rr : Res (T × Nat)} (hrr : rr = clsQ i r) : Calls Tryz.prog 38 #[.string s, .int .i64 (i : Int)] w (RetQ i rr w) := by
  have hg := U.bt_eq s i hi
  have hs' := hs
  have hbx : ((s[i]'hi).toNat : Int) = 91 := by omega
  have ba : Below (W0 w).heap.size (W0 w) ((W0 w).alloc (wo i)) := (Below.refl _ (W0 w)).alloc (Nat.le_refl _) (wo i)
  have HT := Lib.hid (keepL (w0_tok w) ba)
  have HF := Lib.hid (keepL (w0_fault w) ba)
  have HW := Lib.hid (wo_at w i)
  have HB := Lib.hid (bel_trans (w0_below w) ba)
  have HZ := Lib.hid (show ((W0 w).alloc (wo i)).heap.size = w.heap.size + 3 by simp)
  have HC := Lib.hid (rclass_any ((W0 w).alloc (wo i)) hs hi)
  rw [hr] at HC
  clear hr
  rcases r with ⟨er, a⟩ | ⟨l, j⟩
  · simp only [clsQ] at hrr
    subst hrr
    clear hg hb ba
    go_enter Tryz.func38, Tryz.ntmps38
    go_wp2_with fail
    refine HC.out.mono ?_
    rintro e w1 ⟨rfl, hb, hee⟩
    obtain ⟨⟨t0', t1', t2', t3', t4'⟩, f0', f1', f2', f3', f4'⟩ := blk5 (keepL HT.out hb)
    obtain ⟨q0', q1', q2', q3'⟩ := blk2 (keepL HF.out hb)
    obtain ⟨⟨k0', k1', k2', k3', k4'⟩, kf0', kf1', kf2', kf3', kf4'⟩ := blk5 (keepL HW.out hb)
    have hbw := bel_trans HB.out hb
    have z1 := hb.size
    rw [HZ.out] at z1
    have z2 : w.heap.size < w1.heap.size := by omega
    have z3 : w.heap.size + 1 < w1.heap.size := by omega
    have z4 : w.heap.size + 2 < w1.heap.size := by omega
    go_wp2_with fail
    go_region
    all_goals (
      go_wp2_with fail
      refine bodyPost_ret (v := .tuple #[tv 1 (i : Int) nls 0 0, .int .i64 0, fv er (a : Int)]) ?_ rfl ⟨⟨_, _, _, _, _, _, _, _, rfl⟩, ?_, by omega⟩
      · rw [results_ctc rfl]; go_simp
      · repeat' (first | with_reducible exact hbw | with_reducible refine Below.drew ?_ | with_reducible refine Below.alloc ?_ ?_ _ | with_reducible refine Below.setCell ?_ ?_ _ | (simp; done) | (simp; omega)))
  · simp only [clsQ] at hrr
    subst hrr
    clear hg hb ba
    go_enter Tryz.func38, Tryz.ntmps38
    go_wp2_with fail
    refine HC.out.mono ?_
    rintro e w1 ⟨A, k, rfl, ho, hb⟩
    obtain ⟨⟨t0', t1', t2', t3', t4'⟩, f0', f1', f2', f3', f4'⟩ := blk5 (keepL HT.out hb)
    obtain ⟨q0', q1', q2', q3'⟩ := blk2 (keepL HF.out hb)
    obtain ⟨⟨k0', k1', k2', k3', k4'⟩, kf0', kf1', kf2', kf3', kf4'⟩ := blk5 (keepL HW.out hb)
    have hbw := bel_trans HB.out hb
    have z1 := hb.size
    rw [HZ.out] at z1
    have z2 : w.heap.size < w1.heap.size := by omega
    have z3 : w.heap.size + 1 < w1.heap.size := by omega
    have z4 : w.heap.size + 2 < w1.heap.size := by omega
    have ho3 : S.Ow w1 (w.heap.size + 3) (.slice A l.length k) l := by rw [← HZ.out]; exact ho
    clear ho
    generalize hn : l.length = n at *
    go_wp2_with fail
    go_region
    all_goals (
      go_wp2_with fail
      refine bodyPost_ret (v := .tuple #[tv 1 (i : Int) (.slice A n k) 0 0, .int .i64 ((j : Int) - (i : Int)), fv 0 0]) ?_ rfl ⟨A, k, 0, by rw [hn], ?_, ?_⟩
      · rw [results_ctc rfl]; go_simp
      · dsimp only
        rw [hn]
        refine S.Ow.less ?_ (show w.heap.size ≤ w.heap.size + 3 by omega)
        repeat' (first | with_reducible exact ho3 | with_reducible refine S.Ow.drew ?_ | with_reducible refine S.Ow.new ?_ _ | refine S.Ow.set ?_ (by omega) _ _)
      · repeat' (first | with_reducible exact hbw | with_reducible refine Below.drew ?_ | with_reducible refine Below.alloc ?_ ?_ _ | with_reducible refine Below.setCell ?_ ?_ _ | (simp; done) | (simp; omega)))
end
end Go.Proofs.YtceeimolfalmpaaGreatDoor
