/-
  What the page's own word answers at a 92. Conditions: the text has at most 100000 bytes; the place lies within it.
  What the page's own word answers, in one. Conditions: the text has at most 100000 bytes; the place lies within it.
-/
import Derived.Test.YtceeimolfalmpaaGreatDoorRD
namespace Go.Proofs.YtceeimolfalmpaaGreatDoor
open Go.RowKit ObUtf ObSets ObLex
section
variable {s : ByteArray} {i : Nat} (w : World) (hs : s.size ≤ 100000) (hi : i < s.size)
include hs hi
set_option maxHeartbeats 2000000 in
set_option maxRecDepth 100000 in
theorem rw_escape (hb : bt s i = 92) : Calls Tryz.prog 38 #[.string s, .int .i64 (i : Int)] w (RetQ i (escQ i (esc s i)) w) := by
  have hg := U.bt_eq s i hi
  have hs' := hs
  have hbx : ((s[i]'hi).toNat : Int) = 92 := by omega
  have ba : Below (W0 w).heap.size (W0 w) ((W0 w).alloc (wo i)) := (Below.refl _ (W0 w)).alloc (Nat.le_refl _) (wo i)
  have HT := Lib.hid (keepL (w0_tok w) ba)
  have HF := Lib.hid (keepL (w0_fault w) ba)
  have HW := Lib.hid (wo_at w i)
  have HB := Lib.hid (bel_trans (w0_below w) ba)
  have HZ := Lib.hid (show ((W0 w).alloc (wo i)).heap.size = w.heap.size + 3 by simp)
  have HE := Lib.hid (resc_any ((W0 w).alloc (wo i)) hs hi)
  obtain ⟨E, hE0⟩ : ∃ E, E = esc s i := ⟨_, rfl⟩
  rw [← hE0] at HE ⊢
  clear hg hb ba hE0
  go_enter Tryz.func38, Tryz.ntmps38
  go_wp2_with fail
  refine HE.out.mono ?_
  rintro e w1 ⟨A, m, k, b, N, er, rfl, hb, hE⟩
  obtain ⟨⟨t0', t1', t2', t3', t4'⟩, f0', f1', f2', f3', f4'⟩ := blk5 (keepL HT.out hb)
  obtain ⟨q0', q1', q2', q3'⟩ := blk2 (keepL HF.out hb)
  obtain ⟨⟨k0', k1', k2', k3', k4'⟩, kf0', kf1', kf2', kf3', kf4'⟩ := blk5 (keepL HW.out hb)
  have hbw := bel_trans HB.out hb
  have z1 := hb.size
  rw [HZ.out] at z1
  have z2 : w.heap.size < w1.heap.size := by omega
  have z3 : w.heap.size + 1 < w1.heap.size := by omega
  have z4 : w.heap.size + 2 < w1.heap.size := by omega
  go_wp2_with fail
  go_region
  have hx1 := (Ex.one (w.heap.size + 1 + 1) w1 0 (.int .i64 1)).trans (Ex.one (w.heap.size + 1 + 1) (w1.setCell ⟨w.heap.size + 1 + 1, 0, none⟩ (.int .i64 1)) 2 (.slice A m k))
  have hK7 : ((w1.setCell ⟨w.heap.size + 1 + 1, 0, none⟩ (.int .i64 1)).setCell ⟨w.heap.size + 1 + 1, 2, none⟩ (.slice A m k)).heap[w.heap.size + 1 + 1]? = some (.cells #[.int .i64 1, .int .i64 (i : Int), .slice A m k, .int .i64 0, .int .i64 0] 40 (0, 0)) := by
    have := heap_set 2 (.slice A m k) (heap_set 0 (.int .i64 1) (keepL HW.out hb))
    simpa using this
  have ba8 := ((Below.refl ((w1.setCell ⟨w.heap.size + 1 + 1, 0, none⟩ (.int .i64 1)).setCell ⟨w.heap.size + 1 + 1, 2, none⟩ (.slice A m k)).heap.size ((w1.setCell ⟨w.heap.size + 1 + 1, 0, none⟩ (.int .i64 1)).setCell ⟨w.heap.size + 1 + 1, 2, none⟩ (.slice A m k))).alloc (Nat.le_refl _) (.cells #[.slice A m k, .bool b, .int .i64 N, .int .i64 er] 102)).drew
  have hK8 := keepL hK7 ba8
  have hT8 := keepL (keepB (keepL HT.out hb) hx1 (by omega)) ba8
  have hF8 := keepL (keepB (keepL HF.out hb) hx1 (by omega)) ba8
  have hE8 := heap_new ((w1.setCell ⟨w.heap.size + 1 + 1, 0, none⟩ (.int .i64 1)).setCell ⟨w.heap.size + 1 + 1, 2, none⟩ (.slice A m k)) (.cells #[.slice A m k, .bool b, .int .i64 N, .int .i64 er] 102)
  rw [show ((w1.setCell ⟨w.heap.size + 1 + 1, 0, none⟩ (.int .i64 1)).setCell ⟨w.heap.size + 1 + 1, 2, none⟩ (.slice A m k)).heap.size = w1.heap.size by simp [World.setCell]] at hE8
  have hE8' := keepL hE8 (Below.refl _ _).drew
  have HO8 := Lib.hid (fun (l : List R) (h : S.Ow w1 (w.heap.size + 3) (.slice A m k) l) => (((h.set (r := w.heap.size + 1 + 1) (by omega) 0 (.int .i64 1)).set (r := w.heap.size + 1 + 1) (by omega) 2 (.slice A m k)).new (.cells #[.slice A m k, .bool b, .int .i64 N, .int .i64 er] 102)).drew)
  have hbw8 := (((hbw.setCell (p := ⟨w.heap.size + 1 + 1, 0, none⟩) (by simp; omega) (.int .i64 1)).setCell (p := ⟨w.heap.size + 1 + 1, 2, none⟩) (by simp; omega) (.slice A m k)).alloc (by simp [World.setCell]; omega) (.cells #[.slice A m k, .bool b, .int .i64 N, .int .i64 er] 102)).drew
  clear hE8 hK7 ba8 hx1
  generalize hw8 : (((w1.setCell ⟨w.heap.size + 1 + 1, 0, none⟩ (.int .i64 1)).setCell ⟨w.heap.size + 1 + 1, 2, none⟩ (.slice A m k)).alloc (.cells #[.slice A m k, .bool b, .int .i64 N, .int .i64 er] 102)).drew = w8 at *
  clear hw8 t0' t1' t2' t3' t4' f0' f1' f2' f3' f4' q0' q1' q2' q3' k0' k1' k2' k3' k4' kf0' kf1' kf2' kf3' kf4'
  obtain ⟨⟨a0, a1, a2, a3, a4⟩, _⟩ := blk5 hK8
  obtain ⟨⟨c0, c1, c2, c3⟩, _⟩ := blk4 hE8'
  have y1 : w.heap.size < w8.heap.size := lt_of_heap hT8
  have y2 : w.heap.size + 1 < w8.heap.size := lt_of_heap hF8
  have y3 : w.heap.size + 1 + 1 < w8.heap.size := lt_of_heap hK8
  have HK8 := Lib.hid hK8; have HT8 := Lib.hid hT8; have HF8 := Lib.hid hF8; have HE8 := Lib.hid hE8'
  clear hK8 hT8 hF8 hE8'
  go_wp2_with fail
  go_region_with (go_at_call 69; refine (bad_any _ _ _).mono ?_; rintro e w9 ⟨rfl, hb9⟩; obtain ⟨⟨t0', t1', t2', t3', t4'⟩, f0', f1', f2', f3', f4'⟩ := blk5 (keepL HT8.out (undrew hb9)); obtain ⟨q0', q1', q2', q3'⟩ := blk2 (keepL HF8.out (undrew hb9)); obtain ⟨⟨k0', k1', k2', k3', k4'⟩, kf0', kf1', kf2', kf3', kf4'⟩ := blk5 (keepL HK8.out (undrew hb9)); obtain ⟨⟨g0', g1', g2', g3'⟩, gf0', gf1', gf2', gf3'⟩ := blk4 (keepL HE8.out (undrew hb9)))
  all_goals (
    have hbw9 := bel_trans hbw8 (undrew hb9)
    go_wp2_with fail
    refine bodyPost_ret (v := .tuple #[tv 1 (i : Int) (.slice A m k) 0 0, .int .i64 N, fv er (i : Int)]) ?_ rfl ?_
    · rw [results_ctc rfl]; go_simp
    · cases E with
      | bad x =>
        obtain ⟨rfl, rfl, rfl, rfl, rfl, rfl, hee⟩ := hE
        refine ⟨⟨_, _, _, _, _, _, _, _, rfl⟩, ?_, by omega⟩
        repeat' (first | with_reducible exact hbw9 | with_reducible refine Below.drew ?_ | with_reducible refine Below.alloc ?_ ?_ _ | with_reducible refine Below.setCell ?_ ?_ _ | (simp; done) | (simp; omega))
      | one x n =>
        obtain ⟨rfl, rfl, rfl, rfl, ho⟩ := hE
        rw [HZ.out] at ho
        have ho9 := (HO8.out _ ho).below (undrew hb9)
        refine ⟨A, k, (i : Int), by rw [show (((i + n : Nat) : Int) - (i : Int)) = (n : Int) by omega]; rfl, ?_, ?_⟩
        · refine S.Ow.less ?_ (show w.heap.size ≤ w.heap.size + 3 by omega)
          show S.Ow _ (w.heap.size + 3) (.slice A 1 k) [(x, x)]
          repeat' (first | with_reducible exact ho9 | with_reducible refine S.Ow.drew ?_ | with_reducible refine S.Ow.new ?_ _ | refine S.Ow.set ?_ (by omega) _ _)
        · repeat' (first | with_reducible exact hbw9 | with_reducible refine Below.drew ?_ | with_reducible refine Below.alloc ?_ ?_ _ | with_reducible refine Below.setCell ?_ ?_ _ | (simp; done) | (simp; omega))
      | many l =>
        obtain ⟨rfl, rfl, rfl, rfl, ho⟩ := hE
        rw [HZ.out] at ho
        have ho9 := (HO8.out _ ho).below (undrew hb9)
        refine ⟨A, k, (i : Int), by rw [show (((i + 2 : Nat) : Int) - (i : Int)) = 2 by omega], ?_, ?_⟩
        · refine S.Ow.less ?_ (show w.heap.size ≤ w.heap.size + 3 by omega)
          repeat' (first | with_reducible exact ho9 | with_reducible refine S.Ow.drew ?_ | with_reducible refine S.Ow.new ?_ _ | refine S.Ow.set ?_ (by omega) _ _)
        · repeat' (first | with_reducible exact hbw9 | with_reducible refine Below.drew ?_ | with_reducible refine Below.alloc ?_ ?_ _ | with_reducible refine Below.setCell ?_ ?_ _ | (simp; done) | (simp; omega)))
end
end Go.Proofs.YtceeimolfalmpaaGreatDoor

namespace Go.Proofs.YtceeimolfalmpaaGreatDoor
open Go.RowKit ObUtf ObSets ObLex
theorem rword_any {s : ByteArray} {i : Nat} (w : World) (hs : s.size ≤ 100000) (hi : i < s.size) : Calls Tryz.prog 38 #[.string s, .int .i64 (i : Int)] w (RetQ i (word s i) w) := by
  unfold word
  dsimp only
  by_cases h92 : bt s i = 92
  · rw [if_pos h92]
    have := rw_escape w hs hi h92
    cases he : esc s i with
    | bad e => rw [he] at this; exact this
    | one x n => rw [he] at this; exact this
    | many l => rw [he] at this; exact this
  · rw [if_neg h92]
    by_cases h91 : bt s i = 91
    · rw [if_pos h91]
      have := rw_class w hs hi h91 rfl rfl
      cases hc : cls s i with
      | error f => rw [hc] at this; exact this
      | ok y => obtain ⟨l, j⟩ := y; rw [hc] at this; exact this
    · rw [if_neg h91]
      by_cases h123 : bt s i = 123
      · rw [if_pos h123]
        have := rw_braces w hs hi h123 rfl
        cases hc : braces s i with
        | error f => rw [hc] at this; exact this
        | ok y => obtain ⟨k, a, b, j⟩ := y; rw [hc] at this; exact this
      · rw [if_neg h123]
        by_cases hst : bt s i = 93 ∨ bt s i = 125
        · rw [if_pos hst]; exact rw_stray w hi rfl hst
        · rw [if_neg hst]
          by_cases h46 : bt s i = 46
          · rw [if_pos h46]; exact rw_dot w hs hi h46
          · rw [if_neg h46]
            by_cases h40 : bt s i = 40
            · rw [if_pos h40]
              by_cases hp : bt s (i + 1) = 63 ∧ bt s (i + 2) = 58
              · rw [if_pos hp]; exact rw_plaingroup w hs hi h40 hp
              · rw [if_neg hp]; exact rw_group w hs hi h40 hp
            · rw [if_neg h40]
              by_cases h41 : bt s i = 41
              · rw [if_pos h41]; exact rw_mark w hi h41 (by omega)
              · rw [if_neg h41]
                by_cases h124 : bt s i = 124
                · rw [if_pos h124]; exact rw_mark w hi h124 (by omega)
                · rw [if_neg h124]
                  by_cases h94 : bt s i = 94
                  · rw [if_pos h94]; exact rw_mark w hi h94 (by omega)
                  · rw [if_neg h94]
                    by_cases h36 : bt s i = 36
                    · rw [if_pos h36]; exact rw_mark w hi h36 (by omega)
                    · rw [if_neg h36]
                      by_cases h42 : bt s i = 42
                      · rw [if_pos h42]; exact rw_mark w hi h42 (by omega)
                      · rw [if_neg h42]
                        by_cases h43 : bt s i = 43
                        · rw [if_pos h43]; exact rw_mark w hi h43 (by omega)
                        · rw [if_neg h43]
                          by_cases h63 : bt s i = 63
                          · rw [if_pos h63]; exact rw_mark w hi h63 (by omega)
                          · rw [if_neg h63]; exact rw_plain w hi hs (by omega)
end Go.Proofs.YtceeimolfalmpaaGreatDoor
