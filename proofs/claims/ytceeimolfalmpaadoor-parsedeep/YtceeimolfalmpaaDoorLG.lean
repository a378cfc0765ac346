/-
  What the reader's braces answers and leaves. Conditions: the reader's block is as it should be and stands at a {; the two tables of unicode/utf8 lie as their text lays them.
  What the reader's escape and choose answer and leave; that the way which choose chooses reads the word at the reader's place. Conditions: the reader's block is as it should be, its place within the text; the two tables of unicode/utf8 lie as their text lays them.
-/
import Derived.Test.YtceeimolfalmpaaDoorL11
import Derived.Test.YtceeimolfalmpaaDoorL12
import Derived.Test.YtceeimolfalmpaaDoorL7
import Derived.Test.YtceeimolfalmpaaDoorLH
namespace Go.Proofs.YtceeimolfalmpaaDoor
open Go.RowKit ObUtf ObSets ObLex
section
variable {w : World} {c : Nat} {s : ByteArray} {i : Nat}
set_option maxHeartbeats 1000000 in
set_option maxRecDepth 100000 in
theorem rf_zero (h : Rd w c s i) (h0 : dg s i = 0) : Calls Tryd.prog 41 #[ptr c] w fun e w' => e = .returned (.tuple #[tv 0 0 nls 0 0, fv 0 0, .bool false]) ∧ Ex c w w' := by
  have hlt := h.lt
  have h2 := h.2.1
  have HT := Lib.hid (w0_tok w)
  have HF := Lib.hid (w0_fault w)
  have HX0 := Lib.hid (Ex.of (c := c) (w0_below w))
  have HN := Lib.hid (number_any h.w0)
  rw [show decide (0 < dg s i) = false from decide_eq_false (by omega)] at HN
  clear h h0
  generalize num s i = v at *
  generalize dg s i = d at *
  go_enter Tryd.func41, Tryd.ntmps41
  go_wp2_with fail
  refine HN.out.mono ?_
  rintro e w1 ⟨rfl, hR1, hx1⟩
  obtain ⟨⟨t0, t1, t2, t3, t4⟩, f0, f1, f2, f3, f4⟩ := blk5 (keepB HT.out hx1 (by omega))
  obtain ⟨q0, q1, q2, q3⟩ := blk2 (keepB HF.out hx1 (by omega))
  have hs1 : w.heap.size < w1.heap.size := lt_of_heap (keepB HT.out hx1 (by omega))
  have hs2 : w.heap.size + 1 < w1.heap.size := lt_of_heap (keepB HF.out hx1 (by omega))
  have hx := HX0.out.trans hx1
  go_wp2_with fail
  refine bodyPost_ret (v := .tuple #[tv 0 0 nls 0 0, fv 0 0, .bool false]) ?_ rfl ⟨rfl, ?_⟩
  · rw [results_cct rfl]; go_simp
  · repeat' (first | with_reducible exact hx | with_reducible refine Ex.alloc ?_ _ | with_reducible refine Ex.drew ?_ | refine Ex.set ?_ (by omega) _ _)
theorem wE_0 {v lo hi : Int} (h1 : lo ≤ v) (h2 : v ≤ hi) : wE v lo hi = 0 := by unfold wE; rw [if_neg (by omega)]
theorem wA_0 {a v lo hi : Int} (h1 : lo ≤ v) (h2 : v ≤ hi) : wA a v lo hi = 0 := by unfold wA; rw [if_neg (by omega)]
theorem wE_7 {v lo hi : Int} (h : v < lo ∨ hi < v) : wE v lo hi = 7 := by unfold wE; rw [if_pos h]
theorem wA_7 {a v lo hi : Int} (h : v < lo ∨ hi < v) : wA a v lo hi = a := by unfold wA; rw [if_pos h]
/-- The word of braces. -/
def brW (i : Nat) : Res (Int × Int × Int × Nat) → Res (T × Nat)
  | .error f => .error f
  | .ok (k, a, b, j) => .ok (⟨k, (i : Int), [], a, b⟩, j)
theorem braces_any (h : Rd w c s i) (h123 : bt s i = 123) : Calls Tryd.prog 19 #[ptr c] w (RetW (brW i (braces s i)) c s w) := by
  unfold braces
  by_cases ht : bt s (i + 1) = 126
  · rw [if_pos ht]
    by_cases hf : dg s (i + 2) = 0 ∨ bt s (i + 2 + dg s (i + 2)) ≠ 125
    · rw [if_pos hf]
      refine br_bud_no h h123 ht fun W hR => (budgetForm_no hR hf).mono ?_
      rintro e w' ⟨er, a, rfl, hx⟩
      exact ⟨_, _, _, _, _, rfl, hx⟩
    · rw [if_neg hf]
      have hd : 0 < dg s (i + 2) := by omega
      have h125 : bt s (i + 2 + dg s (i + 2)) = 125 := by omega
      by_cases hn : 255 < num s (i + 2)
      · rw [if_pos hn]
        refine br_bud_fault h h123 ht (k := 7) (m := (min (num s (i + 2)) 511 : Nat)) (n := 0) (q := i + 2 + dg s (i + 2) + 1) (.inr (.inr rfl)) fun W hR => (budgetForm_yes hR hd h125 rfl).mono ?_
        rintro e w' ⟨rfl, hR', hx⟩
        rw [wE_7 (by omega), wA_7 (by omega)]
        exact ⟨rfl, hR', hx⟩
      · rw [if_neg hn]
        refine br_bud_ok h h123 ht fun W hR => (budgetForm_yes hR hd h125 (v := num s (i + 2)) (by omega)).mono ?_
        rintro e w' ⟨rfl, hR', hx⟩
        rw [wE_0 (by omega) (by omega), wA_0 (by omega) (by omega)]
        exact ⟨rfl, hR', hx⟩
  · rw [if_neg ht]
    by_cases h0 : dg s (i + 1) = 0
    · rw [if_pos h0]
      refine br_rep_no h h123 ht fun W hR => (rf_zero hR h0).mono ?_
      rintro e w' ⟨rfl, hx⟩
      exact ⟨_, _, _, _, _, rfl, hx⟩
    · rw [if_neg h0]
      have hd : 0 < dg s (i + 1) := by omega
      dsimp only
      by_cases h44 : bt s (i + 1 + dg s (i + 1)) = 44
      · rw [if_pos h44]
        by_cases hm : dg s (i + 1 + dg s (i + 1) + 1) = 0
        · rw [hm, Nat.add_zero]
          by_cases he : bt s (i + 1 + dg s (i + 1) + 1) = 125
          · rw [if_neg (by omega)]
            by_cases ha : 255 < num s (i + 1)
            · rw [if_pos ha]
              refine br_rep_fault h h123 ht (k := 6) (m := (min (num s (i + 1)) 511 : Nat)) (n := -1) (q := i + 1 + dg s (i + 1) + 1 + 1) (.inr (.inr rfl)) fun W hR => (rf_open_yes hR hd rfl h44 hm he ⟨rfl, rfl⟩).mono ?_
              rintro e w' ⟨rfl, hR', hx⟩
              rw [wE_7 (by omega), wA_7 (by omega)]
              exact ⟨rfl, hR', hx⟩
            · rw [if_neg ha, if_pos rfl]
              refine br_rep_ok h h123 ht fun W hR => (rf_open_yes hR hd (a := num s (i + 1)) (by omega) h44 hm he ⟨rfl, rfl⟩).mono ?_
              rintro e w' ⟨rfl, hR', hx⟩
              rw [wE_0 (by omega) (by omega), wA_0 (by omega) (by omega)]
              exact ⟨rfl, hR', hx⟩
          · rw [if_pos he]
            refine br_rep_no h h123 ht fun W hR => (rf_open_no hR hd rfl h44 hm he ⟨rfl, rfl⟩).mono ?_
            rintro e w' ⟨rfl, hx⟩
            exact ⟨_, _, _, _, _, rfl, hx⟩
        · have hm' : 0 < dg s (i + 1 + dg s (i + 1) + 1) := by omega
          by_cases he : bt s (i + 1 + dg s (i + 1) + 1 + dg s (i + 1 + dg s (i + 1) + 1)) = 125
          · rw [if_neg (by omega)]
            by_cases ha : 255 < num s (i + 1)
            · rw [if_pos ha]
              refine br_rep_fault h h123 ht (k := 6) (m := (min (num s (i + 1)) 511 : Nat)) (n := (min (num s (i + 1 + dg s (i + 1) + 1)) 511 : Nat)) (q := i + 1 + dg s (i + 1) + 1 + dg s (i + 1 + dg s (i + 1) + 1) + 1) (.inr (.inr rfl)) fun W hR => (rf_two_yes hR hd rfl h44 hm' rfl he ⟨rfl, rfl⟩).mono ?_
              rintro e w' ⟨rfl, hR', hx⟩
              rw [wE_7 (v := ((min (num s (i + 1)) 511 : Nat) : Int)) (lo := 0) (hi := 255) (by omega), if_neg (by omega), if_neg (by omega), wA_7 (by omega)]
              exact ⟨rfl, hR', hx⟩
            · rw [if_neg ha, if_neg hm]
              by_cases hb : 255 < num s (i + 1 + dg s (i + 1) + 1) ∨ num s (i + 1 + dg s (i + 1) + 1) < num s (i + 1)
              · rw [if_pos hb]
                refine br_rep_fault h h123 ht (k := 6) (m := (num s (i + 1) : Nat)) (n := (min (num s (i + 1 + dg s (i + 1) + 1)) 511 : Nat)) (q := i + 1 + dg s (i + 1) + 1 + dg s (i + 1 + dg s (i + 1) + 1) + 1) (.inr (.inr rfl)) fun W hR => (rf_two_yes hR hd (a := num s (i + 1)) (by omega) h44 hm' rfl he ⟨rfl, rfl⟩).mono ?_
                rintro e w' ⟨rfl, hR', hx⟩
                rw [wE_0 (v := (num s (i + 1) : Int)) (by omega) (by omega), if_pos rfl, if_pos rfl, wE_7 (by omega), wA_7 (by omega)]
                exact ⟨rfl, hR', hx⟩
              · rw [if_neg hb]
                refine br_rep_ok h h123 ht fun W hR => (rf_two_yes hR hd (a := num s (i + 1)) (by omega) h44 hm' (b := num s (i + 1 + dg s (i + 1) + 1)) (by omega) he ⟨rfl, rfl⟩).mono ?_
                rintro e w' ⟨rfl, hR', hx⟩
                rw [wE_0 (v := (num s (i + 1) : Int)) (by omega) (by omega), if_pos rfl, if_pos rfl, wE_0 (by omega) (by omega), wA_0 (by omega) (by omega)]
                exact ⟨rfl, hR', hx⟩
          · rw [if_pos he]
            refine br_rep_no h h123 ht fun W hR => (rf_two_no hR hd rfl h44 hm' rfl he ⟨rfl, rfl⟩).mono ?_
            rintro e w' ⟨rfl, hx⟩
            exact ⟨_, _, _, _, _, rfl, hx⟩
      · rw [if_neg h44]
        by_cases he : bt s (i + 1 + dg s (i + 1)) = 125
        · rw [if_pos he]
          by_cases ha : 255 < num s (i + 1)
          · rw [if_pos ha]
            refine br_rep_fault h h123 ht (k := 6) (m := (min (num s (i + 1)) 511 : Nat)) (n := (min (num s (i + 1)) 511 : Nat)) (q := i + 1 + dg s (i + 1) + 1) (.inr (.inr rfl)) fun W hR => (rf_one_yes hR hd rfl h44 he ⟨rfl, rfl⟩).mono ?_
            rintro e w' ⟨rfl, hR', hx⟩
            rw [wE_7 (by omega), wA_7 (by omega)]
            exact ⟨rfl, hR', hx⟩
          · rw [if_neg ha]
            refine br_rep_ok h h123 ht fun W hR => (rf_one_yes hR hd (a := num s (i + 1)) (by omega) h44 he ⟨rfl, rfl⟩).mono ?_
            rintro e w' ⟨rfl, hR', hx⟩
            rw [wE_0 (by omega) (by omega), wA_0 (by omega) (by omega)]
            exact ⟨rfl, hR', hx⟩
        · rw [if_neg he]
          refine br_rep_no h h123 ht fun W hR => (rf_one_no hR hd rfl h44 he ⟨rfl, rfl⟩).mono ?_
          rintro e w' ⟨rfl, hx⟩
          exact ⟨_, _, _, _, _, rfl, hx⟩
end
end Go.Proofs.YtceeimolfalmpaaDoor

namespace Go.Proofs.YtceeimolfalmpaaDoor
open Go.RowKit ObUtf ObSets ObLex
section
variable {w : World} {c : Nat} {s : ByteArray} {i : Nat}
set_option maxHeartbeats 1000000 in
set_option maxRecDepth 100000 in
theorem escape_bad (h : Rd w c s i) (h92 : bt s i = 92) {er : Int} (he : esc s i = .bad er) : Calls Tryd.prog 17 #[ptr c] w (RetW (.error (er, i)) c s w) := by
  have hlt := h.lt
  have h2 := h.2.1
  have HT := Lib.hid (w0_tok w)
  have HF := Lib.hid (w0_fault w)
  have HX0 := Lib.hid (Ex.of (c := c) (w0_below w))
  have HU := Lib.hid (escaped_any h.w0 h92)
  rw [he] at HU
  clear h h92 he
  go_enter Tryd.func17, Tryd.ntmps17
  go_wp2_with fail
  refine HU.out.mono ?_
  rintro e w1 ⟨x, A, n, k, er', a, j, rfl, ⟨rfl, hv, rfl, rfl, hee⟩, hR1, hx1⟩
  injection hv with hv1 hv2 hv3
  subst hv1 hv2 hv3
  have en : (er' != 0) = true := by simp; omega
  have hT1 := keepB HT.out hx1 (by omega)
  have hF1 := keepB HF.out hx1 (by omega)
  have s1 : w.heap.size < w1.heap.size := lt_of_heap hT1
  have s2 : w.heap.size + 1 < w1.heap.size := lt_of_heap hF1
  have hx := HX0.out.trans hx1
  obtain ⟨⟨t0, t1, t2, t3, t4⟩, f0, f1, f2, f3, f4⟩ := blk5 hT1
  obtain ⟨q0, q1, q2, q3⟩ := blk2 hF1
  go_wp2_with fail
  go_region
  all_goals (
    go_wp2_with fail
    refine bodyPost_ret (v := .tuple #[tv 0 0 nls 0 0, fv er' (i : Int)]) ?_ rfl ⟨rfl, ?_, by omega⟩
    · rw [results_cc rfl]; go_simp
    · repeat' (first | with_reducible exact hx | with_reducible refine Ex.alloc ?_ _ | with_reducible refine Ex.drew ?_ | refine Ex.set ?_ (by omega) _ _))
set_option maxHeartbeats 1000000 in
set_option maxRecDepth 100000 in
theorem escape_one (h : Rd w c s i) (h92 : bt s i = 92) {x : Int} {n : Nat} (he : esc s i = .one x n) : Calls Tryd.prog 17 #[ptr c] w (RetW (.ok (⟨1, (i : Int), [(x, x)], 0, 0⟩, i + n)) c s w) := by
  have hlt := h.lt
  have h2 := h.2.1
  have HT := Lib.hid (w0_tok w)
  have HF := Lib.hid (w0_fault w)
  have HX0 := Lib.hid (Ex.of (c := c) (w0_below w))
  have HU := Lib.hid (escaped_any h.w0 h92)
  rw [he] at HU
  clear h h92 he
  go_enter Tryd.func17, Tryd.ntmps17
  go_wp2_with fail
  refine HU.out.mono ?_
  rintro e w1 ⟨x', A, n', k, er', a, j, rfl, ⟨rfl, hv, rfl, rfl, rfl, hpos⟩, hR1, hx1⟩
  injection hv with hv1 hv2 hv3
  subst hv1 hv2 hv3
  have d0 : decide (0 ≤ x') = true := decide_eq_true hpos
  have hT1 := keepB HT.out hx1 (by omega)
  have hF1 := keepB HF.out hx1 (by omega)
  have HT1 := Lib.hid hT1; have HF1 := Lib.hid hF1
  have s1 : w.heap.size + 1 < w1.heap.size := lt_of_heap hF1
  clear hT1 hF1
  go_wp2_with fail
  refine (one_any x' _).mono ?_
  intro e w2 hr2
  obtain ⟨g, k, rfl, ho2, hb2⟩ := RetR.some_ hr2 (by simp)
  go_wp2_with fail
  refine (setWord_any _ _ _ _).mono ?_
  rintro e w3 ⟨rfl, hb3⟩
  have hb : Below w1.heap.size w1 w3 := bel_trans ((Below.refl w1.heap.size w1).alloc (Nat.le_refl _) _) (bel_trans hb2 hb3)
  obtain ⟨⟨t0, t1, t2, t3, t4⟩, f0, f1, f2, f3, f4⟩ := blk5 (keepL HT1.out hb)
  obtain ⟨q0, q1, q2, q3⟩ := blk2 (keepL HF1.out hb)
  have hx := (HX0.out.trans hx1).on hb
  have hR3 := hR1.on hb
  have ho3 := (ho2.below hb3).less (show w1.heap.size ≤ _ by simp)
  go_wp2_with fail
  refine bodyPost_ret (v := .tuple #[tv 1 0 (.slice (some ⟨g, 0, none⟩) 1 k) 0 0, fv 0 0]) ?_ rfl ⟨_, _, rfl, ?_, ?_, ?_⟩
  · rw [results_cc rfl]; go_simp
  · refine S.Ow.less ?_ (show w.heap.size ≤ w1.heap.size by omega)
    repeat' (first | with_reducible exact ho3 | refine S.Ow.set ?_ (by omega) _ _)
  · repeat' (first | with_reducible exact hR3 | with_reducible refine Rd.alloc ?_ _ | with_reducible refine Rd.drew ?_ | refine Rd.set ?_ (by omega) (by omega) _ _)
  · repeat' (first | with_reducible exact hx | with_reducible refine Ex.alloc ?_ _ | with_reducible refine Ex.drew ?_ | refine Ex.set ?_ (by omega) _ _)
set_option maxHeartbeats 1000000 in
set_option maxRecDepth 100000 in
theorem escape_many (h : Rd w c s i) (h92 : bt s i = 92) {l : List R} (he : esc s i = .many l) : Calls Tryd.prog 17 #[ptr c] w (RetW (.ok (⟨1, (i : Int), l, 0, 0⟩, i + 2)) c s w) := by
  have hlt := h.lt
  have h2 := h.2.1
  have HT := Lib.hid (w0_tok w)
  have HF := Lib.hid (w0_fault w)
  have HX0 := Lib.hid (Ex.of (c := c) (w0_below w))
  have HU := Lib.hid (escaped_any h.w0 h92)
  rw [he] at HU
  clear h h92 he
  go_enter Tryd.func17, Tryd.ntmps17
  go_wp2_with fail
  refine HU.out.mono ?_
  rintro e w1 ⟨x, A, n, k, er', a, j, rfl, ⟨rfl, rfl, rfl, rfl, ho⟩, hR1, hx1⟩
  obtain ⟨A', k', hv, _⟩ := ho.shape
  injection hv with hv1 hv2 hv3
  subst hv1 hv2 hv3
  have hT1 := keepB HT.out hx1 (by omega)
  have hF1 := keepB HF.out hx1 (by omega)
  have HT1 := Lib.hid hT1; have HF1 := Lib.hid hF1
  have s1 : w.heap.size + 1 < w1.heap.size := lt_of_heap hF1
  have HO := Lib.hid (show S.Ow w1 (w.heap.size + 2) (.slice A l.length k) l by rw [← w0_size w]; exact ho)
  clear hT1 hF1 ho
  generalize hn : l.length = n at *
  go_wp2_with fail
  refine (setWord_any _ _ _ _).mono ?_
  rintro e w3 ⟨rfl, hb3⟩
  have hb : Below w1.heap.size w1 w3 := bel_trans ((Below.refl w1.heap.size w1).alloc (Nat.le_refl _) _) hb3
  obtain ⟨⟨t0, t1, t2, t3, t4⟩, f0, f1, f2, f3, f4⟩ := blk5 (keepL HT1.out hb)
  obtain ⟨q0, q1, q2, q3⟩ := blk2 (keepL HF1.out hb)
  have hx := (HX0.out.trans hx1).on hb
  have hR3 := hR1.on hb
  have ho3 := HO.out.below hb
  go_wp2_with fail
  refine bodyPost_ret (v := .tuple #[tv 1 0 (.slice A n k) 0 0, fv 0 0]) ?_ rfl ⟨A, k, by rw [hn], ?_, ?_, ?_⟩
  · rw [results_cc rfl]; go_simp
  · dsimp only
    rw [hn]
    refine S.Ow.less ?_ (show w.heap.size ≤ w.heap.size + 2 by omega)
    repeat' (first | with_reducible exact ho3 | refine S.Ow.set ?_ (by omega) _ _)
  · repeat' (first | with_reducible exact hR3 | with_reducible refine Rd.alloc ?_ _ | with_reducible refine Rd.drew ?_ | refine Rd.set ?_ (by omega) (by omega) _ _)
  · repeat' (first | with_reducible exact hx | with_reducible refine Ex.alloc ?_ _ | with_reducible refine Ex.drew ?_ | refine Ex.set ?_ (by omega) _ _)
/-- The way of a byte. -/
def ch (b : Nat) : Nat :=
  if b = 92 then 17 else if b = 91 then 18 else if b = 123 then 19 else if b = 40 then 20
  else if b = 41 ∨ b = 124 ∨ b = 94 ∨ b = 36 then 21 else if b = 42 ∨ b = 43 ∨ b = 63 then 22
  else if b = 46 then 23 else if b = 93 ∨ b = 125 then 24 else 25
theorem ret_fn {a b : Nat} {x : Array Value} (h : a = b) : Ending.returned (.func (.func a) x #[]) = .returned (.func (.func b) x #[]) := by rw [h]
set_option maxHeartbeats 2000000 in
set_option maxRecDepth 100000 in
theorem choose_any (h : Rd w c s i) (hi : i < s.size) {f : Nat} (hf : f = ch (bt s i)) : Calls Tryd.prog 13 #[ptr c] w fun e w' => e = .returned (.func (.func f) #[ptr c] #[]) ∧ Below w.heap.size w w' := by
  obtain ⟨c0, c1, _⟩ := h.cells
  have hz := h.2.2.2
  have hg := U.bt_eq s i hi
  rw [hg] at hf
  unfold ch at hf
  have HV := Lib.hid hf
  clear hf h hg
  go_enter Tryd.func13, Tryd.ntmps13
  go_wp2_with fail
  go_quiet (fail)
  go_wp2_with fail
  all_goals (go_ret; refine ⟨ret_fn ?_, below_drews (Below.refl _ _) nq⟩)
  all_goals (rw [HV.out]; clear HV; generalize (s[i]'hi).toNat = x at *; simp only [beq_iff_eq, beq_eq_false_iff_ne, ne_eq] at *; (repeat' split) <;> omega)
end
end Go.Proofs.YtceeimolfalmpaaDoor
