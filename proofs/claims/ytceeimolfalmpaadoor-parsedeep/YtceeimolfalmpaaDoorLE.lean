/-
  What the reader's number, and within and first, answer and leave. Conditions: the reader's block is as it should be; the two tables of unicode/utf8 lie as their text lays them.
  What within and first answer, and the reader's budgetForm. Conditions: the reader's block is as it should be; the two tables of unicode/utf8 lie as their text lays them.
-/
import Derived.Test.YtceeimolfalmpaaDoorLD
namespace Go.Proofs.YtceeimolfalmpaaDoor
open Go.RowKit ObUtf ObSets ObLex

theorem dg_yes {s : ByteArray} {i : Nat} (h1 : 48 ≤ bt s i) (h2 : bt s i ≤ 57) : dg s i = dg s (i + 1) + 1 := by rw [dg, dif_pos (bt_in (by omega)), if_pos ⟨h1, h2⟩]
theorem dg_no {s : ByteArray} {i : Nat} (h : ¬ (48 ≤ bt s i ∧ bt s i ≤ 57)) : dg s i = 0 := by
  rw [dg]
  by_cases hi : i < s.size
  · rw [dif_pos hi, if_neg h]
  · rw [dif_neg hi]
theorem dg_fit (s : ByteArray) : ∀ (n i : Nat), s.size - i ≤ n → i ≤ s.size → i + dg s i ≤ s.size
  | 0, i, h, hi => by rw [dg_no (by rw [bt_out (by omega)]; omega)]; omega
  | n + 1, i, h, hi => by
    by_cases hd : 48 ≤ bt s i ∧ bt s i ≤ 57
    · have hl : i < s.size := bt_in (by omega)
      have := dg_fit s n (i + 1) (by omega) (by omega)
      rw [dg_yes hd.1 hd.2]; omega
    · rw [dg_no hd]; omega
/-- The cell of a number. -/
abbrev no : Obj := .cells #[.int .i64 0, .int .i64 0] 87
section
variable {w : World} {c : Nat} {s : ByteArray} {i : Nat}
set_option maxHeartbeats 1000000 in
set_option maxRecDepth 100000 in
theorem number_any (h : Rd w c s i) : Calls Tryd.prog 57 #[ptr c] w fun e w' => e = .returned (.tuple #[fv i (min (num s i) 511 : Nat), .bool (decide (0 < dg s i))]) ∧ Rd w' c s (i + dg s i) ∧ Ex c w w' := by
  have hlt := h.lt
  have h2 := h.2.1
  have hz := h.2.2.2
  have HB := Lib.hid (heap_new w no)
  obtain ⟨c0, c1, _⟩ := (h.alloc no).cells
  have HR := Lib.hid (h.alloc no)
  have HN := Lib.hid (heap_new (w.alloc no) (.cells #[.int .i64 (i : Int), .int .i64 0] 87))
  have HX0 := Lib.hid (Ex.of (c := c) ((Below.refl _ w).alloc (Nat.le_refl _) no))
  have hs0 : (w.alloc no).heap.size = w.heap.size + 1 := by simp
  rw [hs0] at HN
  clear h
  obtain ⟨V, hV⟩ : ∃ V, V = min (num s i) 511 := ⟨_, rfl⟩
  obtain ⟨b, hb⟩ : ∃ b, b = decide (0 < dg s i) := ⟨_, rfl⟩
  obtain ⟨J, hJ⟩ : ∃ J, J = i + dg s i := ⟨_, rfl⟩
  rw [← hV, ← hb, ← hJ]
  have HVE := Lib.hid hV
  have HBE := Lib.hid hb
  have HJE := Lib.hid hJ
  clear hV hb hJ
  go_enter Tryd.func57, Tryd.ntmps57
  go_wp2_with fail
  clear c0 c1
  go_loopw [43] (fun _ wr => ∃ (k j v : Nat), Hid (j = i + k) ∧ Hid (dg s i = k + dg s j) ∧ Hid (v = min (val s i k) 511) ∧ Hid (Rd wr c s j) ∧ Hid (wr.heap[w.heap.size + 1]? = some (.cells #[.int .i64 (i : Int), .int .i64 (v : Int)] 87 (0, 0))) ∧ Hid (wr.heap[w.heap.size]? = some no) ∧ Hid (Ex c w wr)) (fun _ wr => s.size + 1 - (intOf ((wr.cell? ⟨c, 1, none⟩).getD (.int .i64 0))).toNat)
  case atStart => exact ⟨0, i, 0, rfl, (Nat.zero_add _).symm, rfl, HR.out.alloc _, HN.out, keepL HB.out ((Below.refl _ _).alloc (Nat.le_refl _) _), HX0.out.alloc _⟩
  case round =>
    obtain ⟨k, j, v, HJ, HD, HVV, HP, HV, HT, HX⟩ := hrel
    obtain ⟨u0, u1, u2⟩ := HP.out.cells
    have hm : s.size + 1 - (intOf ((wr.cell? ⟨c, 1, none⟩).getD (.int .i64 0))).toNat = s.size + 1 - j := by rw [u1]; rfl
    rw [hm]
    clear hm
    obtain ⟨q0, q1, q2, q3⟩ := blk2 HV.out
    obtain ⟨t0, t1, t2, t3⟩ := blk2 HT.out
    have hle := HP.out.2.2.2.1
    have f1 := u2 1
    clear u2
    have hs1 : w.heap.size < wr.heap.size := lt_of_heap HT.out
    have hs2 : w.heap.size + 1 < wr.heap.size := lt_of_heap HV.out
    have hv511 : v ≤ 511 := by rw [HVV.out]; exact Nat.min_le_right _ _
    by_cases hd : 48 ≤ bt s j ∧ bt s j ≤ 57
    · have hin : j < s.size := bt_in (by omega)
      have hg := U.bt_eq s j hin
      have d0 : decide (j < s.size) = true := decide_eq_true hin
      have d1 : decide ((48 : Int) ≤ ((s[j]'hin).toNat : Int)) = true := decide_eq_true (by omega)
      have d2 : decide (((s[j]'hin).toNat : Int) ≤ 57) = true := decide_eq_true (by omega)
      have HD2 := Lib.hid (show dg s i = k + 1 + dg s (j + 1) by rw [HD.out, dg_yes hd.1 hd.2]; omega)
      obtain ⟨v2, hv2⟩ : ∃ v2, v2 = min (v * 10 + (bt s j - 48)) 511 := ⟨_, rfl⟩
      have HV2 := Lib.hid (show v2 = min (val s i (k + 1)) 511 by
        have := HVV.out
        have hj := HJ.out
        rw [hv2]
        show _ = min (val s i k * 10 + (bt s (i + k) - 48)) 511
        rw [← hj]
        omega)
      have w1 : IntKind.u8.wrap (((s[j]'hin).toNat : Int) - 48) = ((bt s j - 48 : Nat) : Int) := by rw [hg, show ((s[j]'hin).toNat : Int) - 48 = (((s[j]'hin).toNat - 48 : Nat) : Int) by omega]; exact IntWalk.u8_in _ (by omega)
      go_wp2_with fail
      go_quiet (fail)
      go_wp2_with fail
      go_region
      all_goals (
        have hval : (min ((v : Int) * 10 + ((((s[j]'hin).toNat - 48 : Nat)) : Int)) 511) = (v2 : Int) := by rw [hv2, hg]; omega
        rw [hval]
        have hR2 := (HP.out.drews (nq + 1)).set (r := w.heap.size + 1) (by omega) (by omega) 1 (.int .i64 (v2 : Int))
        obtain ⟨x0, x1, x2⟩ := hR2.cells
        have g1 := x2 1
        clear x2
        have hV2 : ((wr.drewN (nq + 1)).setCell ⟨w.heap.size + 1, 1, none⟩ (.int .i64 (v2 : Int))).heap[w.heap.size + 1]? = some (.cells #[.int .i64 (i : Int), .int .i64 (v2 : Int)] 87 (0, 0)) := by
          have := heap_set (w := wr.drewN (nq + 1)) 1 (.int .i64 (v2 : Int)) HV.out
          simpa using this
        have hT2 : ((wr.drewN (nq + 1)).setCell ⟨w.heap.size + 1, 1, none⟩ (.int .i64 (v2 : Int))).heap[w.heap.size]? = some no := (Below.heap_setCell _ _ _ _ (by show w.heap.size ≠ w.heap.size + 1; omega)).trans HT.out
        have hX2 : Ex c w ((wr.drewN (nq + 1)).setCell ⟨w.heap.size + 1, 1, none⟩ (.int .i64 (v2 : Int))) := (HX.out.drews _).set (by omega) _ _
        have hR3 := hR2.put (j + 1) (by omega)
        have y1 := hR3.cells.2.1
        clear hv2 hval
        generalize (wr.drewN (nq + 1)).setCell ⟨w.heap.size + 1, 1, none⟩ (.int .i64 (v2 : Int)) = wy at *
        go_wp2_with fail
        have ej : ((j : Int) + 1) = ((j + 1 : Nat) : Int) := by omega
        rw [ej]
        go_roundw
        case rel => exact ⟨k + 1, j + 1, v2, (by rw [HJ.out]; omega : j + 1 = i + (k + 1)), HD2.out, HV2.out, hR3, (Below.heap_setCell _ _ _ _ (by show w.heap.size + 1 ≠ c; omega)).trans hV2, (Below.heap_setCell _ _ _ _ (by show w.heap.size ≠ c; omega)).trans hT2, hX2.setL _ _⟩
        case measure => rw [y1]; show s.size + 1 - (j + 1) < s.size + 1 - j; omega)
    · have HK := Lib.hid (show dg s i = k by have := HD.out; rw [dg_no hd] at this; omega)
      obtain rfl : v = V := by rw [HVV.out, HVE.out]; unfold num; rw [HK.out]
      obtain rfl : j = J := by rw [HJ.out, HJE.out, HK.out]
      have d3 : decide (i < j) = b := by rw [HBE.out, HK.out, HJ.out]; simp
      have hfin : ∀ m, Rd (wr.drewN m) c s j := fun m => HP.out.drews m
      have hxf : ∀ m, Ex c w (wr.drewN m) := fun m => HX.out.drews m
      clear HVV HJ HVE HBE HJE
      by_cases hin : j < s.size
      · have hg := U.bt_eq s j hin
        have d0 : decide (j < s.size) = true := decide_eq_true hin
        by_cases hlo : 48 ≤ bt s j
        · have d1 : decide ((48 : Int) ≤ ((s[j]'hin).toNat : Int)) = true := decide_eq_true (by omega)
          have d2 : decide (((s[j]'hin).toNat : Int) ≤ 57) = false := decide_eq_false (by omega)
          go_wp2_with fail
          go_quiet (fail)
          go_wp2_with fail
          go_region
          all_goals (
            go_wp2_with fail
            refine bodyPost_ret (v := .tuple #[fv i (v : Int), .bool b]) ?_ rfl ⟨rfl, ?_, ?_⟩
            · rw [results_cell_tmp rfl]; go_simp
            · repeat' (first | with_reducible exact hfin _ | with_reducible refine Rd.drew ?_ | refine Rd.set ?_ (by omega) (by omega) _ _)
            · repeat' (first | with_reducible exact hxf _ | with_reducible refine Ex.drew ?_ | refine Ex.set ?_ (by omega) _ _))
        · have d1 : decide ((48 : Int) ≤ ((s[j]'hin).toNat : Int)) = false := decide_eq_false (by omega)
          go_wp2_with fail
          go_quiet (fail)
          go_wp2_with fail
          go_region
          all_goals (
            go_wp2_with fail
            refine bodyPost_ret (v := .tuple #[fv i (v : Int), .bool b]) ?_ rfl ⟨rfl, ?_, ?_⟩
            · rw [results_cell_tmp rfl]; go_simp
            · repeat' (first | with_reducible exact hfin _ | with_reducible refine Rd.drew ?_ | refine Rd.set ?_ (by omega) (by omega) _ _)
            · repeat' (first | with_reducible exact hxf _ | with_reducible refine Ex.drew ?_ | refine Ex.set ?_ (by omega) _ _))
      · have d0 : decide (j < s.size) = false := decide_eq_false hin
        go_wp2_with fail
        go_quiet (fail)
        go_wp2_with fail
        go_region
        all_goals (
          go_wp2_with fail
          refine bodyPost_ret (v := .tuple #[fv i (v : Int), .bool b]) ?_ rfl ⟨rfl, ?_, ?_⟩
          · rw [results_cell_tmp rfl]; go_simp
          · repeat' (first | with_reducible exact hfin _ | with_reducible refine Rd.drew ?_ | refine Rd.set ?_ (by omega) (by omega) _ _)
          · repeat' (first | with_reducible exact hxf _ | with_reducible refine Ex.drew ?_ | refine Ex.set ?_ (by omega) _ _))
end
end Go.Proofs.YtceeimolfalmpaaDoor

namespace Go.Proofs.YtceeimolfalmpaaDoor
open Go.RowKit ObUtf ObSets ObLex

set_option maxHeartbeats 400000 in
theorem within_bad (a v lo hi : Int) (w : World) (h : v < lo ∨ hi < v) : Calls Tryd.prog 58 #[fv a v, .int .i64 lo, .int .i64 hi] w fun e w' => e = .returned (fv 7 a) ∧ Below w.heap.size w w' := by
  rcases (show v < lo ∨ (lo ≤ v ∧ hi < v) by omega) with h | ⟨h1, h2⟩
  · have d1 : decide (v < lo) = true := decide_eq_true h
    go_enter Tryd.func58, Tryd.ntmps58
    go_wp2_with fail
    refine bodyPost_ret (v := fv 7 a) ?_ rfl ⟨rfl, ?_⟩
    · rw [S.results_cell1 rfl]; go_simp
    · repeat' (first | exact Below.refl _ _ | refine Below.drew ?_ | refine Below.alloc ?_ (by simp <;> omega) _ | refine Below.setCell ?_ (by simp) _)
  · have d1 : decide (v < lo) = false := decide_eq_false (by omega)
    have d2 : decide (hi < v) = true := decide_eq_true h2
    go_enter Tryd.func58, Tryd.ntmps58
    go_wp2_with fail
    refine bodyPost_ret (v := fv 7 a) ?_ rfl ⟨rfl, ?_⟩
    · rw [S.results_cell1 rfl]; go_simp
    · repeat' (first | exact Below.refl _ _ | refine Below.drew ?_ | refine Below.alloc ?_ (by simp <;> omega) _ | refine Below.setCell ?_ (by simp) _)
set_option maxHeartbeats 400000 in
theorem within_ok (a v lo hi : Int) (w : World) (h1 : lo ≤ v) (h2 : v ≤ hi) : Calls Tryd.prog 58 #[fv a v, .int .i64 lo, .int .i64 hi] w fun e w' => e = .returned (fv 0 0) ∧ Below w.heap.size w w' := by
  have d1 : decide (v < lo) = false := decide_eq_false (by omega)
  have d2 : decide (hi < v) = false := decide_eq_false (by omega)
  go_enter Tryd.func58, Tryd.ntmps58
  go_wp2_with fail
  refine bodyPost_ret (v := fv 0 0) ?_ rfl ⟨rfl, ?_⟩
  · rw [S.results_cell1 rfl]; go_simp
  · repeat' (first | exact Below.refl _ _ | refine Below.drew ?_ | refine Below.alloc ?_ (by simp <;> omega) _ | refine Below.setCell ?_ (by simp) _)
/-- A number's fault: its code, its place. -/
def wE (v lo hi : Int) : Int := if v < lo ∨ hi < v then 7 else 0
def wA (a v lo hi : Int) : Int := if v < lo ∨ hi < v then a else 0
theorem within_any (a v lo hi : Int) (w : World) : Calls Tryd.prog 58 #[fv a v, .int .i64 lo, .int .i64 hi] w fun e w' => e = .returned (fv (wE v lo hi) (wA a v lo hi)) ∧ Below w.heap.size w w' := by
  unfold wE wA
  by_cases h : v < lo ∨ hi < v
  · rw [if_pos h, if_pos h]; exact within_bad a v lo hi w h
  · rw [if_neg h, if_neg h]; exact within_ok a v lo hi w (by omega) (by omega)
set_option maxHeartbeats 400000 in
theorem first_any (e1 a1 e2 a2 : Int) (w : World) : Calls Tryd.prog 59 #[fv e1 a1, fv e2 a2] w fun e w' => e = .returned (fv (if e1 = 0 then e2 else e1) (if e1 = 0 then a2 else a1)) ∧ Below w.heap.size w w' := by
  by_cases h : e1 = 0
  · rw [if_pos h, if_pos h]
    have d1 : (e1 != 0) = false := by simp [h]
    clear h
    go_enter Tryd.func59, Tryd.ntmps59
    go_wp2_with fail
    refine bodyPost_ret (v := fv e2 a2) ?_ rfl ⟨rfl, ?_⟩
    · rw [S.results_cell1 rfl]; go_simp
    · repeat' (first | exact Below.refl _ _ | refine Below.drew ?_ | refine Below.alloc ?_ (by simp <;> omega) _ | refine Below.setCell ?_ (by simp) _)
  · rw [if_neg h, if_neg h]
    have d1 : (e1 != 0) = true := by simp [h]
    clear h
    go_enter Tryd.func59, Tryd.ntmps59
    go_wp2_with fail
    refine bodyPost_ret (v := fv e1 a1) ?_ rfl ⟨rfl, ?_⟩
    · rw [S.results_cell1 rfl]; go_simp
    · repeat' (first | exact Below.refl _ _ | refine Below.drew ?_ | refine Below.alloc ?_ (by simp <;> omega) _ | refine Below.setCell ?_ (by simp) _)
section
variable {w : World} {c : Nat} {s : ByteArray} {i : Nat}
set_option maxHeartbeats 1000000 in
set_option maxRecDepth 100000 in
theorem budgetForm_no (h : Rd w c s i) (hf : dg s i = 0 ∨ bt s (i + dg s i) ≠ 125) : Calls Tryd.prog 42 #[ptr c] w fun e w' => ∃ er a, e = .returned (.tuple #[tv 0 0 nls 0 0, fv er a, .bool false]) ∧ Ex c w w' := by
  have hlt := h.lt
  have h2 := h.2.1
  have HT := Lib.hid (w0_tok w)
  have HF := Lib.hid (w0_fault w)
  have HX0 := Lib.hid (Ex.of (c := c) (w0_below w))
  have HN := Lib.hid (number_any h.w0)
  clear h
  rcases (show dg s i = 0 ∨ (0 < dg s i ∧ bt s (i + dg s i) ≠ 125) by omega) with h0 | ⟨h0, h1⟩
  · rw [show decide (0 < dg s i) = false from decide_eq_false (by omega)] at HN
    clear h0 hf
    generalize num s i = v at *
    generalize dg s i = d at *
    go_enter Tryd.func42, Tryd.ntmps42
    go_wp2_with fail
    refine HN.out.mono ?_
    rintro e w1 ⟨rfl, hR1, hx1⟩
    obtain ⟨⟨t0, t1, t2, t3, t4⟩, f0, f1, f2, f3, f4⟩ := blk5 (keepB HT.out hx1 (by omega))
    obtain ⟨q0, q1, q2, q3⟩ := blk2 (keepB HF.out hx1 (by omega))
    have hs1 : w.heap.size < w1.heap.size := lt_of_heap (keepB HT.out hx1 (by omega))
    have hs2 : w.heap.size + 1 < w1.heap.size := lt_of_heap (keepB HF.out hx1 (by omega))
    have hx := HX0.out.trans hx1
    go_wp2_with fail
    refine bodyPost_ret (v := .tuple #[tv 0 0 nls 0 0, fv 0 0, .bool false]) ?_ rfl ⟨_, _, rfl, ?_⟩
    · rw [results_cct rfl]; go_simp
    · repeat' (first | with_reducible exact hx | with_reducible refine Ex.alloc ?_ _ | with_reducible refine Ex.drew ?_ | refine Ex.set ?_ (by omega) _ _)
  · rw [show decide (0 < dg s i) = true from decide_eq_true h0] at HN
    have H1 := Lib.hid h1
    clear h0 hf h1
    generalize num s i = v at *
    generalize dg s i = d at *
    go_enter Tryd.func42, Tryd.ntmps42
    go_wp2_with fail
    refine HN.out.mono ?_
    rintro e w1 ⟨rfl, hR1, hx1⟩
    have hT1 := keepB HT.out hx1 (by omega)
    have hF1 := keepB HF.out hx1 (by omega)
    go_wp2_with fail
    refine (skip_no (hR1.alloc _) 125 H1.out).mono ?_
    rintro e w2 ⟨rfl, hR2, hx2⟩
    have hx12 := ((Ex.refl c w1).alloc _).trans hx2
    obtain ⟨⟨t0, t1, t2, t3, t4⟩, f0, f1, f2, f3, f4⟩ := blk5 (keepB hT1 hx12 (by omega))
    obtain ⟨q0, q1, q2, q3⟩ := blk2 (keepB hF1 hx12 (by omega))
    have hs1 : w.heap.size < w2.heap.size := lt_of_heap (keepB hT1 hx12 (by omega))
    have hs2 : w.heap.size + 1 < w2.heap.size := lt_of_heap (keepB hF1 hx12 (by omega))
    have hx := HX0.out.trans (hx1.trans hx12)
    go_wp2_with fail
    refine bodyPost_ret (v := .tuple #[tv 0 0 nls 0 0, fv 0 0, .bool false]) ?_ rfl ⟨_, _, rfl, ?_⟩
    · rw [results_cct rfl]; go_simp
    · repeat' (first | with_reducible exact hx | with_reducible refine Ex.alloc ?_ _ | with_reducible refine Ex.drew ?_ | refine Ex.set ?_ (by omega) _ _)
set_option maxHeartbeats 1000000 in
set_option maxRecDepth 100000 in
theorem budgetForm_yes (h : Rd w c s i) (h0 : 0 < dg s i) (hf : bt s (i + dg s i) = 125) {v : Nat} (hv : v = min (num s i) 511) :
    Calls Tryd.prog 42 #[ptr c] w fun e w' => e = .returned (.tuple #[tv 7 0 nls (v : Int) 0, fv (wE v 0 255) (wA i v 0 255), .bool true]) ∧ Rd w' c s (i + dg s i + 1) ∧ Ex c w w' := by
  have hlt := h.lt
  have h2 := h.2.1
  have HT := Lib.hid (w0_tok w)
  have HF := Lib.hid (w0_fault w)
  have HX0 := Lib.hid (Ex.of (c := c) (w0_below w))
  have HN := Lib.hid (number_any h.w0)
  rw [show decide (0 < dg s i) = true from decide_eq_true h0, ← hv] at HN
  have H1 := Lib.hid hf
  have HW := Lib.hid (within_any (i : Int) (v : Int) 0 255)
  clear h h0 hf hv
  generalize wE (v : Int) 0 255 = er at *
  generalize wA (i : Int) (v : Int) 0 255 = ea at *
  generalize dg s i = d at *
  go_enter Tryd.func42, Tryd.ntmps42
  go_wp2_with fail
  refine HN.out.mono ?_
  rintro e w1 ⟨rfl, hR1, hx1⟩
  have hT1 := keepB HT.out hx1 (by omega)
  have hF1 := keepB HF.out hx1 (by omega)
  go_wp2_with fail
  refine (skip_yes (hR1.alloc _) 125 H1.out (by omega)).mono ?_
  rintro e w2 ⟨rfl, hR2, hx2⟩
  have hx12 := ((Ex.refl c w1).alloc _).trans hx2
  have hT2 := keepB hT1 hx12 (by omega)
  have hF2 := keepB hF1 hx12 (by omega)
  obtain ⟨⟨t0, t1, t2, t3, t4⟩, f0, f1, f2, f3, f4⟩ := blk5 hT2
  obtain ⟨q0, q1, q2, q3⟩ := blk2 hF2
  have hN2 := keepB (heap_new w1 (.cells #[.int .i64 (i : Int), .int .i64 (v : Int)] 87)) hx2 (by have := lt_of_heap hT1; omega)
  obtain ⟨n0, n1, n2, n3⟩ := blk2 hN2
  have hs0 : w.heap.size < w1.heap.size := lt_of_heap hT1
  have hs3 : w.heap.size + 1 < w1.heap.size := lt_of_heap hF1
  have hs1 : w.heap.size < w2.heap.size := lt_of_heap hT2
  have hs2 : w.heap.size + 1 < w2.heap.size := lt_of_heap hF2
  have hx := HX0.out.trans (hx1.trans hx12)
  have HT2 := Lib.hid hT2; have HF2 := Lib.hid hF2; have HN2 := Lib.hid hN2
  clear hT2 hF2 hN2 hT1 hF1
  go_wp2_with fail
  go_region_with (go_at_call 58; refine (HW.out _).mono ?_; rintro e w3 ⟨rfl, hb3⟩; obtain ⟨⟨t0', t1', t2', t3', t4'⟩, f0', f1', f2', f3', f4'⟩ := blk5 (keepL HT2.out (undrew hb3)); obtain ⟨q0', q1', q2', q3'⟩ := blk2 (keepL HF2.out (undrew hb3)); obtain ⟨n0', n1', n2', n3'⟩ := blk2 (keepL HN2.out (undrew hb3)))
  all_goals (
    have hR3 := hR2.on (undrew hb3)
    have hx3 := hx.on (undrew hb3)
    go_wp2_with fail
    refine bodyPost_ret (v := .tuple #[tv 7 0 nls (v : Int) 0, fv er ea, .bool true]) ?_ rfl ⟨rfl, ?_, ?_⟩
    · rw [results_cct rfl]; go_simp
    · repeat' (first | with_reducible exact hR3 | with_reducible refine Rd.drew ?_ | refine Rd.set ?_ (by omega) (by omega) _ _)
    · repeat' (first | with_reducible exact hx3 | with_reducible refine Ex.alloc ?_ _ | with_reducible refine Ex.drew ?_ | refine Ex.set ?_ (by omega) _ _))
end
end Go.Proofs.YtceeimolfalmpaaDoor
