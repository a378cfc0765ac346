/-
  What the reader's class answers and leaves where the class has items. Conditions: the reader's block is as it should be and stands at a [; the two tables of unicode/utf8 lie as their text lays them.
-/
import Derived.Test.YtceeimolfalmpaaDoorLD
namespace Go.Proofs.YtceeimolfalmpaaDoor
open Go.RowKit ObUtf ObSets ObLex
/-- A class's word. -/
def clsW (i : Nat) (f : List R → List R) (to : Nat) : Res (List R) → Res (T × Nat)
  | .error e => .error e
  | .ok l => .ok (⟨1, (i : Int), f l, 0, 0⟩, to + 1)
section
variable {w : World} {c : Nat} {s : ByteArray} {i : Nat}
set_option maxHeartbeats 2000000 in
set_option maxRecDepth 100000 in
theorem class_not (h : Rd w c s i) (h91 : bt s i = 91) (h94 : bt s (i + 1) = 94) {to : Nat} (he : cend s (i + 1) = some to) (hto : to ≠ i + 2) {r : Res (List R)} (hr : items s to (i + 2) = r) {rr : Res (T × Nat)} (hrr : rr = clsW i notL to r) :
    Calls Tryd.prog 18 #[ptr c] w (RetW rr c s w) := by
  have hlt := h.lt
  have h2 := h.2.1
  have hsz := h.2.2.2.2
  obtain ⟨c0, c1, _⟩ := h.w0.cells
  have HE := Lib.hid (classEnd_any h.w0 (T := to) (b := true) (.inl ⟨to, (cend_open h91).trans he, rfl, rfl⟩))
  have HT := Lib.hid (w0_tok w)
  have HF := Lib.hid (w0_fault w)
  have HX0 := Lib.hid (Ex.of (c := c) (w0_below w))
  have HS0 := Lib.hid (w0_size w)
  have HR := Lib.hid h.w0
  have H91 := Lib.hid h91
  have hcf : cend s (i + 2) = some to := by
    have := cend_from (s := s) (i := i + 1)
    rw [if_pos h94] at this
    exact this.trans he
  have HCF := Lib.hid hcf
  have hto2 := cend_some hcf
  have HRS := Lib.hid hr
  have HRW := Lib.hid hrr
  clear h h91 he hcf hr hrr
  have e1 : (((i : Int) + 1 + 1) == (to : Int)) = false := beq_eq_false_iff_ne.2 (by omega)
  go_enter Tryd.func18, Tryd.ntmps18
  go_wp2_with fail
  refine HE.out.mono ?_
  rintro e w1 ⟨rfl, hb1⟩
  go_wp2_with fail
  refine (take_low (HR.out.on hb1) H91.out (by omega) (by omega)).mono ?_
  rintro e w2 ⟨rfl, hR2, hx2⟩
  go_wp2_with fail
  refine (skip_yes hR2 94 h94 (by omega)).mono ?_
  rintro e w3 ⟨rfl, hR3, hx3⟩
  obtain ⟨u0, u1, _⟩ := hR3.cells
  have HX3 := Lib.hid ((Ex.of (c := c) hb1).trans (hx2.trans hx3))
  have HR3 := Lib.hid hR3
  clear hR3 hR2 hx2 hx3 hb1
  go_wp2_with fail
  clear u0 u1 c0 c1
  go_loopw [8] (fun v wr => ∃ (p : Nat) (l : List R), Hid (S.Ow wr (W0 w).heap.size v l) ∧ Hid (Rd wr c s p) ∧ Hid (cend s p = some to) ∧ Hid (r = pre l (items s to p)) ∧ Hid (Ex c (W0 w) wr) ∧ Hid (l.length ≤ 5 * p) ∧ Hid (wr.cell? ⟨c, 1, none⟩ = some (.int .i64 (p : Int)))) (fun _ wr => to + 1 - (intOf ((wr.cell? ⟨c, 1, none⟩).getD (.int .i64 0))).toNat)
  case atStart => exact ⟨i + 1 + 1, [], S.Ow.nil _ _, HR3.out, HCF.out, by rw [pre_nil]; exact HRS.out.symm, HX3.out, Nat.zero_le _, HR3.out.cells.2.1⟩
  case round =>
    obtain ⟨p, l, HO, HP, HC, HI, HX, HL, HU⟩ := hrel
    have u1 := HU.out
    have hm : to + 1 - (intOf ((wr.cell? ⟨c, 1, none⟩).getD (.int .i64 0))).toNat = to + 1 - p := by rw [u1]; simp [intOf]
    rw [hm]
    clear hm
    have hple := (cend_some HC.out).1
    by_cases hpt : p < to
    · have d1 : decide (p < to) = true := decide_eq_true hpt
      have HIT := Lib.hid (item_any HP.out (cend_lt HC.out) (item_in HC.out))
      cases hit : item s p with
      | error f =>
        obtain ⟨er, a⟩ := f
        rw [hit] at HIT
        have HRR := HI.out
        rw [items_bad hpt hit] at HRR
        simp only [pre] at HRR
        subst HRR
        have hrw : rr = .error (er, a) := HRW.out
        subst hrw
        clear HI hit HRW
        go_wp2_with fail
        refine HIT.out.mono ?_
        rintro e w4 ⟨rfl, ⟨j, hR4⟩, hx4, hee⟩
        have en : (er != 0) = true := by simp; omega
        have hx5 := HX.out.trans hx4
        have hx := HX0.out.trans hx5
        obtain ⟨⟨t0, t1, t2, t3, t4⟩, f0, f1, f2, f3, f4⟩ := blk5 (keepB HT.out hx5 (by omega))
        obtain ⟨q0, q1, q2, q3⟩ := blk2 (keepB HF.out hx5 (by omega))
        have hz5 := hx5.size
        rw [HS0.out] at hz5
        have hs4 : w.heap.size < w4.heap.size := by omega
        have hs5 : w.heap.size + 1 < w4.heap.size := by omega
        go_wp2_with fail
        go_region
        all_goals (
          go_wp2_with fail
          refine bodyPost_ret (v := .tuple #[tv 0 0 nls 0 0, fv er (a : Int)]) ?_ rfl ⟨rfl, ?_, by omega⟩
          · rw [results_cc rfl]; go_simp
          · repeat' (first | with_reducible exact hx | with_reducible refine Ex.alloc ?_ _ | with_reducible refine Ex.drew ?_ | refine Ex.set ?_ (by omega) _ _))
      | ok y =>
        obtain ⟨m, q⟩ := y
        rw [hit] at HIT
        have hnx := item_next HC.out hit
        have hml := item_len hit
        have HI2 := Lib.hid (show r = pre (l ++ m) (items s to q) by rw [HI.out, items_ok hpt hit hnx.1, pre_pre])
        have hqle := (cend_some hnx.2).1
        clear HI hit
        go_wp2_with fail
        refine HIT.out.mono ?_
        rintro e w4 ⟨A, k, rfl, ho4, hR4, hx4⟩
        have hx5 := HX.out.trans hx4
        have hcB : c < (W0 w).heap.size := by rw [HS0.out]; omega
        have hBz := HX.out.size
        have hown := (HO.out.ex hx4 hcB).new fo
        obtain ⟨A', k', hv, _, _, hrg, _⟩ := (ho4.new fo).shape
        injection hv with hv1 hv2 hv3
        subst hv1 hv3
        clear hv2
        obtain ⟨v', w5, hrun, hown', hg⟩ := S.append_src (c := k) 34 hown hrg (S.rgs_none hrg) (by have := HL.out; omega) (by have := hx4.size; simp; simp at hBz; omega)
        have hbg := below_grown hg (B := (W0 w).heap.size) (by have := hx4.size; simp; simp at hBz; omega) (fun k hk => (hown.lt k hk).1)
        have HRUN := Lib.hid hrun
        have HO5 := Lib.hid hown'
        have HR5 := Lib.hid ((hR4.alloc fo).upto hbg hcB)
        have HX5 := Lib.hid ((hx5.alloc fo).upto hbg)
        clear hrun hown' hown hrg hg hbg ho4
        have HL5 := Lib.hid (show (l ++ m).length ≤ 5 * q by have := HL.out; simp; omega)
        generalize m.length = n at *
        go_wp2_with (at_builtin; refine Lib.wpList_append_run _ rfl _ _ _ _ rfl _ _ rfl rfl _ _ HRUN.out ?_)
        have u5 := HR5.out.cells.2.1
        go_roundw
        case rel => exact ⟨q, l ++ m, HO5.out, HR5.out, hnx.2, HI2.out, HX5.out, HL5.out, u5⟩
        case measure => rw [u5]; simp [intOf]; omega
    · have d1 : decide (p < to) = false := decide_eq_false hpt
      obtain rfl : p = to := by omega
      have HRR := HI.out
      rw [items_end (Nat.le_refl _)] at HRR
      simp only [pre, List.append_nil] at HRR
      subst HRR
      clear HI
      have hl5 := HL.out
      have h93 := Lib.hid (cend_some HC.out).2.2
      have hcB : c < (W0 w).heap.size := by rw [HS0.out]; omega
      have HCON := Lib.hid (fun (A : Option Addr) (k : Nat) (W : World) (h : S.Rgs W W.heap.size A l) => S.not_any A k l W h (by omega))
      obtain ⟨m, hm⟩ : ∃ m, m = notL l := ⟨_, rfl⟩
      rw [← hm] at HCON
      have hrw : rr = .ok (⟨1, (i : Int), m, 0, 0⟩, p + 1) := by rw [HRW.out, hm]; rfl
      subst hrw
      clear hm HRW
      obtain ⟨A0, k0, hv0, _⟩ := HO.out.shape
      subst hv0
      go_wp2_with fail
      refine (take_low HP.out h93.out (by omega) (by omega)).mono ?_
      rintro e w4 ⟨rfl, hR4, hx4⟩
      have ho4 := HO.out.ex hx4 hcB
      obtain ⟨A', k', hv, _, _, hrg, _⟩ := ho4.shape
      injection hv with hv1 hv2 hv3
      subst hv1 hv3
      clear hv2
      go_wp2_with fail
      refine (HCON.out _ _ _ hrg).mono ?_
      intro e w5 hr5
      obtain ⟨A5, k5, rfl, ho5, _, hb5⟩ := RetR.shape hr5
      go_wp2_with fail
      refine (setWord_any _ _ _ _).mono ?_
      rintro e w6 ⟨rfl, hb6⟩
      have hb56 := bel_trans hb5 hb6
      have hx5 := (HX.out.trans hx4).on hb56
      have hx := HX0.out.trans hx5
      have ho6 := ho5.below hb6
      have hR6 := hR4.on hb56
      obtain ⟨⟨t0, t1, t2, t3, t4⟩, f0, f1, f2, f3, f4⟩ := blk5 (keepB HT.out hx5 (by omega))
      obtain ⟨q0, q1, q2, q3⟩ := blk2 (keepB HF.out hx5 (by omega))
      have hz4 := (HX.out.trans hx4).size
      rw [HS0.out] at hz4
      clear hrg ho4 ho5 hr5
      generalize hmn : m.length = n at *
      go_wp2_with fail
      refine bodyPost_ret (v := .tuple #[tv 1 0 (.slice A5 n k5) 0 0, fv 0 0]) ?_ rfl ⟨A5, k5, by rw [hmn], ?_, ?_, ?_⟩
      · rw [results_cc rfl]; go_simp
      · dsimp only
        rw [hmn]
        refine S.Ow.less ?_ (show w.heap.size ≤ w4.heap.size by omega)
        repeat' (first | with_reducible exact ho6 | refine S.Ow.set ?_ (by omega) _ _)
      · repeat' (first | with_reducible exact hR6 | with_reducible refine Rd.alloc ?_ _ | with_reducible refine Rd.drew ?_ | refine Rd.set ?_ (by omega) (by omega) _ _)
      · repeat' (first | with_reducible exact hx | with_reducible refine Ex.alloc ?_ _ | with_reducible refine Ex.drew ?_ | refine Ex.set ?_ (by omega) _ _)
set_option maxHeartbeats 2000000 in
set_option maxRecDepth 100000 in
theorem class_norm (h : Rd w c s i) (h91 : bt s i = 91) (h94 : bt s (i + 1) ≠ 94) {to : Nat} (he : cend s (i + 1) = some to) (hto : to ≠ i + 1) {r : Res (List R)} (hr : items s to (i + 1) = r) {rr : Res (T × Nat)} (hrr : rr = clsW i nrm to r) :
    Calls Tryd.prog 18 #[ptr c] w (RetW rr c s w) := by
  have hlt := h.lt
  have h2 := h.2.1
  have hsz := h.2.2.2.2
  obtain ⟨c0, c1, _⟩ := h.w0.cells
  have HE := Lib.hid (classEnd_any h.w0 (T := to) (b := true) (.inl ⟨to, (cend_open h91).trans he, rfl, rfl⟩))
  have HT := Lib.hid (w0_tok w)
  have HF := Lib.hid (w0_fault w)
  have HX0 := Lib.hid (Ex.of (c := c) (w0_below w))
  have HS0 := Lib.hid (w0_size w)
  have HR := Lib.hid h.w0
  have H91 := Lib.hid h91
  have hcf : cend s (i + 1) = some to := by
    have := cend_from (s := s) (i := i + 1)
    rw [if_neg h94] at this
    exact this.trans he
  have HCF := Lib.hid hcf
  have hto2 := cend_some hcf
  have HRS := Lib.hid hr
  have HRW := Lib.hid hrr
  clear h h91 he hcf hr hrr
  have e1 : (((i : Int) + 1) == (to : Int)) = false := beq_eq_false_iff_ne.2 (by omega)
  go_enter Tryd.func18, Tryd.ntmps18
  go_wp2_with fail
  refine HE.out.mono ?_
  rintro e w1 ⟨rfl, hb1⟩
  go_wp2_with fail
  refine (take_low (HR.out.on hb1) H91.out (by omega) (by omega)).mono ?_
  rintro e w2 ⟨rfl, hR2, hx2⟩
  go_wp2_with fail
  refine (skip_no hR2 94 h94).mono ?_
  rintro e w3 ⟨rfl, hR3, hx3⟩
  obtain ⟨u0, u1, _⟩ := hR3.cells
  have HX3 := Lib.hid ((Ex.of (c := c) hb1).trans (hx2.trans hx3))
  have HR3 := Lib.hid hR3
  clear hR3 hR2 hx2 hx3 hb1
  go_wp2_with fail
  clear u0 u1 c0 c1
  go_loopw [8] (fun v wr => ∃ (p : Nat) (l : List R), Hid (S.Ow wr (W0 w).heap.size v l) ∧ Hid (Rd wr c s p) ∧ Hid (cend s p = some to) ∧ Hid (r = pre l (items s to p)) ∧ Hid (Ex c (W0 w) wr) ∧ Hid (l.length ≤ 5 * p) ∧ Hid (wr.cell? ⟨c, 1, none⟩ = some (.int .i64 (p : Int)))) (fun _ wr => to + 1 - (intOf ((wr.cell? ⟨c, 1, none⟩).getD (.int .i64 0))).toNat)
  case atStart => exact ⟨i + 1, [], S.Ow.nil _ _, HR3.out, HCF.out, by rw [pre_nil]; exact HRS.out.symm, HX3.out, Nat.zero_le _, HR3.out.cells.2.1⟩
  case round =>
    obtain ⟨p, l, HO, HP, HC, HI, HX, HL, HU⟩ := hrel
    have u1 := HU.out
    have hm : to + 1 - (intOf ((wr.cell? ⟨c, 1, none⟩).getD (.int .i64 0))).toNat = to + 1 - p := by rw [u1]; simp [intOf]
    rw [hm]
    clear hm
    have hple := (cend_some HC.out).1
    by_cases hpt : p < to
    · have d1 : decide (p < to) = true := decide_eq_true hpt
      have HIT := Lib.hid (item_any HP.out (cend_lt HC.out) (item_in HC.out))
      cases hit : item s p with
      | error f =>
        obtain ⟨er, a⟩ := f
        rw [hit] at HIT
        have HRR := HI.out
        rw [items_bad hpt hit] at HRR
        simp only [pre] at HRR
        subst HRR
        have hrw : rr = .error (er, a) := HRW.out
        subst hrw
        clear HI hit HRW
        go_wp2_with fail
        refine HIT.out.mono ?_
        rintro e w4 ⟨rfl, ⟨j, hR4⟩, hx4, hee⟩
        have en : (er != 0) = true := by simp; omega
        have hx5 := HX.out.trans hx4
        have hx := HX0.out.trans hx5
        obtain ⟨⟨t0, t1, t2, t3, t4⟩, f0, f1, f2, f3, f4⟩ := blk5 (keepB HT.out hx5 (by omega))
        obtain ⟨q0, q1, q2, q3⟩ := blk2 (keepB HF.out hx5 (by omega))
        have hz5 := hx5.size
        rw [HS0.out] at hz5
        have hs4 : w.heap.size < w4.heap.size := by omega
        have hs5 : w.heap.size + 1 < w4.heap.size := by omega
        go_wp2_with fail
        go_region
        all_goals (
          go_wp2_with fail
          refine bodyPost_ret (v := .tuple #[tv 0 0 nls 0 0, fv er (a : Int)]) ?_ rfl ⟨rfl, ?_, by omega⟩
          · rw [results_cc rfl]; go_simp
          · repeat' (first | with_reducible exact hx | with_reducible refine Ex.alloc ?_ _ | with_reducible refine Ex.drew ?_ | refine Ex.set ?_ (by omega) _ _))
      | ok y =>
        obtain ⟨m, q⟩ := y
        rw [hit] at HIT
        have hnx := item_next HC.out hit
        have hml := item_len hit
        have HI2 := Lib.hid (show r = pre (l ++ m) (items s to q) by rw [HI.out, items_ok hpt hit hnx.1, pre_pre])
        have hqle := (cend_some hnx.2).1
        clear HI hit
        go_wp2_with fail
        refine HIT.out.mono ?_
        rintro e w4 ⟨A, k, rfl, ho4, hR4, hx4⟩
        have hx5 := HX.out.trans hx4
        have hcB : c < (W0 w).heap.size := by rw [HS0.out]; omega
        have hBz := HX.out.size
        have hown := (HO.out.ex hx4 hcB).new fo
        obtain ⟨A', k', hv, _, _, hrg, _⟩ := (ho4.new fo).shape
        injection hv with hv1 hv2 hv3
        subst hv1 hv3
        clear hv2
        obtain ⟨v', w5, hrun, hown', hg⟩ := S.append_src (c := k) 34 hown hrg (S.rgs_none hrg) (by have := HL.out; omega) (by have := hx4.size; simp; simp at hBz; omega)
        have hbg := below_grown hg (B := (W0 w).heap.size) (by have := hx4.size; simp; simp at hBz; omega) (fun k hk => (hown.lt k hk).1)
        have HRUN := Lib.hid hrun
        have HO5 := Lib.hid hown'
        have HR5 := Lib.hid ((hR4.alloc fo).upto hbg hcB)
        have HX5 := Lib.hid ((hx5.alloc fo).upto hbg)
        clear hrun hown' hown hrg hg hbg ho4
        have HL5 := Lib.hid (show (l ++ m).length ≤ 5 * q by have := HL.out; simp; omega)
        generalize m.length = n at *
        go_wp2_with (at_builtin; refine Lib.wpList_append_run _ rfl _ _ _ _ rfl _ _ rfl rfl _ _ HRUN.out ?_)
        have u5 := HR5.out.cells.2.1
        go_roundw
        case rel => exact ⟨q, l ++ m, HO5.out, HR5.out, hnx.2, HI2.out, HX5.out, HL5.out, u5⟩
        case measure => rw [u5]; simp [intOf]; omega
    · have d1 : decide (p < to) = false := decide_eq_false hpt
      obtain rfl : p = to := by omega
      have HRR := HI.out
      rw [items_end (Nat.le_refl _)] at HRR
      simp only [pre, List.append_nil] at HRR
      subst HRR
      clear HI
      have hl5 := HL.out
      have h93 := Lib.hid (cend_some HC.out).2.2
      have hcB : c < (W0 w).heap.size := by rw [HS0.out]; omega
      have HCON := Lib.hid (fun (A : Option Addr) (k : Nat) (W : World) (h : S.Rgs W W.heap.size A l) => S.norm_any A k l W h (by omega))
      obtain ⟨m, hm⟩ : ∃ m, m = nrm l := ⟨_, rfl⟩
      rw [← hm] at HCON
      have hrw : rr = .ok (⟨1, (i : Int), m, 0, 0⟩, p + 1) := by rw [HRW.out, hm]; rfl
      subst hrw
      clear hm HRW
      obtain ⟨A0, k0, hv0, _⟩ := HO.out.shape
      subst hv0
      go_wp2_with fail
      refine (take_low HP.out h93.out (by omega) (by omega)).mono ?_
      rintro e w4 ⟨rfl, hR4, hx4⟩
      have ho4 := HO.out.ex hx4 hcB
      obtain ⟨A', k', hv, _, _, hrg, _⟩ := ho4.shape
      injection hv with hv1 hv2 hv3
      subst hv1 hv3
      clear hv2
      go_wp2_with fail
      refine (HCON.out _ _ _ hrg).mono ?_
      intro e w5 hr5
      obtain ⟨A5, k5, rfl, ho5, _, hb5⟩ := RetR.shape hr5
      go_wp2_with fail
      refine (setWord_any _ _ _ _).mono ?_
      rintro e w6 ⟨rfl, hb6⟩
      have hb56 := bel_trans hb5 hb6
      have hx5 := (HX.out.trans hx4).on hb56
      have hx := HX0.out.trans hx5
      have ho6 := ho5.below hb6
      have hR6 := hR4.on hb56
      obtain ⟨⟨t0, t1, t2, t3, t4⟩, f0, f1, f2, f3, f4⟩ := blk5 (keepB HT.out hx5 (by omega))
      obtain ⟨q0, q1, q2, q3⟩ := blk2 (keepB HF.out hx5 (by omega))
      have hz4 := (HX.out.trans hx4).size
      rw [HS0.out] at hz4
      clear hrg ho4 ho5 hr5
      generalize hmn : m.length = n at *
      go_wp2_with fail
      refine bodyPost_ret (v := .tuple #[tv 1 0 (.slice A5 n k5) 0 0, fv 0 0]) ?_ rfl ⟨A5, k5, by rw [hmn], ?_, ?_, ?_⟩
      · rw [results_cc rfl]; go_simp
      · dsimp only
        rw [hmn]
        refine S.Ow.less ?_ (show w.heap.size ≤ w4.heap.size by omega)
        repeat' (first | with_reducible exact ho6 | refine S.Ow.set ?_ (by omega) _ _)
      · repeat' (first | with_reducible exact hR6 | with_reducible refine Rd.alloc ?_ _ | with_reducible refine Rd.drew ?_ | refine Rd.set ?_ (by omega) (by omega) _ _)
      · repeat' (first | with_reducible exact hx | with_reducible refine Ex.alloc ?_ _ | with_reducible refine Ex.drew ?_ | refine Ex.set ?_ (by omega) _ _)
theorem class_any (h : Rd w c s i) (h91 : bt s i = 91) : Calls Tryd.prog 18 #[ptr c] w (RetW (match cls s i with | .error f => .error f | .ok (l, j) => .ok (⟨1, (i : Int), l, 0, 0⟩, j)) c s w) := by
  unfold cls
  cases he : cend s (i + 1) with
  | none => exact class_noend h h91 he
  | some to =>
    dsimp only
    by_cases h94 : bt s (i + 1) = 94
    · simp only [h94, if_true]
      by_cases hto : to = i + 2
      · rw [if_pos hto]; exact class_empty h h91 he (by rw [if_pos h94]; exact hto)
      · rw [if_neg hto]
        have := class_not h h91 h94 he hto rfl rfl
        cases hr : items s to (i + 2) with
        | error f => rw [hr] at this; exact this
        | ok l => rw [hr] at this; exact this
    · simp only [h94, if_false]
      by_cases hto : to = i + 1
      · rw [if_pos hto]; exact class_empty h h91 he (by rw [if_neg h94]; exact hto)
      · rw [if_neg hto]
        have := class_norm h h91 h94 he hto rfl rfl
        cases hr : items s to (i + 1) with
        | error f => rw [hr] at this; exact this
        | ok l => rw [hr] at this; exact this
end
end Go.Proofs.YtceeimolfalmpaaDoor
