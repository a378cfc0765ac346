/-
  The law SetsOps, walked: for every two slices of ranges the call answers true, and what was lies as it did. Conditions: the slices' capacities are lengths that a program may have.
-/
import Derived.Test.YtfjcljhodnkieaaW21
namespace Go.Proofs.Ytfjcljhodnkieaa
open Go.RowKit ObSets

/-- A copy of a slice, by append onto a new one. -/
theorem copy_of {w : World} {A : Option Addr} {c : Nat} {l : List R} (ty : TypeId) (h : Rgs w w.heap.size A l) (hl : l.length ≤ 1000) :
    ∃ v w', (Builtin.append_ #[22, 22] ty #[.slice (some ⟨w.heap.size, 0, none⟩) 0 0, .slice A l.length c]).run Try.prog (w.alloc (.cells #[] 32)) = .ok v w' ∧ Ow w' w.heap.size v l ∧ Below w.heap.size w w' ∧ w.heap.size ≤ w'.heap.size := by
  have hb0 := (Below.refl w.heap.size w).alloc (Nat.le_refl _) (.cells #[] 32)
  obtain ⟨v1, w1, hrun1, hown1, hg1⟩ := append_src (c := c) ty (made_none w) (h.on hb0) (rgs_none h) (by simp; omega) (by simp)
  obtain ⟨o1, hb1⟩ := cat_rel hb0 (made_none w) hg1 hown1
  rw [List.nil_append] at o1
  exact ⟨v1, w1, hrun1, o1, hb1, hb1.size⟩
theorem and_dm (a b : List R) : andL a b = notL (orL (notL a) (notL b)) := by
  refine once (andL_ok a b).1 (notL_ok _).1 fun x => ?_
  rw [(andL_ok a b).2, (notL_ok _).2, (orL_ok _ _).2, (notL_ok a).2, (notL_ok b).2]
  cases ha : has a x with
  | true => rw [has_sym ha]; cases has b x <;> simp
  | false => cases sym x <;> simp

set_option maxHeartbeats 4000000 in
set_option maxRecDepth 100000 in
theorem ops_walk (A1 A2 : Option Addr) (n1 n2 c1 c2 : Nat) (l1 l2 : List R) (w : World) (hn1 : l1.length = n1) (hc1 : n1 ≤ c1) (hm1 : c1 ≤ maxLen) (h1 : Rgs w w.heap.size A1 (l1.take 8)) (hA1 : A1 = none → l1 = [])
    (hn2 : l2.length = n2) (hc2 : n2 ≤ c2) (hm2 : c2 ≤ maxLen) (h2 : Rgs w w.heap.size A2 (l2.take 8)) (hA2 : A2 = none → l2 = []) :
    Calls Try.prog 4 #[.slice A1 n1 c1, .slice A2 n2 c2] w fun e w' => e = .returned (.bool true) ∧ Below w.heap.size w w' := by
  obtain ⟨la, ea⟩ : ∃ la, l1.take 8 = la := ⟨_, rfl⟩
  obtain ⟨lb, eb⟩ : ∃ lb, l2.take 8 = lb := ⟨_, rfl⟩
  have hla : la.length ≤ 1000 := by rw [← ea, List.length_take]; omega
  have hlb : lb.length ≤ 1000 := by rw [← eb, List.length_take]; omega
  have q1 := orL_len la lb; have q2 := andL_len la lb; have q3 := notL_len la; have q4 := foldL_len lb
  have HB0 := Lib.hid (Below.refl w.heap.size w)
  go_enter Try.func4, Try.ntmps4
  go_wp2_with fail
  refine (set_any A1 n1 c1 8 l1 w hn1 hc1 hm1 h1 hA1 (by omega)).mono ?_
  rintro e w1 ⟨v1, rfl, ho1, hb1⟩
  rw [ea] at ho1
  obtain ⟨B1, d1, rfl, r1⟩ := shape_of ho1
  clear ho1
  have HA1 := Lib.hid hb1
  have HB1 := Lib.hid (bel_trans HB0.out HA1.out)
  clear hb1
  have Q1 := Lib.hid r1
  clear r1
  go_wp2_with fail
  refine (set_any A2 n2 c2 8 l2 _ hn2 hc2 hm2 (h2.on HB1.out) hA2 (by omega)).mono ?_
  rintro e w2 ⟨v2, rfl, ho2, hb2⟩
  rw [eb] at ho2
  obtain ⟨B2, d2, rfl, r2⟩ := shape_of ho2
  clear ho2
  have HA2 := Lib.hid hb2
  have HB2 := Lib.hid (bel_trans HB1.out HA2.out)
  clear hb2
  have Q1_2 := Lib.hid (Q1.out.on HA2.out)
  clear Q1
  have Q2 := Lib.hid r2
  clear r2
  clear hn1 hc1 hm1 h1 hA1 hn2 hc2 hm2 h2 hA2 ea eb
  obtain ⟨X1, x1, hx1, ox1, bx1, rx1⟩ := copy_of 22 Q1_2.out hla (c := d1)
  have HX1 := Lib.hid hx1; have BX1 := Lib.hid bx1; have RX1 := Lib.hid rx1; have SX1 := Lib.hid ox1
  clear hx1 bx1 rx1 ox1
  obtain ⟨Y1, y1, hy1, oy1, by1, ry1⟩ := copy_of 22 (Q2.out.on BX1.out) hlb (c := d2)
  have HY1 := Lib.hid hy1; have BY1 := Lib.hid by1; have RY1 := Lib.hid ry1; have SY1 := Lib.hid oy1
  clear hy1 by1 ry1 oy1
  go_wp2_with (first | (at_builtin; refine Lib.wpList_append_run _ rfl _ _ _ _ rfl _ _ rfl rfl _ _ HX1.out ?_; clear HX1) | (at_builtin; refine Lib.wpList_append_run _ rfl _ _ _ _ rfl _ _ rfl rfl _ _ HY1.out ?_))
  obtain ⟨BX, dX, rfl, rX⟩ := shape_of SX1.out
  obtain ⟨BY, dY, rfl, rY⟩ := shape_of SY1.out
  have HBc := Lib.hid (bel_trans (bel_trans HB2.out BX1.out) BY1.out)
  have La := Lib.hid ((Q1_2.out.on BX1.out).on BY1.out)
  have Lb := Lib.hid ((Q2.out.on BX1.out).on BY1.out)
  have Lx := Lib.hid (rX.on BY1.out)
  have Ly := Lib.hid rY
  clear rX rY Q1_2 Q2 RX1 RY1 HY1 SX1 SY1
  go_wp2_with fail
  refine (or_any BX BY dX dY la lb _ Lx.out Ly.out (by omega)).mono ?_
  rintro e w3 ⟨v3, rfl, ho3, hb3⟩
  obtain ⟨B3, d3, rfl, r3⟩ := shape_of ho3
  clear ho3
  have HA3 := Lib.hid hb3
  have HB3 := Lib.hid (bel_trans HBc.out HA3.out)
  clear hb3
  have La_3 := Lib.hid (La.out.on HA3.out)
  clear La
  have Lb_3 := Lib.hid (Lb.out.on HA3.out)
  clear Lb
  have Lx_3 := Lib.hid (Lx.out.on HA3.out)
  clear Lx
  have Ly_3 := Lib.hid (Ly.out.on HA3.out)
  clear Ly
  have Q3 := Lib.hid r3
  clear r3
  go_wp2_with fail
  refine (ror_any B1 B2 d1 d2 la lb _ La_3.out Lb_3.out (by omega)).mono ?_
  rintro e w4 ⟨v4, rfl, ho4, hb4⟩
  obtain ⟨B4, d4, rfl, r4⟩ := shape_of ho4
  clear ho4
  have HA4 := Lib.hid hb4
  have HB4 := Lib.hid (bel_trans HB3.out HA4.out)
  clear hb4
  have La_4 := Lib.hid (La_3.out.on HA4.out)
  clear La_3
  have Lb_4 := Lib.hid (Lb_3.out.on HA4.out)
  clear Lb_3
  have Lx_4 := Lib.hid (Lx_3.out.on HA4.out)
  clear Lx_3
  have Ly_4 := Lib.hid (Ly_3.out.on HA4.out)
  clear Ly_3
  have Q3_4 := Lib.hid (Q3.out.on HA4.out)
  clear Q3
  have Q4 := Lib.hid r4
  clear r4
  go_wp2_with fail
  refine (eqset_any _ _ _ _ (orL la lb) (orL la lb) _ Q3_4.out Q4.out (by omega) (by omega)).mono ?_
  rintro e w5 ⟨rfl, hb5⟩
  rw [show decide (orL la lb = orL la lb) = true from decide_eq_true rfl]
  have HA5 := Lib.hid hb5
  have HB5 := Lib.hid (bel_trans HB4.out HA5.out)
  clear hb5
  have La_5 := Lib.hid (La_4.out.on HA5.out)
  clear La_4
  have Lb_5 := Lib.hid (Lb_4.out.on HA5.out)
  clear Lb_4
  have Lx_5 := Lib.hid (Lx_4.out.on HA5.out)
  clear Lx_4
  have Ly_5 := Lib.hid (Ly_4.out.on HA5.out)
  clear Ly_4
  have Q3_5 := Lib.hid (Q3_4.out.on HA5.out)
  clear Q3_4
  have Q4_5 := Lib.hid (Q4.out.on HA5.out)
  clear Q4
  clear Q3_5
  clear Q4_5
  go_wp2_with fail
  refine (and_any BX BY dX dY la lb _ Lx_5.out Ly_5.out (by omega) (by omega)).mono ?_
  rintro e w6 ⟨v6, rfl, ho6, hb6⟩
  obtain ⟨B6, d6, rfl, r6⟩ := shape_of ho6
  clear ho6
  have HA6 := Lib.hid hb6
  have HB6 := Lib.hid (bel_trans HB5.out HA6.out)
  clear hb6
  have La_6 := Lib.hid (La_5.out.on HA6.out)
  clear La_5
  have Lb_6 := Lib.hid (Lb_5.out.on HA6.out)
  clear Lb_5
  have Lx_6 := Lib.hid (Lx_5.out.on HA6.out)
  clear Lx_5
  have Ly_6 := Lib.hid (Ly_5.out.on HA6.out)
  clear Ly_5
  have Q6 := Lib.hid r6
  clear r6
  go_wp2_with fail
  refine (rand_any B1 B2 d1 d2 la lb _ La_6.out Lb_6.out (by omega) (by omega)).mono ?_
  rintro e w7 ⟨v7, rfl, ho7, hb7⟩
  obtain ⟨B7, d7, rfl, r7⟩ := shape_of ho7
  clear ho7
  have HA7 := Lib.hid hb7
  have HB7 := Lib.hid (bel_trans HB6.out HA7.out)
  clear hb7
  have La_7 := Lib.hid (La_6.out.on HA7.out)
  clear La_6
  have Lb_7 := Lib.hid (Lb_6.out.on HA7.out)
  clear Lb_6
  have Lx_7 := Lib.hid (Lx_6.out.on HA7.out)
  clear Lx_6
  have Ly_7 := Lib.hid (Ly_6.out.on HA7.out)
  clear Ly_6
  have Q6_7 := Lib.hid (Q6.out.on HA7.out)
  clear Q6
  have Q7 := Lib.hid r7
  clear r7
  go_wp2_with fail
  refine (eqset_any _ _ _ _ (andL la lb) (notL (orL (notL la) (notL lb))) _ Q6_7.out Q7.out (by omega) (by rw [← and_dm]; omega)).mono ?_
  rintro e w8 ⟨rfl, hb8⟩
  rw [show decide (andL la lb = notL (orL (notL la) (notL lb))) = true from decide_eq_true (and_dm la lb)]
  have HA8 := Lib.hid hb8
  have HB8 := Lib.hid (bel_trans HB7.out HA8.out)
  clear hb8
  have La_8 := Lib.hid (La_7.out.on HA8.out)
  clear La_7
  have Lb_8 := Lib.hid (Lb_7.out.on HA8.out)
  clear Lb_7
  have Lx_8 := Lib.hid (Lx_7.out.on HA8.out)
  clear Lx_7
  have Ly_8 := Lib.hid (Ly_7.out.on HA8.out)
  clear Ly_7
  have Q6_8 := Lib.hid (Q6_7.out.on HA8.out)
  clear Q6_7
  have Q7_8 := Lib.hid (Q7.out.on HA8.out)
  clear Q7
  clear Q6_8
  clear Q7_8
  go_wp2_with fail
  refine (not_any BX dX la _ Lx_8.out (by omega)).mono ?_
  rintro e w9 ⟨v9, rfl, ho9, hb9⟩
  obtain ⟨B9, d9, rfl, r9⟩ := shape_of ho9
  clear ho9
  have HA9 := Lib.hid hb9
  have HB9 := Lib.hid (bel_trans HB8.out HA9.out)
  clear hb9
  have La_9 := Lib.hid (La_8.out.on HA9.out)
  clear La_8
  have Lb_9 := Lib.hid (Lb_8.out.on HA9.out)
  clear Lb_8
  have Lx_9 := Lib.hid (Lx_8.out.on HA9.out)
  clear Lx_8
  have Ly_9 := Lib.hid (Ly_8.out.on HA9.out)
  clear Ly_8
  have Q9 := Lib.hid r9
  clear r9
  go_wp2_with fail
  refine (rnot_any B1 d1 la _ La_9.out (by omega)).mono ?_
  rintro e w10 ⟨v10, rfl, ho10, hb10⟩
  obtain ⟨B10, d10, rfl, r10⟩ := shape_of ho10
  clear ho10
  have HA10 := Lib.hid hb10
  have HB10 := Lib.hid (bel_trans HB9.out HA10.out)
  clear hb10
  have La_10 := Lib.hid (La_9.out.on HA10.out)
  clear La_9
  have Lb_10 := Lib.hid (Lb_9.out.on HA10.out)
  clear Lb_9
  have Lx_10 := Lib.hid (Lx_9.out.on HA10.out)
  clear Lx_9
  have Ly_10 := Lib.hid (Ly_9.out.on HA10.out)
  clear Ly_9
  have Q9_10 := Lib.hid (Q9.out.on HA10.out)
  clear Q9
  have Q10 := Lib.hid r10
  clear r10
  go_wp2_with fail
  refine (eqset_any _ _ _ _ (notL la) (notL la) _ Q9_10.out Q10.out (by omega) (by omega)).mono ?_
  rintro e w11 ⟨rfl, hb11⟩
  rw [show decide (notL la = notL la) = true from decide_eq_true rfl]
  have HA11 := Lib.hid hb11
  have HB11 := Lib.hid (bel_trans HB10.out HA11.out)
  clear hb11
  have La_11 := Lib.hid (La_10.out.on HA11.out)
  clear La_10
  have Lb_11 := Lib.hid (Lb_10.out.on HA11.out)
  clear Lb_10
  have Lx_11 := Lib.hid (Lx_10.out.on HA11.out)
  clear Lx_10
  have Ly_11 := Lib.hid (Ly_10.out.on HA11.out)
  clear Ly_10
  have Q9_11 := Lib.hid (Q9_10.out.on HA11.out)
  clear Q9_10
  have Q10_11 := Lib.hid (Q10.out.on HA11.out)
  clear Q10
  clear Q9_11
  clear Q10_11
  go_wp2_with fail
  refine (fold_any BY dY lb _ Ly_11.out (by omega)).mono ?_
  rintro e w12 ⟨v12, rfl, ho12, hb12⟩
  obtain ⟨B12, d12, rfl, r12⟩ := shape_of ho12
  clear ho12
  have HA12 := Lib.hid hb12
  have HB12 := Lib.hid (bel_trans HB11.out HA12.out)
  clear hb12
  have La_12 := Lib.hid (La_11.out.on HA12.out)
  clear La_11
  have Lb_12 := Lib.hid (Lb_11.out.on HA12.out)
  clear Lb_11
  have Lx_12 := Lib.hid (Lx_11.out.on HA12.out)
  clear Lx_11
  have Ly_12 := Lib.hid (Ly_11.out.on HA12.out)
  clear Ly_11
  have Q12 := Lib.hid r12
  clear r12
  go_wp2_with fail
  refine (rfold_any B2 d2 lb _ Lb_12.out (by omega)).mono ?_
  rintro e w13 ⟨v13, rfl, ho13, hb13⟩
  obtain ⟨B13, d13, rfl, r13⟩ := shape_of ho13
  clear ho13
  have HA13 := Lib.hid hb13
  have HB13 := Lib.hid (bel_trans HB12.out HA13.out)
  clear hb13
  have La_13 := Lib.hid (La_12.out.on HA13.out)
  clear La_12
  have Lb_13 := Lib.hid (Lb_12.out.on HA13.out)
  clear Lb_12
  have Lx_13 := Lib.hid (Lx_12.out.on HA13.out)
  clear Lx_12
  have Ly_13 := Lib.hid (Ly_12.out.on HA13.out)
  clear Ly_12
  have Q12_13 := Lib.hid (Q12.out.on HA13.out)
  clear Q12
  have Q13 := Lib.hid r13
  clear r13
  go_wp2_with fail
  refine (eqset_any _ _ _ _ (foldL lb) (foldL lb) _ Q12_13.out Q13.out (by omega) (by omega)).mono ?_
  rintro e w14 ⟨rfl, hb14⟩
  rw [show decide (foldL lb = foldL lb) = true from decide_eq_true rfl]
  have HA14 := Lib.hid hb14
  have HB14 := Lib.hid (bel_trans HB13.out HA14.out)
  clear hb14
  have La_14 := Lib.hid (La_13.out.on HA14.out)
  clear La_13
  have Lb_14 := Lib.hid (Lb_13.out.on HA14.out)
  clear Lb_13
  have Lx_14 := Lib.hid (Lx_13.out.on HA14.out)
  clear Lx_13
  have Ly_14 := Lib.hid (Ly_13.out.on HA14.out)
  clear Ly_13
  have Q12_14 := Lib.hid (Q12_13.out.on HA14.out)
  clear Q12_13
  have Q13_14 := Lib.hid (Q13.out.on HA14.out)
  clear Q13
  clear Q12_14
  clear Q13_14
  go_wp2_with fail
  refine (eqset_any _ _ _ _ la la _ Lx_14.out La_14.out (by omega) (by omega)).mono ?_
  rintro e w15 ⟨rfl, hb15⟩
  rw [show decide (la = la) = true from decide_eq_true rfl]
  have HA15 := Lib.hid hb15
  have HB15 := Lib.hid (bel_trans HB14.out HA15.out)
  clear hb15
  have La_15 := Lib.hid (La_14.out.on HA15.out)
  clear La_14
  have Lb_15 := Lib.hid (Lb_14.out.on HA15.out)
  clear Lb_14
  have Lx_15 := Lib.hid (Lx_14.out.on HA15.out)
  clear Lx_14
  have Ly_15 := Lib.hid (Ly_14.out.on HA15.out)
  clear Ly_14
  go_wp2_with fail
  refine (eqset_any _ _ _ _ lb lb _ Ly_15.out Lb_15.out (by omega) (by omega)).mono ?_
  rintro e w16 ⟨rfl, hb16⟩
  rw [show decide (lb = lb) = true from decide_eq_true rfl]
  have HA16 := Lib.hid hb16
  have HB16 := Lib.hid (bel_trans HB15.out HA16.out)
  clear hb16
  have La_16 := Lib.hid (La_15.out.on HA16.out)
  clear La_15
  have Lb_16 := Lib.hid (Lb_15.out.on HA16.out)
  clear Lb_15
  have Lx_16 := Lib.hid (Lx_15.out.on HA16.out)
  clear Lx_15
  have Ly_16 := Lib.hid (Ly_15.out.on HA16.out)
  clear Ly_15
  go_wp2_with fail
  refine (wakes_any _).mono ?_
  rintro e w17 ⟨rfl, hb17⟩
  have HA17 := Lib.hid hb17
  have HB17 := Lib.hid (bel_trans HB16.out HA17.out)
  clear hb17
  have La_17 := Lib.hid (La_16.out.on HA17.out)
  clear La_16
  have Lb_17 := Lib.hid (Lb_16.out.on HA17.out)
  clear Lb_16
  have Lx_17 := Lib.hid (Lx_16.out.on HA17.out)
  clear Lx_16
  have Ly_17 := Lib.hid (Ly_16.out.on HA17.out)
  clear Ly_16
  go_wp2_with fail
  go_ret
  exact ⟨rfl, HB17.out⟩
end Go.Proofs.Ytfjcljhodnkieaa
