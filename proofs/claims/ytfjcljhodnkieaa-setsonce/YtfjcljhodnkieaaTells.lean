/-
  The law SetsTells, walked: for every slice of ranges and every number the call answers true, and what was lies as it did. Conditions: the slice's capacity is a length that a program may have.
-/
import Derived.Test.YtfjcljhodnkieaaOps
import Derived.Deep.RegionHeld3
namespace Go.Proofs.Ytfjcljhodnkieaa
open Go.RowKit ObSets

theorem below_of {c1 c2 : Prop} {w W : World} (h : c1 ∧ c2 ∧ Below w.heap.size w W) : Below w.heap.size w W := h.2.2
theorem keep2 {w W W' : World} {b o1 o2 : Nat} {v1 v2 : Value} (hb : Below W.heap.size W W') (h : W.cell? ⟨b, o1, none⟩ = some v1 ∧ W.cell? ⟨b, o2, none⟩ = some v2 ∧ Below w.heap.size w W) (hlt : b < w.heap.size) :
    W'.cell? ⟨b, o1, none⟩ = some v1 ∧ W'.cell? ⟨b, o2, none⟩ = some v2 ∧ Below w.heap.size w W' := by
  have h1 : b < W.heap.size := Nat.lt_of_lt_of_le hlt h.2.2.size
  exact ⟨(hb.cell (p := ⟨b, o1, none⟩) h1).trans h.1, (hb.cell (p := ⟨b, o2, none⟩) h1).trans h.2.1, bel_trans h.2.2 hb⟩

set_option maxHeartbeats 4000000 in
set_option maxRecDepth 100000 in
theorem tells_walk (A1 : Option Addr) (n1 c1 : Nat) (l1 : List R) (x : Int) (w : World) (hn1 : l1.length = n1) (hc1 : n1 ≤ c1) (hm1 : c1 ≤ maxLen) (h1 : Rgs w w.heap.size A1 (l1.take 12)) (hA1 : A1 = none → l1 = []) :
    Calls Try.prog 3 #[.slice A1 n1 c1, .int .i64 x] w fun e w' => e = .returned (.bool true) ∧ Below w.heap.size w w' := by
  obtain ⟨la, ea⟩ : ∃ la, l1.take 12 = la := ⟨_, rfl⟩
  have hla : la.length ≤ 12 := by rw [← ea, List.length_take]; omega
  have q5 := nrm_len la
  obtain ⟨z1, hz1⟩ : ∃ z, one1 (nrm la) = z := ⟨_, rfl⟩
  obtain ⟨z2, hz2⟩ : ∃ z, one2 (nrm la) = z := ⟨_, rfl⟩
  obtain ⟨z3, hz3⟩ : ∃ z, normB la = z := ⟨_, rfl⟩
  obtain ⟨z4, hz4⟩ : ∃ z, has la x = z := ⟨_, rfl⟩
  obtain ⟨z5, hz5⟩ : ∃ z, cn (nrm la) = z := ⟨_, rfl⟩
  have Z1 := Lib.hid hz1; have Z2 := Lib.hid hz2; have Z3 := Lib.hid hz3; have Z4 := Lib.hid hz4; have Z5 := Lib.hid hz5
  have y1 : (z1 != z1) = false := by simp
  have y2 : (z2 != z2) = false := by simp
  have y3 : (z3 != z3) = false := by simp
  have y4 : (z4 != z4) = false := by simp
  have y5 : (z5 != z5) = false := by simp
  clear hz1 hz2 hz3 hz4 hz5
  have HB0 := Lib.hid (Below.refl w.heap.size w)
  go_enter Try.func3, Try.ntmps3
  go_wp2_with fail
  refine (set_any A1 n1 c1 12 l1 w hn1 hc1 hm1 h1 hA1 (by omega)).mono ?_
  rintro e w1 ⟨v1, rfl, ho1, hb1⟩
  rw [ea] at ho1
  obtain ⟨B1, d1, rfl, r1⟩ := shape_of ho1
  clear ho1
  have HA1 := Lib.hid hb1
  have HB1 := Lib.hid (bel_trans HB0.out HA1.out)
  clear hb1
  have Q1 := Lib.hid r1
  clear r1
  clear hn1 hc1 hm1 h1 hA1 ea
  obtain ⟨X1, x1, hx1, ox1, bx1, rx1⟩ := copy_of 22 Q1.out (by omega) (c := d1)
  have HX1 := Lib.hid hx1; have BX1 := Lib.hid bx1; have SX1 := Lib.hid ox1
  clear hx1 bx1 rx1 ox1
  go_wp2_with (at_builtin; refine Lib.wpList_append_run _ rfl _ _ _ _ rfl _ _ rfl rfl _ _ HX1.out ?_)
  obtain ⟨BX, dX, rfl, rX⟩ := shape_of SX1.out
  have HBc := Lib.hid (bel_trans HB1.out BX1.out)
  have La := Lib.hid (Q1.out.on BX1.out)
  have Lx := Lib.hid rX
  clear rX Q1 HX1 SX1
  go_wp2_with fail
  refine (one_any BX dX la _ Lx.out (by omega)).mono ?_
  rintro e w2 ⟨rfl, hb2⟩
  rw [Z1.out, Z2.out]
  have HA2 := Lib.hid hb2
  have HB2 := Lib.hid (bel_trans HBc.out HA2.out)
  clear hb2
  have La_2 := Lib.hid (La.out.on HA2.out)
  clear La
  have Lx_2 := Lib.hid (Lx.out.on HA2.out)
  clear Lx
  go_wp2_with fail
  refine (rone_any B1 d1 la _ La_2.out (by omega)).mono ?_
  rintro e w3 ⟨rfl, hb3⟩
  rw [Z1.out, Z2.out]
  have HA3 := Lib.hid hb3
  have HB3 := Lib.hid (bel_trans HB2.out HA3.out)
  clear hb3
  have La_3 := Lib.hid (La_2.out.on HA3.out)
  clear La_2
  have Lx_3 := Lib.hid (Lx_2.out.on HA3.out)
  clear Lx_2
  go_wp2_with fail
  refine (goodl_any BX dX la _ Lx_3.out (by omega)).mono ?_
  rintro e w4 ⟨rfl, hb4⟩
  rw [Z3.out]
  have HA4 := Lib.hid hb4
  have HB4 := Lib.hid (bel_trans HB3.out HA4.out)
  clear hb4
  have La_4 := Lib.hid (La_3.out.on HA4.out)
  clear La_3
  have Lx_4 := Lib.hid (Lx_3.out.on HA4.out)
  clear Lx_3
  go_wp2_with fail
  refine (rgoodl_any B1 d1 la _ La_4.out (by omega)).mono ?_
  rintro e w5 ⟨rfl, hb5⟩
  rw [Z3.out]
  have HA5 := Lib.hid hb5
  have HB5 := Lib.hid (bel_trans HB4.out HA5.out)
  clear hb5
  have La_5 := Lib.hid (La_4.out.on HA5.out)
  clear La_4
  have Lx_5 := Lib.hid (Lx_4.out.on HA5.out)
  clear Lx_4
  go_wp2_with fail
  refine (norm_any BX dX la _ Lx_5.out (by omega)).mono ?_
  rintro e w6 ⟨v6, rfl, ho6, hb6⟩
  obtain ⟨B6, d6, rfl, r6⟩ := shape_of ho6
  clear ho6
  have HA6 := Lib.hid hb6
  have HB6 := Lib.hid (bel_trans HB5.out HA6.out)
  clear hb6
  have La_6 := Lib.hid (La_5.out.on HA6.out)
  clear La_5
  have Lx_6 := Lib.hid (Lx_5.out.on HA6.out)
  clear Lx_5
  have Q6 := Lib.hid r6
  clear r6
  go_wp2_with fail
  refine (rnorm_any B1 d1 la _ La_6.out (by omega)).mono ?_
  rintro e w7 ⟨v7, rfl, ho7, hb7⟩
  obtain ⟨B7, d7, rfl, r7⟩ := shape_of ho7
  clear ho7
  have HA7 := Lib.hid hb7
  have HB7 := Lib.hid (bel_trans HB6.out HA7.out)
  clear hb7
  have La_7 := Lib.hid (La_6.out.on HA7.out)
  clear La_6
  have Lx_7 := Lib.hid (Lx_6.out.on HA7.out)
  clear Lx_6
  have Q6_7 := Lib.hid (Q6.out.on HA7.out)
  clear Q6
  have Q7 := Lib.hid r7
  clear r7
  go_wp2_with fail
  refine (eqset_any _ _ _ _ (nrm la) (nrm la) _ Q6_7.out Q7.out (by omega) (by omega)).mono ?_
  rintro e w8 ⟨rfl, hb8⟩
  rw [show decide (nrm la = nrm la) = true from decide_eq_true rfl]
  have HA8 := Lib.hid hb8
  have HB8 := Lib.hid (bel_trans HB7.out HA8.out)
  clear hb8
  have La_8 := Lib.hid (La_7.out.on HA8.out)
  clear La_7
  have Lx_8 := Lib.hid (Lx_7.out.on HA8.out)
  clear Lx_7
  have Q6_8 := Lib.hid (Q6_7.out.on HA8.out)
  clear Q6_7
  have Q7_8 := Lib.hid (Q7.out.on HA8.out)
  clear Q7
  clear Q6_8
  clear Q7_8
  go_wp2_with fail
  refine (has_any BX dX la x _ Lx_8.out (by omega)).mono ?_
  rintro e w9 ⟨rfl, hb9⟩
  rw [Z4.out]
  have HA9 := Lib.hid hb9
  have HB9 := Lib.hid (bel_trans HB8.out HA9.out)
  clear hb9
  have La_9 := Lib.hid (La_8.out.on HA9.out)
  clear La_8
  have Lx_9 := Lib.hid (Lx_8.out.on HA9.out)
  clear Lx_8
  go_wp2_with fail
  refine (rhas_any B1 d1 la x _ La_9.out (by omega)).mono ?_
  rintro e w10 ⟨rfl, hb10⟩
  rw [Z4.out]
  have HA10 := Lib.hid hb10
  have HB10 := Lib.hid (bel_trans HB9.out HA10.out)
  clear hb10
  have La_10 := Lib.hid (La_9.out.on HA10.out)
  clear La_9
  have Lx_10 := Lib.hid (Lx_9.out.on HA10.out)
  clear Lx_9
  go_wp2_with fail
  refine (count_any BX dX la _ Lx_10.out (by omega)).mono ?_
  rintro e w11 ⟨rfl, hb11⟩
  rw [Z5.out]
  have HA11 := Lib.hid hb11
  have HB11 := Lib.hid (bel_trans HB10.out HA11.out)
  clear hb11
  have La_11 := Lib.hid (La_10.out.on HA11.out)
  clear La_10
  have Lx_11 := Lib.hid (Lx_10.out.on HA11.out)
  clear Lx_10
  go_wp2_with fail
  refine (rcount_any B1 d1 la _ La_11.out (by omega)).mono ?_
  rintro e w12 ⟨rfl, hb12⟩
  rw [Z5.out]
  have HA12 := Lib.hid hb12
  have HB12 := Lib.hid (bel_trans HB11.out HA12.out)
  clear hb12
  have La_12 := Lib.hid (La_11.out.on HA12.out)
  clear La_11
  have Lx_12 := Lib.hid (Lx_11.out.on HA12.out)
  clear Lx_11
  have HHX := Lib.hid (show ∀ (W : World) (z : Int), Below w12.heap.size w12 W → Calls Try.prog 16 #[.slice BX la.length dX, .int .i64 z] W fun e w' => e = .returned (.bool (has la z)) ∧ Below W.heap.size W w' from fun W z hb => has_any BX dX la z W (Lx_12.out.on hb) (by omega))
  have HHA := Lib.hid (show ∀ (W : World) (z : Int), Below w12.heap.size w12 W → Calls Try.prog 17 #[.slice B1 la.length d1, .int .i64 z] W fun e w' => e = .returned (.bool (has la z)) ∧ Below W.heap.size W w' from fun W z hb => rhas_any B1 d1 la z W (La_12.out.on hb) (by omega))
  go_wp2_with fail
  go_loopw [10] (fun t wr => ∃ k : Nat, k ≤ la.length ∧ t = .int .i64 k ∧ Below w12.heap.size w12 wr) (fun t _ => la.length - (intOf t).toNat)
  case atStart => exact ⟨0, by omega, rfl, Below.refl _ _⟩
  case round =>
    obtain ⟨k, hk, rfl, hb9⟩ := hrel
    by_cases hkn : k < la.length
    · obtain ⟨b, off, p, q, rfl, hbl, _, f1, f2⟩ := (La_12.out.below hb9).at_ (k := k) hkn
      have hk1 : (k : Int) < (la.length : Int) := by omega
      have j1 : (has la p != has la p) = false := by simp
      have j2 : (has la q != has la q) = false := by simp
      go_wp2_with fail
      go_region_held3 (fun W => W.cell? ⟨b, off + k * 2, none⟩ = some (.int .i64 p) ∧ W.cell? ⟨b, off + k * 2 + 1, none⟩ = some (.int .i64 q) ∧ Below w12.heap.size w12 W) (first | exact ⟨f1, f2, hb9.drew⟩ | exact keep2 (by assumption) (by assumption) hbl) (first
        | (go_at_call 16; refine (HHX.out _ _ (below_of (by assumption))).mono ?_; rintro e w3 ⟨rfl, hb3⟩)
        | (go_at_call 17; refine (HHA.out _ _ (below_of (by assumption))).mono ?_; rintro e w3 ⟨rfl, hb3⟩))
      all_goals (
        go_wp2_with fail
        go_roundw
        case rel => exact ⟨k + 1, by omega, by go_num, below_of (by assumption)⟩
        case measure => simp [intOf]; omega)
    · have hd : decide (k < la.length) = false := by simp; omega
      have Ta := Lib.hid (La_12.out.on hb9)
      have Tx := Lib.hid (Lx_12.out.on hb9)
      have HBt := Lib.hid (bel_trans HB12.out hb9)
      clear La_12 Lx_12
      go_wp2_with fail
      refine (eqset_any _ _ _ _ la la _ Tx.out Ta.out (by omega) (by omega)).mono ?_
      rintro e w41 ⟨rfl, hb41⟩
      rw [show decide (la = la) = true from decide_eq_true rfl]
      have HA41 := Lib.hid hb41
      have HB41 := Lib.hid (bel_trans HBt.out HA41.out)
      clear hb41
      have Ta_41 := Lib.hid (Ta.out.on HA41.out)
      clear Ta
      have Tx_41 := Lib.hid (Tx.out.on HA41.out)
      clear Tx
      go_wp2_with fail
      refine (norm_any BX dX la _ Tx_41.out (by omega)).mono ?_
      rintro e w42 ⟨v42, rfl, ho42, hb42⟩
      obtain ⟨B42, d42, rfl, r42⟩ := shape_of ho42
      clear ho42
      have HA42 := Lib.hid hb42
      have HB42 := Lib.hid (bel_trans HB41.out HA42.out)
      clear hb42
      have Ta_42 := Lib.hid (Ta_41.out.on HA42.out)
      clear Ta_41
      have Tx_42 := Lib.hid (Tx_41.out.on HA42.out)
      clear Tx_41
      have Q42 := Lib.hid r42
      clear r42
      go_wp2_with fail
      refine (goodl_any _ _ (nrm la) _ Q42.out (by omega)).mono ?_
      rintro e w43 ⟨rfl, hb43⟩
      rw [show normB (nrm la) = true from normB_nrm (nrm_ok la).1]
      have HA43 := Lib.hid hb43
      have HB43 := Lib.hid (bel_trans HB42.out HA43.out)
      clear hb43
      have Ta_43 := Lib.hid (Ta_42.out.on HA43.out)
      clear Ta_42
      have Tx_43 := Lib.hid (Tx_42.out.on HA43.out)
      clear Tx_42
      have Q42_43 := Lib.hid (Q42.out.on HA43.out)
      clear Q42
      go_wp2_with fail
      refine (wakes_any _).mono ?_
      rintro e w44 ⟨rfl, hb44⟩
      have HA44 := Lib.hid hb44
      have HB44 := Lib.hid (bel_trans HB43.out HA44.out)
      clear hb44
      have Ta_44 := Lib.hid (Ta_43.out.on HA44.out)
      clear Ta_43
      have Tx_44 := Lib.hid (Tx_43.out.on HA44.out)
      clear Tx_43
      have Q42_44 := Lib.hid (Q42_43.out.on HA44.out)
      clear Q42_43
      go_wp2_with fail
      go_ret
      exact ⟨rfl, HB44.out⟩
end Go.Proofs.Ytfjcljhodnkieaa
