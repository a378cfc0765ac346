/-
  The law SetsLaws, walked: for every two slices of ranges and every number the call answers true, and what was lies as it did. Conditions: the slices' capacities are lengths that a program may have.
-/
import Derived.Test.YtfjcljhodnkieaaW21
import Derived.Deep.Cut
namespace Go.Proofs.Ytfjcljhodnkieaa
open Go.RowKit ObSets

theorem not_not_l (a : List R) : notL (notL a) = nrm a := by
  refine once (notL_ok _).1 (nrm_ok a).1 fun x => ?_
  rw [(notL_ok _).2, (notL_ok a).2, (nrm_ok a).2]
  cases ha : has a x with
  | true => rw [has_sym ha]; simp
  | false => cases sym x <;> simp
theorem not_or_l (a b : List R) : notL (orL a b) = andL (notL a) (notL b) := by
  refine once (notL_ok _).1 (andL_ok _ _).1 fun x => ?_
  rw [(notL_ok _).2, (orL_ok a b).2, (andL_ok _ _).2, (notL_ok a).2, (notL_ok b).2]
  cases sym x <;> cases has a x <;> cases has b x <;> simp

set_option maxHeartbeats 4000000 in
set_option maxRecDepth 100000 in
theorem laws_walk (A1 A2 : Option Addr) (n1 n2 c1 c2 : Nat) (l1 l2 : List R) (x : Int) (w : World) (hn1 : l1.length = n1) (hc1 : n1 ≤ c1) (hm1 : c1 ≤ maxLen) (h1 : Rgs w w.heap.size A1 (l1.take 8)) (hA1 : A1 = none → l1 = [])
    (hn2 : l2.length = n2) (hc2 : n2 ≤ c2) (hm2 : c2 ≤ maxLen) (h2 : Rgs w w.heap.size A2 (l2.take 8)) (hA2 : A2 = none → l2 = []) :
    Calls Try.prog 5 #[.slice A1 n1 c1, .slice A2 n2 c2, .int .i64 x] w fun e w' => e = .returned (.bool true) ∧ Below w.heap.size w w' := by
  obtain ⟨la, ea⟩ : ∃ la, l1.take 8 = la := ⟨_, rfl⟩
  obtain ⟨lb, eb⟩ : ∃ lb, l2.take 8 = lb := ⟨_, rfl⟩
  obtain ⟨y, hy⟩ : ∃ y, x % 1114368 = y := ⟨_, rfl⟩
  have hla : la.length ≤ 8 := by rw [← ea, List.length_take]; omega
  have hlb : lb.length ≤ 8 := by rw [← eb, List.length_take]; omega
  have q1 := orL_len la lb; have q2 := andL_len la lb; have q3 := notL_len la; have q4 := notL_len lb; have q5 := nrm_len la
  have q6 := notL_len (notL la); have q7 := notL_len (orL la lb); have q8 := andL_len (notL la) (notL lb); have q9 := notL_len []
  simp only [List.length_nil] at q9
  obtain ⟨p, hp⟩ : ∃ p, has la y = p := ⟨_, rfl⟩
  obtain ⟨q, hq⟩ : ∃ q, has lb y = q := ⟨_, rfl⟩
  obtain ⟨s, hs⟩ : ∃ s, sym y = s := ⟨_, rfl⟩
  have E1 := Lib.hid (show has (orL la lb) y = (p || q) by rw [(orL_ok la lb).2, hp, hq])
  have E2 := Lib.hid (show has (andL la lb) y = (p && q) by rw [(andL_ok la lb).2, hp, hq])
  have E3 := Lib.hid (show has (notL la) y = (s && !p) by rw [(notL_ok la).2, hp, hs])
  have HPS := Lib.hid (show p = true → s = true from fun h => by rw [← hs]; exact has_sym (hp.trans h))
  have HQS := Lib.hid (show q = true → s = true from fun h => by rw [← hs]; exact has_sym (hq.trans h))
  have HP := Lib.hid hp; have HQ := Lib.hid hq; have HS := Lib.hid hs
  clear hp hq hs
  have z1 := cn_not la; have z2 := cn_both la lb
  have b1 := cn_bd (nrm_ok la).1.1; have b2 := cn_bd (nrm_ok (notL la)).1.1; have b4 := cn_bd (nrm_ok lb).1.1; have b5 := cn_bd (nrm_ok (orL la lb)).1.1; have b6 := cn_bd (nrm_ok (andL la lb)).1.1
  have r1 := nrm_len (notL la); have r2 := nrm_len lb; have r3 := nrm_len (orL la lb); have r4 := nrm_len (andL la lb)
  obtain ⟨k1, hk1⟩ : ∃ k, cn (nrm la) = k := ⟨_, rfl⟩
  obtain ⟨k2, hk2⟩ : ∃ k, cn (nrm (notL la)) = k := ⟨_, rfl⟩
  obtain ⟨k3, hk3⟩ : ∃ k, cn (nrm (notL [])) = k := ⟨_, rfl⟩
  obtain ⟨k4, hk4⟩ : ∃ k, cn (nrm lb) = k := ⟨_, rfl⟩
  obtain ⟨k5, hk5⟩ : ∃ k, cn (nrm (orL la lb)) = k := ⟨_, rfl⟩
  obtain ⟨k6, hk6⟩ : ∃ k, cn (nrm (andL la lb)) = k := ⟨_, rfl⟩
  rw [hk1] at z1 z2 b1; rw [hk2] at z1 b2; rw [hk3] at z1; rw [hk4] at z2 b4; rw [hk5] at z2 b5; rw [hk6] at z2 b6
  have w1 : IntKind.i64.wrap (k1 + k2) = k3 := by rw [← z1]; exact IntWalk.i64_in _ (by omega)
  have w2 : IntKind.i64.wrap (k5 + k6) = k1 + k4 := by rw [z2]; exact IntWalk.i64_in _ (by omega)
  have w3 : IntKind.i64.wrap (k1 + k4) = k1 + k4 := IntWalk.i64_in _ (by omega)
  have g1 : (k3 == k3) = true := by simp
  have g2 : (k1 + k4 == k1 + k4) = true := by simp
  have K1 := Lib.hid hk1; have K2 := Lib.hid hk2; have K3 := Lib.hid hk3; have K4 := Lib.hid hk4; have K5 := Lib.hid hk5; have K6 := Lib.hid hk6
  clear hk1 hk2 hk3 hk4 hk5 hk6 z1 z2 b1 b2 b4 b5 b6 r1 r2 r3 r4
  have HB0 := Lib.hid (Below.refl w.heap.size w)
  go_enter Try.func5, Try.ntmps5
  go_wp2_with fail
  refine (set_any A1 n1 c1 8 l1 w hn1 hc1 hm1 h1 hA1 (by omega)).mono ?_
  rintro e w1 ⟨v1, rfl, ho1, hb1⟩
  rw [ea] at ho1
  obtain ⟨B1, d1, rfl, r1⟩ := shape_of ho1
  clear ho1
  have HA1 := Lib.hid hb1
  have HB1 := Lib.hid (bel_trans HB0.out HA1.out)
  clear hb1
  have Q1 := Lib.hid r1
  clear r1
  go_wp2_with fail
  refine (set_any A2 n2 c2 8 l2 _ hn2 hc2 hm2 (h2.on HB1.out) hA2 (by omega)).mono ?_
  rintro e w2 ⟨v2, rfl, ho2, hb2⟩
  rw [eb] at ho2
  obtain ⟨B2, d2, rfl, r2⟩ := shape_of ho2
  clear ho2
  have HA2 := Lib.hid hb2
  have HB2 := Lib.hid (bel_trans HB1.out HA2.out)
  clear hb2
  have Q1_2 := Lib.hid (Q1.out.on HA2.out)
  clear Q1
  have Q2 := Lib.hid r2
  clear r2
  clear hn1 hc1 hm1 h1 hA1 hn2 hc2 hm2 h2 hA2 ea eb
  go_wp2_with fail
  refine (within_any x 1114368 _ (by omega) (by omega)).mono ?_
  rintro e w3 ⟨rfl, rfl⟩
  have HY := Lib.hid hy
  rw [show x % ((1114368 : Nat) : Int) = y from HY.out]
  go_wp2_with fail
  refine (rgood_any y _).mono ?_
  rintro e w3 ⟨rfl, rfl⟩
  rw [show sym y = s from HS.out]
  go_wp2_with fail
  refine (has_any B1 d1 la y _ Q1_2.out (by omega)).mono ?_
  rintro e w3 ⟨rfl, hb3⟩
  rw [show has la y = p from HP.out]
  have HA3 := Lib.hid hb3
  have HB3 := Lib.hid (bel_trans HB2.out HA3.out)
  clear hb3
  have Q1_3 := Lib.hid (Q1_2.out.on HA3.out)
  clear Q1_2
  have Q2_3 := Lib.hid (Q2.out.on HA3.out)
  clear Q2
  go_wp2_with fail
  refine (has_any B2 d2 lb y _ Q2_3.out (by omega)).mono ?_
  rintro e w4 ⟨rfl, hb4⟩
  rw [show has lb y = q from HQ.out]
  have HA4 := Lib.hid hb4
  have HB4 := Lib.hid (bel_trans HB3.out HA4.out)
  clear hb4
  have Q1_4 := Lib.hid (Q1_3.out.on HA4.out)
  clear Q1_3
  have Q2_4 := Lib.hid (Q2_3.out.on HA4.out)
  clear Q2_3
  go_upto_region 5 with fail
  go_cut [7, 8, 9, 57] from 10 (fun _ _ _ t wc => t = .bool false ∧ Below w4.heap.size w4 wc)
  case first =>
    have HBf := Lib.hid (Below.refl w4.heap.size w4)
    have hps := HPS.out; have hqs := HQS.out
    clear HP HQ HS HPS HQS HY
    cases p <;> cases q <;> cases s <;> first | (cases hps rfl; done) | (cases hqs rfl; done) | skip
    all_goals (
      clear hps hqs
      go_wp2_with fail
      refine (or_any B1 B2 d1 d2 la lb _ Q1_4.out Q2_4.out (by omega)).mono ?_
      rintro e w5 ⟨v5, rfl, ho5, hb5⟩
      obtain ⟨B5, d5, rfl, r5⟩ := shape_of ho5
      clear ho5
      have HA5 := Lib.hid hb5
      have HB5 := Lib.hid (bel_trans HBf.out HA5.out)
      clear hb5
      have Q1_5 := Lib.hid (Q1_4.out.on HA5.out)
      clear Q1_4
      have Q2_5 := Lib.hid (Q2_4.out.on HA5.out)
      clear Q2_4
      have Q5 := Lib.hid r5
      clear r5
      go_wp2_with fail
      refine (has_any _ _ (orL la lb) y _ Q5.out (by omega)).mono ?_
      rintro e w6 ⟨rfl, hb6⟩
      rw [E1.out]
      have HA6 := Lib.hid hb6
      have HB6 := Lib.hid (bel_trans HB5.out HA6.out)
      clear hb6
      have Q1_6 := Lib.hid (Q1_5.out.on HA6.out)
      clear Q1_5
      have Q2_6 := Lib.hid (Q2_5.out.on HA6.out)
      clear Q2_5
      have Q5_6 := Lib.hid (Q5.out.on HA6.out)
      clear Q5
      clear Q5_6
      go_wp2_with fail
      refine (and_any B1 B2 d1 d2 la lb _ Q1_6.out Q2_6.out (by omega) (by omega)).mono ?_
      rintro e w7 ⟨v7, rfl, ho7, hb7⟩
      obtain ⟨B7, d7, rfl, r7⟩ := shape_of ho7
      clear ho7
      have HA7 := Lib.hid hb7
      have HB7 := Lib.hid (bel_trans HB6.out HA7.out)
      clear hb7
      have Q1_7 := Lib.hid (Q1_6.out.on HA7.out)
      clear Q1_6
      have Q2_7 := Lib.hid (Q2_6.out.on HA7.out)
      clear Q2_6
      have Q7 := Lib.hid r7
      clear r7
      go_wp2_with fail
      refine (has_any _ _ (andL la lb) y _ Q7.out (by omega)).mono ?_
      rintro e w8 ⟨rfl, hb8⟩
      rw [E2.out]
      have HA8 := Lib.hid hb8
      have HB8 := Lib.hid (bel_trans HB7.out HA8.out)
      clear hb8
      have Q1_8 := Lib.hid (Q1_7.out.on HA8.out)
      clear Q1_7
      have Q2_8 := Lib.hid (Q2_7.out.on HA8.out)
      clear Q2_7
      have Q7_8 := Lib.hid (Q7.out.on HA8.out)
      clear Q7
      clear Q7_8
      go_wp2_with fail
      refine (not_any B1 d1 la _ Q1_8.out (by omega)).mono ?_
      rintro e w9 ⟨v9, rfl, ho9, hb9⟩
      obtain ⟨B9, d9, rfl, r9⟩ := shape_of ho9
      clear ho9
      have HA9 := Lib.hid hb9
      have HB9 := Lib.hid (bel_trans HB8.out HA9.out)
      clear hb9
      have Q1_9 := Lib.hid (Q1_8.out.on HA9.out)
      clear Q1_8
      have Q2_9 := Lib.hid (Q2_8.out.on HA9.out)
      clear Q2_8
      have Q9 := Lib.hid r9
      clear r9
      go_wp2_with fail
      refine (has_any _ _ (notL la) y _ Q9.out (by omega)).mono ?_
      rintro e w10 ⟨rfl, hb10⟩
      rw [E3.out]
      have HA10 := Lib.hid hb10
      have HB10 := Lib.hid (bel_trans HB9.out HA10.out)
      clear hb10
      have Q1_10 := Lib.hid (Q1_9.out.on HA10.out)
      clear Q1_9
      have Q2_10 := Lib.hid (Q2_9.out.on HA10.out)
      clear Q2_9
      have Q9_10 := Lib.hid (Q9.out.on HA10.out)
      clear Q9
      clear Q9_10
      go_wp2_with fail
      go_meet
      case rel => exact ⟨rfl, HB10.out⟩)
  case rest =>
    obtain ⟨rfl, hbc⟩ := hcut
    have HA99 := Lib.hid hbc
    have HB99 := Lib.hid (bel_trans HB4.out HA99.out)
    clear hbc
    have Q1_99 := Lib.hid (Q1_4.out.on HA99.out)
    clear Q1_4
    have Q2_99 := Lib.hid (Q2_4.out.on HA99.out)
    clear Q2_4
    go_wp2_with fail
    refine (not_any B1 d1 la _ Q1_99.out (by omega)).mono ?_
    rintro e w11 ⟨v11, rfl, ho11, hb11⟩
    obtain ⟨B11, d11, rfl, r11⟩ := shape_of ho11
    clear ho11
    have HA11 := Lib.hid hb11
    have HB11 := Lib.hid (bel_trans HB99.out HA11.out)
    clear hb11
    have Q1_11 := Lib.hid (Q1_99.out.on HA11.out)
    clear Q1_99
    have Q2_11 := Lib.hid (Q2_99.out.on HA11.out)
    clear Q2_99
    have Q11 := Lib.hid r11
    clear r11
    go_wp2_with fail
    refine (not_any _ _ (notL la) _ Q11.out (by omega)).mono ?_
    rintro e w12 ⟨v12, rfl, ho12, hb12⟩
    obtain ⟨B12, d12, rfl, r12⟩ := shape_of ho12
    clear ho12
    have HA12 := Lib.hid hb12
    have HB12 := Lib.hid (bel_trans HB11.out HA12.out)
    clear hb12
    have Q1_12 := Lib.hid (Q1_11.out.on HA12.out)
    clear Q1_11
    have Q2_12 := Lib.hid (Q2_11.out.on HA12.out)
    clear Q2_11
    have Q11_12 := Lib.hid (Q11.out.on HA12.out)
    clear Q11
    have Q12 := Lib.hid r12
    clear r12
    clear Q11_12
    go_wp2_with fail
    refine (norm_any B1 d1 la _ Q1_12.out (by omega)).mono ?_
    rintro e w13 ⟨v13, rfl, ho13, hb13⟩
    obtain ⟨B13, d13, rfl, r13⟩ := shape_of ho13
    clear ho13
    have HA13 := Lib.hid hb13
    have HB13 := Lib.hid (bel_trans HB12.out HA13.out)
    clear hb13
    have Q1_13 := Lib.hid (Q1_12.out.on HA13.out)
    clear Q1_12
    have Q2_13 := Lib.hid (Q2_12.out.on HA13.out)
    clear Q2_12
    have Q12_13 := Lib.hid (Q12.out.on HA13.out)
    clear Q12
    have Q13 := Lib.hid r13
    clear r13
    go_wp2_with fail
    refine (eqset_any _ _ _ _ (notL (notL la)) (nrm la) _ Q12_13.out Q13.out (by omega) (by omega)).mono ?_
    rintro e w14 ⟨rfl, hb14⟩
    rw [show decide (notL (notL la) = nrm la) = true from decide_eq_true (not_not_l la)]
    have HA14 := Lib.hid hb14
    have HB14 := Lib.hid (bel_trans HB13.out HA14.out)
    clear hb14
    have Q1_14 := Lib.hid (Q1_13.out.on HA14.out)
    clear Q1_13
    have Q2_14 := Lib.hid (Q2_13.out.on HA14.out)
    clear Q2_13
    have Q12_14 := Lib.hid (Q12_13.out.on HA14.out)
    clear Q12_13
    have Q13_14 := Lib.hid (Q13.out.on HA14.out)
    clear Q13
    clear Q12_14
    clear Q13_14
    go_wp2_with fail
    refine (or_any B1 B2 d1 d2 la lb _ Q1_14.out Q2_14.out (by omega)).mono ?_
    rintro e w15 ⟨v15, rfl, ho15, hb15⟩
    obtain ⟨B15, d15, rfl, r15⟩ := shape_of ho15
    clear ho15
    have HA15 := Lib.hid hb15
    have HB15 := Lib.hid (bel_trans HB14.out HA15.out)
    clear hb15
    have Q1_15 := Lib.hid (Q1_14.out.on HA15.out)
    clear Q1_14
    have Q2_15 := Lib.hid (Q2_14.out.on HA15.out)
    clear Q2_14
    have Q15 := Lib.hid r15
    clear r15
    go_wp2_with fail
    refine (not_any _ _ (orL la lb) _ Q15.out (by omega)).mono ?_
    rintro e w16 ⟨v16, rfl, ho16, hb16⟩
    obtain ⟨B16, d16, rfl, r16⟩ := shape_of ho16
    clear ho16
    have HA16 := Lib.hid hb16
    have HB16 := Lib.hid (bel_trans HB15.out HA16.out)
    clear hb16
    have Q1_16 := Lib.hid (Q1_15.out.on HA16.out)
    clear Q1_15
    have Q2_16 := Lib.hid (Q2_15.out.on HA16.out)
    clear Q2_15
    have Q15_16 := Lib.hid (Q15.out.on HA16.out)
    clear Q15
    have Q16 := Lib.hid r16
    clear r16
    clear Q15_16
    go_wp2_with fail
    refine (not_any B1 d1 la _ Q1_16.out (by omega)).mono ?_
    rintro e w17 ⟨v17, rfl, ho17, hb17⟩
    obtain ⟨B17, d17, rfl, r17⟩ := shape_of ho17
    clear ho17
    have HA17 := Lib.hid hb17
    have HB17 := Lib.hid (bel_trans HB16.out HA17.out)
    clear hb17
    have Q1_17 := Lib.hid (Q1_16.out.on HA17.out)
    clear Q1_16
    have Q2_17 := Lib.hid (Q2_16.out.on HA17.out)
    clear Q2_16
    have Q16_17 := Lib.hid (Q16.out.on HA17.out)
    clear Q16
    have Q17 := Lib.hid r17
    clear r17
    go_wp2_with fail
    refine (not_any B2 d2 lb _ Q2_17.out (by omega)).mono ?_
    rintro e w18 ⟨v18, rfl, ho18, hb18⟩
    obtain ⟨B18, d18, rfl, r18⟩ := shape_of ho18
    clear ho18
    have HA18 := Lib.hid hb18
    have HB18 := Lib.hid (bel_trans HB17.out HA18.out)
    clear hb18
    have Q1_18 := Lib.hid (Q1_17.out.on HA18.out)
    clear Q1_17
    have Q2_18 := Lib.hid (Q2_17.out.on HA18.out)
    clear Q2_17
    have Q16_18 := Lib.hid (Q16_17.out.on HA18.out)
    clear Q16_17
    have Q17_18 := Lib.hid (Q17.out.on HA18.out)
    clear Q17
    have Q18 := Lib.hid r18
    clear r18
    go_wp2_with fail
    refine (and_any _ _ _ _ (notL la) (notL lb) _ Q17_18.out Q18.out (by omega) (by omega)).mono ?_
    rintro e w19 ⟨v19, rfl, ho19, hb19⟩
    obtain ⟨B19, d19, rfl, r19⟩ := shape_of ho19
    clear ho19
    have HA19 := Lib.hid hb19
    have HB19 := Lib.hid (bel_trans HB18.out HA19.out)
    clear hb19
    have Q1_19 := Lib.hid (Q1_18.out.on HA19.out)
    clear Q1_18
    have Q2_19 := Lib.hid (Q2_18.out.on HA19.out)
    clear Q2_18
    have Q16_19 := Lib.hid (Q16_18.out.on HA19.out)
    clear Q16_18
    have Q17_19 := Lib.hid (Q17_18.out.on HA19.out)
    clear Q17_18
    have Q18_19 := Lib.hid (Q18.out.on HA19.out)
    clear Q18
    have Q19 := Lib.hid r19
    clear r19
    clear Q17_19
    clear Q18_19
    go_wp2_with fail
    refine (eqset_any _ _ _ _ (notL (orL la lb)) (andL (notL la) (notL lb)) _ Q16_19.out Q19.out (by omega) (by omega)).mono ?_
    rintro e w20 ⟨rfl, hb20⟩
    rw [show decide (notL (orL la lb) = andL (notL la) (notL lb)) = true from decide_eq_true (not_or_l la lb)]
    have HA20 := Lib.hid hb20
    have HB20 := Lib.hid (bel_trans HB19.out HA20.out)
    clear hb20
    have Q1_20 := Lib.hid (Q1_19.out.on HA20.out)
    clear Q1_19
    have Q2_20 := Lib.hid (Q2_19.out.on HA20.out)
    clear Q2_19
    have Q16_20 := Lib.hid (Q16_19.out.on HA20.out)
    clear Q16_19
    have Q19_20 := Lib.hid (Q19.out.on HA20.out)
    clear Q19
    clear Q16_20
    clear Q19_20
    go_wp2_with fail
    refine (count_any B1 d1 la _ Q1_20.out (by omega)).mono ?_
    rintro e w21 ⟨rfl, hb21⟩
    rw [K1.out]
    have HA21 := Lib.hid hb21
    have HB21 := Lib.hid (bel_trans HB20.out HA21.out)
    clear hb21
    have Q1_21 := Lib.hid (Q1_20.out.on HA21.out)
    clear Q1_20
    have Q2_21 := Lib.hid (Q2_20.out.on HA21.out)
    clear Q2_20
    go_wp2_with fail
    refine (not_any B1 d1 la _ Q1_21.out (by omega)).mono ?_
    rintro e w22 ⟨v22, rfl, ho22, hb22⟩
    obtain ⟨B22, d22, rfl, r22⟩ := shape_of ho22
    clear ho22
    have HA22 := Lib.hid hb22
    have HB22 := Lib.hid (bel_trans HB21.out HA22.out)
    clear hb22
    have Q1_22 := Lib.hid (Q1_21.out.on HA22.out)
    clear Q1_21
    have Q2_22 := Lib.hid (Q2_21.out.on HA22.out)
    clear Q2_21
    have Q22 := Lib.hid r22
    clear r22
    go_wp2_with fail
    refine (count_any _ _ (notL la) _ Q22.out (by omega)).mono ?_
    rintro e w23 ⟨rfl, hb23⟩
    rw [K2.out]
    have HA23 := Lib.hid hb23
    have HB23 := Lib.hid (bel_trans HB22.out HA23.out)
    clear hb23
    have Q1_23 := Lib.hid (Q1_22.out.on HA23.out)
    clear Q1_22
    have Q2_23 := Lib.hid (Q2_22.out.on HA23.out)
    clear Q2_22
    have Q22_23 := Lib.hid (Q22.out.on HA23.out)
    clear Q22
    clear Q22_23
    go_wp2_with fail
    refine (not_any none 0 [] _ Rgs.nil (by simp)).mono ?_
    rintro e w24 ⟨v24, rfl, ho24, hb24⟩
    obtain ⟨B24, d24, rfl, r24⟩ := shape_of ho24
    clear ho24
    have HA24 := Lib.hid hb24
    have HB24 := Lib.hid (bel_trans HB23.out HA24.out)
    clear hb24
    have Q1_24 := Lib.hid (Q1_23.out.on HA24.out)
    clear Q1_23
    have Q2_24 := Lib.hid (Q2_23.out.on HA24.out)
    clear Q2_23
    have Q24 := Lib.hid r24
    clear r24
    go_wp2_with fail
    refine (count_any _ _ (notL []) _ Q24.out (by omega)).mono ?_
    rintro e w25 ⟨rfl, hb25⟩
    rw [K3.out]
    have HA25 := Lib.hid hb25
    have HB25 := Lib.hid (bel_trans HB24.out HA25.out)
    clear hb25
    have Q1_25 := Lib.hid (Q1_24.out.on HA25.out)
    clear Q1_24
    have Q2_25 := Lib.hid (Q2_24.out.on HA25.out)
    clear Q2_24
    have Q24_25 := Lib.hid (Q24.out.on HA25.out)
    clear Q24
    clear Q24_25
    go_wp2_with fail
    refine (count_any B1 d1 la _ Q1_25.out (by omega)).mono ?_
    rintro e w26 ⟨rfl, hb26⟩
    rw [K1.out]
    have HA26 := Lib.hid hb26
    have HB26 := Lib.hid (bel_trans HB25.out HA26.out)
    clear hb26
    have Q1_26 := Lib.hid (Q1_25.out.on HA26.out)
    clear Q1_25
    have Q2_26 := Lib.hid (Q2_25.out.on HA26.out)
    clear Q2_25
    go_wp2_with fail
    refine (count_any B2 d2 lb _ Q2_26.out (by omega)).mono ?_
    rintro e w27 ⟨rfl, hb27⟩
    rw [K4.out]
    have HA27 := Lib.hid hb27
    have HB27 := Lib.hid (bel_trans HB26.out HA27.out)
    clear hb27
    have Q1_27 := Lib.hid (Q1_26.out.on HA27.out)
    clear Q1_26
    have Q2_27 := Lib.hid (Q2_26.out.on HA27.out)
    clear Q2_26
    go_wp2_with fail
    refine (or_any B1 B2 d1 d2 la lb _ Q1_27.out Q2_27.out (by omega)).mono ?_
    rintro e w28 ⟨v28, rfl, ho28, hb28⟩
    obtain ⟨B28, d28, rfl, r28⟩ := shape_of ho28
    clear ho28
    have HA28 := Lib.hid hb28
    have HB28 := Lib.hid (bel_trans HB27.out HA28.out)
    clear hb28
    have Q1_28 := Lib.hid (Q1_27.out.on HA28.out)
    clear Q1_27
    have Q2_28 := Lib.hid (Q2_27.out.on HA28.out)
    clear Q2_27
    have Q28 := Lib.hid r28
    clear r28
    go_wp2_with fail
    refine (count_any _ _ (orL la lb) _ Q28.out (by omega)).mono ?_
    rintro e w29 ⟨rfl, hb29⟩
    rw [K5.out]
    have HA29 := Lib.hid hb29
    have HB29 := Lib.hid (bel_trans HB28.out HA29.out)
    clear hb29
    have Q1_29 := Lib.hid (Q1_28.out.on HA29.out)
    clear Q1_28
    have Q2_29 := Lib.hid (Q2_28.out.on HA29.out)
    clear Q2_28
    have Q28_29 := Lib.hid (Q28.out.on HA29.out)
    clear Q28
    clear Q28_29
    go_wp2_with fail
    refine (and_any B1 B2 d1 d2 la lb _ Q1_29.out Q2_29.out (by omega) (by omega)).mono ?_
    rintro e w30 ⟨v30, rfl, ho30, hb30⟩
    obtain ⟨B30, d30, rfl, r30⟩ := shape_of ho30
    clear ho30
    have HA30 := Lib.hid hb30
    have HB30 := Lib.hid (bel_trans HB29.out HA30.out)
    clear hb30
    have Q1_30 := Lib.hid (Q1_29.out.on HA30.out)
    clear Q1_29
    have Q2_30 := Lib.hid (Q2_29.out.on HA30.out)
    clear Q2_29
    have Q30 := Lib.hid r30
    clear r30
    go_wp2_with fail
    refine (count_any _ _ (andL la lb) _ Q30.out (by omega)).mono ?_
    rintro e w31 ⟨rfl, hb31⟩
    rw [K6.out]
    have HA31 := Lib.hid hb31
    have HB31 := Lib.hid (bel_trans HB30.out HA31.out)
    clear hb31
    have Q1_31 := Lib.hid (Q1_30.out.on HA31.out)
    clear Q1_30
    have Q2_31 := Lib.hid (Q2_30.out.on HA31.out)
    clear Q2_30
    have Q30_31 := Lib.hid (Q30.out.on HA31.out)
    clear Q30
    clear Q30_31
    go_wp2_with fail
    refine (wakes_any _).mono ?_
    rintro e w32 ⟨rfl, hb32⟩
    have HA32 := Lib.hid hb32
    have HB32 := Lib.hid (bel_trans HB31.out HA32.out)
    clear hb32
    have Q1_32 := Lib.hid (Q1_31.out.on HA32.out)
    clear Q1_31
    have Q2_32 := Lib.hid (Q2_31.out.on HA32.out)
    clear Q2_31
    go_wp2_with fail
    go_ret
    exact ⟨rfl, HB32.out⟩
end Go.Proofs.Ytfjcljhodnkieaa
