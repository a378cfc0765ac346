/-
  A tree by a row of numbers (Tree), of the statements' own: a tree of right kinds and fields, its groups numbered anew. No conditions.
-/
import Derived.Test.YtceeimolfalmpaaXD
namespace Go.Proofs.Ytceeimolfalmpaa
open Go.RowKit ObSets ObTree ObTree.Tree
set_option maxHeartbeats 8000000 in
set_option maxRecDepth 100000 in
theorem tree_any (A : Option Addr) (n c : Nat) (Z : List Int) (w : World) (hZ : IntsAt w (.slice A n c) Z) (hn : Z.length = n) (hnb : n ≤ maxLen) : Calls Try.prog 12 #[.slice A n c] w (RetMk w) := by
  have hnb' : n ≤ 9223372036854775807 := by unfold maxLen at hnb; omega
  clear hnb
  have hZ' : ∀ (j : Nat) z, Z[j]? = some z → ∃ g o, A = some ⟨g, o, none⟩ ∧ g < w.heap.size ∧ w.cell? ⟨g, o + j, none⟩ = some (.int .i64 z) := by
    obtain ⟨A', c', e, h⟩ := hZ
    injection e with e1 e2 e3
    subst e1; exact h
  have HZ := Lib.hid hZ'; have HLZ := Lib.hid hn
  clear hZ hZ' hn
  have ha0 := (Below.refl w.heap.size w).alloc (Nat.le_refl _) (.cells #[.slice none 0 0] 24)
  have hG := heap_new w (.cells #[.slice none 0 0] 24)
  have hz : (w.alloc (.cells #[.slice none 0 0] 24)).heap.size = w.heap.size + 1 := by simp
  go_enter Try.func12, Try.ntmps12
  go_upto_region 3 with fail
  generalize w.alloc (.cells #[.slice none 0 0] 24) = W0 at *
  have HB0 := Lib.hid ha0; have HG0 := Lib.hid hG
  clear ha0 hG
  go_loopw [3, 4] (fun ts ti wr => ∃ (i : Nat) (As : Option Addr) (sn sc : Nat) (Ts : List Tree), ti = .int .i64 (i : Int) ∧ ts = .slice As sn sc ∧ Ts.length = sn ∧ i ≤ n ∧ i ≤ 24 ∧ Hid (tot Ts ≤ i) ∧ Hid (sn ≤ i) ∧ Hid (Stk wr As sc Ts) ∧ Hid (Below (w.heap.size + 1) W0 wr)) (fun _ ti _ => n - (intOf ti).toNat)
  case atStart => exact ⟨0, none, 0, 0, [], rfl, rfl, rfl, Nat.zero_le _, Nat.zero_le _, Lib.hid (Nat.le_refl _), Lib.hid (Nat.le_refl _), Lib.hid ⟨Nat.le_refl _, fun _ => ⟨rfl, rfl⟩, fun j T h => by simp at h⟩, Lib.hid (Below.refl _ _)⟩
  case round =>
    obtain ⟨i, As, sn, sc, Ts, rfl, rfl, hTs, hi, hi24, HTO, HSI, HSK, HB⟩ := hrel
    have hws := HB.out.size
    by_cases hin : i < n
    · have d1 : decide (i < n) = true := decide_eq_true hin
      have hin' : (i : Int) < (n : Int) := by omega
      by_cases hi2 : i < 24
      · have d2 : decide (i < 24) = true := decide_eq_true hi2
        have hsi := HSI.out
        have hsn : sn ≤ 24 := by omega
        obtain ⟨tz, htz⟩ : ∃ tz : Int, (sn : Int) - 1 = tz := ⟨_, rfl⟩
        obtain ⟨z, hzz⟩ : ∃ z, Z[i]? = some z := ⟨_, List.getElem?_eq_getElem (by rw [HLZ.out]; exact hin)⟩
        obtain ⟨g, o, rfl, hgl, hcz⟩ := HZ.out i z hzz
        have hcw : wr.cell? ⟨g, o + i, none⟩ = some (.int .i64 z) := (HB.out.cell (p := ⟨g, o + i, none⟩) (by show g < w.heap.size + 1; omega)).trans ((HB0.out.cell (p := ⟨g, o + i, none⟩) hgl).trans hcz)
        have HW1 := Lib.hid (fun (q : Int) (W : World) => within_any q 24 (by omega) (by omega) W)
        have HW2 := Lib.hid (fun (q : Int) (W : World) => within_any q 5 (by omega) (by omega) W)
        have HKP := Lib.hid (show ∀ W, Below wr.heap.size wr W → W.cell? ⟨g, o + i, none⟩ = some (.int .i64 z) from fun W hW => (hW.cell (p := ⟨g, o + i, none⟩) (by show g < wr.heap.size; omega)).trans hcw)
        clear hzz hcz
        go_upto_region 5 with fail
        go_region_held3 (fun W => W.cell? ⟨g, o + i, none⟩ = some (.int .i64 z) ∧ Below wr.heap.size wr W) (first | exact ⟨HKP.out _ (Below.refl _ _).drew, (Below.refl _ _).drew⟩ | exact ⟨HKP.out _ (S.bel_trans (held4 (by assumption)) (Below.refl _ _).drew), S.bel_trans (held4 (by assumption)) (Below.refl _ _).drew⟩ | assumption | fail) (first
          | (go_at_call 10; (with_reducible refine (HW1.out _ _).mono ?_); rintro e w10 ⟨k, hk, rfl, rfl⟩)
          | (go_at_call 10; (with_reducible refine (HW2.out _ _).mono ?_); rintro e w11 ⟨k2, hk2, rfl, rfl⟩)
          | fail)
        clear HW1 HW2 HKP hcw
        have HB1 := Lib.hid (show Below wr.heap.size wr wr.drew from (Below.refl _ _).drew)
        have hw1 : wr.drew.heap.size = wr.heap.size := rfl
        have HSK1 := Lib.hid (HSK.out.below (Below.refl wr.heap.size wr).drew)
        have HT0 := Lib.hid HTO.out
        rename_i hHeld
        clear hHeld
        generalize wr.drew = w1 at *
        go_upto_block 2 with fail
        have hA1 := (Below.refl w1.heap.size w1).alloc (Nat.le_refl _) (.cells #[.slice none 0 0] 24)
        have hGA := heap_new w1 (.cells #[.slice none 0 0] 24)
        have HSK2 := Lib.hid (HSK1.out.below hA1)
        have hw2 : (w1.alloc (.cells #[.slice none 0 0] 24)).heap.size = w1.heap.size + 1 := by simp
        rw [hw1] at hA1 hGA hw2
        have HA1 := Lib.hid hA1
        have HGA := Lib.hid hGA
        have HK1 := Lib.hid hw1
        clear hA1 hGA hw1
        generalize w1.alloc (.cells #[.slice none 0 0] 24) = w2 at *
        obtain ⟨k8, hk8⟩ : ∃ k8, wr.heap.size = k8 := ⟨_, rfl⟩
        have HKW := Lib.hid hk8
        rw [hk8] at hws hw2 HA1 HGA HK1 HB1 ⊢
        clear hk8
        have hk2' : k2 < 5 := by omega
        have hk' : k < 24 := by omega
        have hz8 : k8 < w2.heap.size := by omega
        go_cut [7] from 12 to 145 (fun v wc => ∃ (tp : Nat) (T : Tree) (At : Option Addr) (ct : Nat), v = .int .i64 (tp : Int) ∧ tp ≤ sn ∧ Hid (Mk T) ∧ Hid (tot (Ts.take tp) + size T ≤ i + 1) ∧ (Hid (Nr wc At (flat 0 T)) ∧ Hid (At = none → flat 0 T = [] ∧ ct = 0) ∧ Hid (wc.heap[k8]? = some (.cells #[.slice At (size T) ct] 24)) ∧ Hid (Below k8 w1 wc)))
        case first =>
          have HSKB := Lib.hid (show ∀ (j : Nat) T, Ts[j]? = some T → ∀ b, As = some ⟨b, 0, none⟩ → b < k8 from fun j T hj b hb => by
            obtain ⟨b', _, _, e, hl, _⟩ := HSK.out.2.2 j T hj
            rw [hb] at e; injection e with e; injection e with e _ _; subst e; have := HKW.out; omega)
          by_cases hn0 : sn = 0
          · have htz1 : tz = -1 := by omega
            subst htz1
            have HSN := Lib.hid hn0
            clear hn0
            by_cases h23 : k = 23
            · have e23 : ((k : Int) == 23) = true := by simp; omega
              clear h23
              go_wp2_with fail
              refine (one_any 65 _).mono ?_
              rintro e w3 ⟨A3, c3, rfl, hN3, hA3, hb3⟩
              have HG3 := Lib.hid (keepL HGA.out hb3)
              obtain ⟨g3, f3⟩ := obj29 HG3.out
              have HFC := Lib.hid (fin_cut (m := 1) (T := .leaf (setN [(65, 65)])) HA1.out (hb3.mono (Nat.le_of_lt hz8)) HG3.out hN3 hA3 rfl rfl)
              clear hN3 hA3 hb3
              go_wp2_with fail
              go_meet
              exact ⟨sn, .leaf (setN [(65, 65)]), A3, c3, congrArg (Value.int .i64) (by have := HSN.out; omega), Nat.le_refl _, Lib.hid (setN_ok [(65, 65)] (by simp)), Lib.hid (by have h1 := HT0.out; have h2 := tot_take_le Ts sn; simp only [size]; omega), HFC.out⟩
            · have e23 : ((k : Int) == 23) = false := beq_eq_false_iff_ne.2 (by omega)
              by_cases h13 : k < 13
              · have l13 : decide ((k : Int) < 13) = true := decide_eq_true (by omega)
                have m13 : decide (k < 13) = true := decide_eq_true (by omega)
                have HLF := Lib.hid (fun W => leaf_any (k % 13) (Nat.mod_lt _ (by decide)) W)
                have emd : ((k : Int)).tmod 13 = ((k % 13 : Nat) : Int) := by have := Int.tmod_eq_emod_of_nonneg (a := (k : Int)) (b := 13) (by omega); omega
                go_wp2_with fail
                refine (HLF.out _).mono ?_
                rintro e w3 ⟨A3, c3, rfl, hN3, hA3, hb3⟩
                have HG3 := Lib.hid (keepL HGA.out hb3)
                obtain ⟨g3, f3⟩ := obj29 HG3.out
                have HFC := Lib.hid (fin_cut (m := 1) (T := .leaf (leafN (k % 13))) HA1.out (hb3.mono (Nat.le_of_lt hz8)) HG3.out hN3 hA3 rfl rfl)
                clear hN3 hA3 hb3
                go_wp2_with fail
                go_meet
                exact ⟨sn, .leaf (leafN (k % 13)), A3, c3, congrArg (Value.int .i64) (by have := HSN.out; omega), Nat.le_refl _, Lib.hid (leafN_ok (k % 13)), Lib.hid (by have h1 := HT0.out; have h2 := tot_take_le Ts sn; simp only [size]; omega), HFC.out⟩
              · have l13 : decide ((k : Int) < 13) = false := decide_eq_false (by omega)
                have m13 : decide (k < 13) = false := decide_eq_false (by omega)
                have HLF := Lib.hid (fun W => leaf_any (k % 13) (Nat.mod_lt _ (by decide)) W)
                have emd : ((k : Int)).tmod 13 = ((k % 13 : Nat) : Int) := by have := Int.tmod_eq_emod_of_nonneg (a := (k : Int)) (b := 13) (by omega); omega
                go_wp2_with fail
                refine (HLF.out _).mono ?_
                rintro e w3 ⟨A3, c3, rfl, hN3, hA3, hb3⟩
                have HG3 := Lib.hid (keepL HGA.out hb3)
                obtain ⟨g3, f3⟩ := obj29 HG3.out
                have HFC := Lib.hid (fin_cut (m := 1) (T := .leaf (leafN (k % 13))) HA1.out (hb3.mono (Nat.le_of_lt hz8)) HG3.out hN3 hA3 rfl rfl)
                clear hN3 hA3 hb3
                go_wp2_with fail
                go_meet
                exact ⟨sn, .leaf (leafN (k % 13)), A3, c3, congrArg (Value.int .i64) (by have := HSN.out; omega), Nat.le_refl _, Lib.hid (leafN_ok (k % 13)), Lib.hid (by have h1 := HT0.out; have h2 := tot_take_le Ts sn; simp only [size]; omega), HFC.out⟩
          · obtain ⟨m, hm⟩ : ∃ m, sn = m + 1 := ⟨sn - 1, by omega⟩
            have htz1 : tz = (m : Int) := by omega
            subst htz1
            have HSN := Lib.hid hm
            have d0 : decide ((m : Int) < 0) = false := decide_eq_false (by omega)
            obtain ⟨T1, hT1⟩ : ∃ T, Ts[m]? = some T := ⟨_, List.getElem?_eq_getElem (by omega)⟩
            obtain ⟨b, At1, ct1, rfl, hbl, hc1, hN1, hA1, hM1⟩ := HSK2.out.2.2 m T1 hT1
            have hbk : b < k8 := HSKB.out m T1 hT1 b rfl
            have HN1 := Lib.hid hN1; have HNA1 := Lib.hid hA1; have HM1 := Lib.hid hM1; have HT1 := Lib.hid (tot_one hT1)
            clear hT1 hN1 hA1 hM1
            have HSZ := Lib.hid (show size T1 ≤ 24 ∧ 1 ≤ size T1 from ⟨by have h1 := HT0.out; have h2 := tot_take_le Ts (m + 1); have h3 := HT1.out; omega, size_pos T1⟩)
            have hmi : (m : Int) < (sn : Int) := by omega
            clear hm
            by_cases h23 : k = 23
            · have e23 : ((k : Int) == 23) = true := by simp; omega
              clear h23
              go_wp2_with fail
              refine (one_any 65 _).mono ?_
              rintro e w3 ⟨A3, c3, rfl, hN3, hA3, hb3⟩
              have HG3 := Lib.hid (keepL HGA.out hb3)
              obtain ⟨g3, f3⟩ := obj29 HG3.out
              have HFC := Lib.hid (fin_cut (m := 1) (T := .leaf (setN [(65, 65)])) HA1.out (hb3.mono (Nat.le_of_lt hz8)) HG3.out hN3 hA3 rfl rfl)
              clear hN3 hA3 hb3
              go_wp2_with fail
              go_meet
              exact ⟨sn, .leaf (setN [(65, 65)]), A3, c3, congrArg (Value.int .i64) (by have := HSN.out; omega), Nat.le_refl _, Lib.hid (setN_ok [(65, 65)] (by simp)), Lib.hid (by have h1 := HT0.out; have h2 := tot_take_le Ts sn; simp only [size]; omega), HFC.out⟩
            · have e23 : ((k : Int) == 23) = false := beq_eq_false_iff_ne.2 (by omega)
              by_cases h13 : k < 13
              · have l13 : decide ((k : Int) < 13) = true := decide_eq_true (by omega)
                have m13 : decide (k < 13) = true := decide_eq_true (by omega)
                have HLF := Lib.hid (fun W => leaf_any (k % 13) (Nat.mod_lt _ (by decide)) W)
                have emd : ((k : Int)).tmod 13 = ((k % 13 : Nat) : Int) := by have := Int.tmod_eq_emod_of_nonneg (a := (k : Int)) (b := 13) (by omega); omega
                go_wp2_with fail
                refine (HLF.out _).mono ?_
                rintro e w3 ⟨A3, c3, rfl, hN3, hA3, hb3⟩
                have HG3 := Lib.hid (keepL HGA.out hb3)
                obtain ⟨g3, f3⟩ := obj29 HG3.out
                have HFC := Lib.hid (fin_cut (m := 1) (T := .leaf (leafN (k % 13))) HA1.out (hb3.mono (Nat.le_of_lt hz8)) HG3.out hN3 hA3 rfl rfl)
                clear hN3 hA3 hb3
                go_wp2_with fail
                go_meet
                exact ⟨sn, .leaf (leafN (k % 13)), A3, c3, congrArg (Value.int .i64) (by have := HSN.out; omega), Nat.le_refl _, Lib.hid (leafN_ok (k % 13)), Lib.hid (by have h1 := HT0.out; have h2 := tot_take_le Ts sn; simp only [size]; omega), HFC.out⟩
              · have l13 : decide ((k : Int) < 13) = false := decide_eq_false (by omega)
                have m13 : decide (k < 13) = false := decide_eq_false (by omega)
                by_cases hm0 : m = 0
                · have q1 : decide ((m : Int) < 1) = true := decide_eq_true (by omega)
                  have q1b : decide (m < 1) = true := decide_eq_true (by omega)
                  clear hm0
                  by_cases h16 : k < 16
                  · have l16 : decide ((k : Int) < 16) = true := decide_eq_true (by omega)
                    have m16 : decide (k < 16) = true := decide_eq_true (by omega)
                    have HLF := Lib.hid (fun W => leaf_any (k % 13) (Nat.mod_lt _ (by decide)) W)
                    have emd : ((k : Int)).tmod 13 = ((k % 13 : Nat) : Int) := by have := Int.tmod_eq_emod_of_nonneg (a := (k : Int)) (b := 13) (by omega); omega
                    go_wp2_with fail
                    refine (HLF.out _).mono ?_
                    rintro e w3 ⟨A3, c3, rfl, hN3, hA3, hb3⟩
                    have HG3 := Lib.hid (keepL HGA.out hb3)
                    obtain ⟨g3, f3⟩ := obj29 HG3.out
                    have HFC := Lib.hid (fin_cut (m := 1) (T := .leaf (leafN (k % 13))) HA1.out (hb3.mono (Nat.le_of_lt hz8)) HG3.out hN3 hA3 rfl rfl)
                    clear hN3 hA3 hb3
                    go_wp2_with fail
                    go_meet
                    exact ⟨sn, .leaf (leafN (k % 13)), A3, c3, congrArg (Value.int .i64) (by have := HSN.out; omega), Nat.le_refl _, Lib.hid (leafN_ok (k % 13)), Lib.hid (by have h1 := HT0.out; have h2 := tot_take_le Ts sn; simp only [size]; omega), HFC.out⟩
                  · have l16 : decide ((k : Int) < 16) = false := decide_eq_false (by omega)
                    have m16 : decide (k < 16) = false := decide_eq_false (by omega)
                    by_cases h22 : k = 22
                    · have e22 : ((k : Int) == 22) = true := by simp; omega
                      clear h22
                      have HLF := Lib.hid (fun W => leaf_any (k % 13) (Nat.mod_lt _ (by decide)) W)
                      have emd : ((k : Int)).tmod 13 = ((k % 13 : Nat) : Int) := by have := Int.tmod_eq_emod_of_nonneg (a := (k : Int)) (b := 13) (by omega); omega
                      go_wp2_with fail
                      refine (HLF.out _).mono ?_
                      rintro e w3 ⟨A3, c3, rfl, hN3, hA3, hb3⟩
                      have HG3 := Lib.hid (keepL HGA.out hb3)
                      obtain ⟨g3, f3⟩ := obj29 HG3.out
                      have HFC := Lib.hid (fin_cut (m := 1) (T := .leaf (leafN (k % 13))) HA1.out (hb3.mono (Nat.le_of_lt hz8)) HG3.out hN3 hA3 rfl rfl)
                      clear hN3 hA3 hb3
                      go_wp2_with fail
                      go_meet
                      exact ⟨sn, .leaf (leafN (k % 13)), A3, c3, congrArg (Value.int .i64) (by have := HSN.out; omega), Nat.le_refl _, Lib.hid (leafN_ok (k % 13)), Lib.hid (by have h1 := HT0.out; have h2 := tot_take_le Ts sn; simp only [size]; omega), HFC.out⟩
                    · have e22 : ((k : Int) == 22) = false := beq_eq_false_iff_ne.2 (by omega)
                      have l15 : decide ((k : Int) < 15) = false := decide_eq_false (by omega)
                      have m15 : decide (k < 15) = false := decide_eq_false (by omega)
                      have e15 : ((k : Int) == 15) = false := beq_eq_false_iff_ne.2 (by omega)
                      by_cases h16e : k = 16
                      · have e16 : ((k : Int) == 16) = true := by simp; omega
                        clear h16e
                        have HTM := Lib.hid (fun W => times_c (k2) (by omega) W)
                        have HABF := Lib.hid (fun (mn mx : Int) (W : World) (hW : Below w2.heap.size w2 W) => one_ab ⟨7, 0, 0, [], mn, mx, 0⟩ rfl T1 (by have := HSZ.out.1; omega) At1 ct1 W (HN1.out.below hW) HNA1.out)
                        have HKP := Lib.hid (show ∀ W, Below k8 w2 W → (W.cell? ⟨b, m, none⟩ = some (.slice At1 (size T1) ct1) ∧ Below k8 w2 W) from fun W hW => ⟨(hW.cell (p := ⟨b, m, none⟩) hbk).trans hc1, hW⟩)
                        have HGD := Lib.hid (show w2.drew.heap[k8]? = some (.cells #[.slice none 0 0] 24) from HGA.out)
                        have HBD := Lib.hid (show Below w2.heap.size w2 w2.drew from (Below.refl _ _).drew)
                        have HSS := Lib.hid (fun (mn mx : Int) => (rfl : size (.one ⟨7, 0, 0, [], mn, mx, 0⟩ T1) = size T1 + 1))
                        go_wp2_with fail
                        go_region_held3 (fun W => W.cell? ⟨b, m, none⟩ = some (.slice At1 (size T1) ct1) ∧ Below k8 w2 W) (first
                          | exact HKP.out _ (Below.refl k8 w2).drew
                          | assumption
                          | exact HKP.out _ (keep_mono (by assumption) hz8 (by assumption))
                          | exact HKP.out _ (Below.setCell (p := ⟨k8, 0, none⟩) (held3k (by assumption)) (Nat.le_refl _) _)
                          | fail) (first
                          | (go_at_call 33; (with_reducible refine (HTM.out _).mono ?_); rintro e w4 ⟨mn, mx, rfl, hok, hb4⟩)
                          | (go_at_call 21; (with_reducible refine (HABF.out _ _ _ (S.bel_trans HBD.out hb4)).mono ?_); rintro e w5 ⟨A3, c3, rfl, hN3, hA3, hb5⟩; have hG3 := keepL (keepL HGD.out hb4) hb5; obtain ⟨g3, f3⟩ := obj29 hG3)
                          | fail)
                        have HFC := Lib.hid (fin_cut (T := .one ⟨7, 0, 0, [], mn, mx, 0⟩ T1) HA1.out (((show Below k8 w2 w2.drew from (Below.refl _ _).drew).trans (hb4.mono (by show k8 ≤ w2.heap.size; omega))).trans (hb5.mono (by have h1 := hb4.size; have h2 : w2.drew.heap.size = w2.heap.size := rfl; omega))) hG3 hN3 hA3 rfl rfl)
                        clear hN3 hA3 hb4 hb5 hG3 g3 f3
                        go_wp2_with fail
                        go_meet
                        exact ⟨m, .one ⟨7, 0, 0, [], mn, mx, 0⟩ T1, A3, c3, rfl, by have := HSN.out; omega, Lib.hid ⟨.inl ⟨rfl, by unfold Fine; exact ⟨rfl, rfl, rfl, hok⟩⟩, HM1.out⟩, Lib.hid (by have h1 := HT0.out; have h2 := tot_take_le Ts (m + 1); have h3 := HT1.out; simp only [size]; omega), HFC.out⟩
                      · have e16 : ((k : Int) == 16) = false := beq_eq_false_iff_ne.2 (by omega)
                        by_cases h17 : k = 17
                        · have e17 : ((k : Int) == 17) = true := by simp; omega
                          clear h17
                          obtain ⟨k5, hk5⟩ : ∃ k5 : Nat, 5 + k2 = k5 := ⟨_, rfl⟩
                          have hk5a : k5 < 10 := by omega
                          have e5k : 5 + (k2 : Int) = (k5 : Int) := by omega
                          have e5v : IntKind.i64.wrap (k5 : Int) = (k5 : Int) := IntWalk.i64_in _ (by omega)
                          have e5w : IntKind.i64.wrap (5 + (k2 : Int)) = (k5 : Int) := by rw [e5k]; exact e5v
                          clear hk5
                          have HTM := Lib.hid (fun W => times_c (k5) (by omega) W)
                          have HABF := Lib.hid (fun (mn mx : Int) (W : World) (hW : Below w2.heap.size w2 W) => one_ab ⟨7, 0, 0, [], mn, mx, 0⟩ rfl T1 (by have := HSZ.out.1; omega) At1 ct1 W (HN1.out.below hW) HNA1.out)
                          have HKP := Lib.hid (show ∀ W, Below k8 w2 W → (W.cell? ⟨b, m, none⟩ = some (.slice At1 (size T1) ct1) ∧ Below k8 w2 W) from fun W hW => ⟨(hW.cell (p := ⟨b, m, none⟩) hbk).trans hc1, hW⟩)
                          have HGD := Lib.hid (show w2.drew.heap[k8]? = some (.cells #[.slice none 0 0] 24) from HGA.out)
                          have HBD := Lib.hid (show Below w2.heap.size w2 w2.drew from (Below.refl _ _).drew)
                          have HSS := Lib.hid (fun (mn mx : Int) => (rfl : size (.one ⟨7, 0, 0, [], mn, mx, 0⟩ T1) = size T1 + 1))
                          go_wp2_with fail
                          go_region_held3 (fun W => W.cell? ⟨b, m, none⟩ = some (.slice At1 (size T1) ct1) ∧ Below k8 w2 W) (first
                            | exact HKP.out _ (Below.refl k8 w2).drew
                            | assumption
                            | exact HKP.out _ (keep_mono (by assumption) hz8 (by assumption))
                            | exact HKP.out _ (Below.setCell (p := ⟨k8, 0, none⟩) (held3k (by assumption)) (Nat.le_refl _) _)
                            | fail) (first
                            | (go_at_call 33; (with_reducible refine (HTM.out _).mono ?_); rintro e w4 ⟨mn, mx, rfl, hok, hb4⟩)
                            | (go_at_call 21; (with_reducible refine (HABF.out _ _ _ (S.bel_trans HBD.out hb4)).mono ?_); rintro e w5 ⟨A3, c3, rfl, hN3, hA3, hb5⟩; have hG3 := keepL (keepL HGD.out hb4) hb5; obtain ⟨g3, f3⟩ := obj29 hG3)
                            | fail)
                          clear e5v e5w
                          have HFC := Lib.hid (fin_cut (T := .one ⟨7, 0, 0, [], mn, mx, 0⟩ T1) HA1.out (((show Below k8 w2 w2.drew from (Below.refl _ _).drew).trans (hb4.mono (by show k8 ≤ w2.heap.size; omega))).trans (hb5.mono (by have h1 := hb4.size; have h2 : w2.drew.heap.size = w2.heap.size := rfl; omega))) hG3 hN3 hA3 rfl rfl)
                          clear hN3 hA3 hb4 hb5 hG3 g3 f3
                          go_wp2_with fail
                          go_meet
                          exact ⟨m, .one ⟨7, 0, 0, [], mn, mx, 0⟩ T1, A3, c3, rfl, by have := HSN.out; omega, Lib.hid ⟨.inl ⟨rfl, by unfold Fine; exact ⟨rfl, rfl, rfl, hok⟩⟩, HM1.out⟩, Lib.hid (by have h1 := HT0.out; have h2 := tot_take_le Ts (m + 1); have h3 := HT1.out; simp only [size]; omega), HFC.out⟩
                        · have e17 : ((k : Int) == 17) = false := beq_eq_false_iff_ne.2 (by omega)
                          by_cases h18 : k = 18
                          · have e18 : ((k : Int) == 18) = true := by simp; omega
                            clear h18
                            have HAB := Lib.hid (one_ab ⟨8, 0, 0, [], 0, 0, 0⟩ rfl T1 (by have := HSZ.out.1; omega) At1 ct1 w2 HN1.out HNA1.out)
                            go_wp2_with fail
                            refine HAB.out.mono ?_
                            rintro e w3 ⟨A3, c3, rfl, hN3, hA3, hb3⟩
                            have HG3 := Lib.hid (keepL HGA.out hb3)
                            obtain ⟨g3, f3⟩ := obj29 HG3.out
                            generalize hsz3 : size (.one ⟨8, 0, 0, [], 0, 0, 0⟩ T1) = s3 at *
                            have HS3 := Lib.hid hsz3
                            clear hsz3
                            have HFC := Lib.hid (fin_cut (T := .one ⟨8, 0, 0, [], 0, 0, 0⟩ T1) HA1.out (hb3.mono (Nat.le_of_lt hz8)) HG3.out hN3 hA3 rfl HS3.out.symm)
                            clear hN3 hA3 hb3
                            go_wp2_with fail
                            go_meet
                            exact ⟨m, .one ⟨8, 0, 0, [], 0, 0, 0⟩ T1, A3, c3, rfl, by have := HSN.out; omega, Lib.hid ⟨.inr (.inl ⟨rfl, rfl, rfl, rfl, rfl⟩), HM1.out⟩, Lib.hid (by have h1 := HT0.out; have h2 := tot_take_le Ts (m + 1); have h3 := HT1.out; simp only [size]; omega), HFC.out⟩
                          · have e18 : ((k : Int) == 18) = false := beq_eq_false_iff_ne.2 (by omega)
                            have HAB := Lib.hid (one_ab ⟨9, 0, 0, [], 0, 0, (k2 : Int)⟩ rfl T1 (by have := HSZ.out.1; omega) At1 ct1 w2 HN1.out HNA1.out)
                            go_wp2_with fail
                            refine HAB.out.mono ?_
                            rintro e w3 ⟨A3, c3, rfl, hN3, hA3, hb3⟩
                            have HG3 := Lib.hid (keepL HGA.out hb3)
                            obtain ⟨g3, f3⟩ := obj29 HG3.out
                            generalize hsz3 : size (.one ⟨9, 0, 0, [], 0, 0, (k2 : Int)⟩ T1) = s3 at *
                            have HS3 := Lib.hid hsz3
                            clear hsz3
                            have HFC := Lib.hid (fin_cut (T := .one ⟨9, 0, 0, [], 0, 0, (k2 : Int)⟩ T1) HA1.out (hb3.mono (Nat.le_of_lt hz8)) HG3.out hN3 hA3 rfl HS3.out.symm)
                            clear hN3 hA3 hb3
                            go_wp2_with fail
                            go_meet
                            exact ⟨m, .one ⟨9, 0, 0, [], 0, 0, (k2 : Int)⟩ T1, A3, c3, rfl, by have := HSN.out; omega, Lib.hid ⟨.inr (.inr ⟨rfl, by unfold Fine; exact ⟨rfl, rfl, rfl, rfl, (by show (0 : Int) ≤ (k2 : Int); omega), (by show (k2 : Int) ≤ 255; omega)⟩⟩), HM1.out⟩, Lib.hid (by have h1 := HT0.out; have h2 := tot_take_le Ts (m + 1); have h3 := HT1.out; simp only [size]; omega), HFC.out⟩
                · have q1 : decide ((m : Int) < 1) = false := decide_eq_false (by omega)
                  have q1b : decide (m < 1) = false := decide_eq_false (by omega)
                  by_cases h15 : k < 15
                  · have l15 : decide ((k : Int) < 15) = true := decide_eq_true (by omega)
                    have m15 : decide (k < 15) = true := decide_eq_true (by omega)
                    obtain ⟨m1, hm1⟩ : ∃ m1, m = m1 + 1 := ⟨m - 1, by omega⟩
                    have etm : (m : Int) - 1 = (m1 : Int) := by omega
                    obtain ⟨T2, hT2⟩ : ∃ T, Ts[m1]? = some T := ⟨_, List.getElem?_eq_getElem (by have := HSN.out; omega)⟩
                    obtain ⟨b2, At2, ct2, eb2, hbl2, hc2, hN2, hA2, hM2⟩ := HSK2.out.2.2 m1 T2 hT2
                    injection eb2 with eb2
                    injection eb2 with eb2 _ _
                    subst eb2
                    have HM2 := Lib.hid hM2; have HT2 := Lib.hid (tot_one hT2)
                    have HSZ2 := Lib.hid (show size T2 ≤ 24 ∧ 1 ≤ size T2 from ⟨by have h1 := HT0.out; have h2 := tot_take_le Ts (m1 + 1); have h3 := HT2.out; omega, size_pos T2⟩)
                    have HCT := Lib.hid (show tot (Ts.take m1) + (size T2 + size T1 + 1) ≤ i + 1 by have h1 := HT0.out; have h2 := tot_take_le Ts (m + 1); have h3 := HT1.out; have h4 := HT2.out; rw [← hm1] at h4; omega)
                    have HTWO := Lib.hid (fun W (hW : Below w2.heap.size w2 W) => two_ab 5 T2 T1 HM1.out (by have := HSZ2.out.1; omega) (by have := HSZ.out.1; omega) At2 At1 ct2 ct1 W (hN2.below hW) hA2 (HN1.out.below hW) HNA1.out)
                    clear hT2 hN2 hA2 hM2
                    have him1 : (m1 : Int) < (sn : Int) := by have := HSN.out; omega
                    have HM1E := Lib.hid hm1
                    clear hm1
                    go_wp2_with fail
                    have ew0 : IntKind.i64.wrap ((m1 : Int)) = (m1 : Int) := IntWalk.i64_in _ (by omega)
                    have ew1 : IntKind.i64.wrap ((m : Int) - 1) = (m1 : Int) := by rw [etm]; exact ew0
                    go_still_tail 9, (by kernel_rfl)
                    change wpList _ _ _ _ _ w2.drew
                    clear ew0 ew1
                    have HBD := Lib.hid (show Below w2.heap.size w2 w2.drew from (Below.refl _ _).drew)
                    have HGD := Lib.hid (show w2.drew.heap[k8]? = some (.cells #[.slice none 0 0] 24) from HGA.out)
                    have hzd : w2.drew.heap.size = w2.heap.size := rfl
                    generalize w2.drew = wd at *
                    go_wp2_with fail
                    refine (HTWO.out _ HBD.out).mono ?_
                    rintro e w3 ⟨A3, c3, rfl, hN3, hA3, hb3⟩
                    have HG3 := Lib.hid (keepL HGD.out hb3)
                    obtain ⟨g3, f3⟩ := obj29 HG3.out
                    generalize hsz3 : size (.two ⟨5, 0, 0, [], 0, 0, 0⟩ T2 T1) = s3 at *
                    have HFC := Lib.hid (fin_cut (m := s3) (T := .two ⟨5, 0, 0, [], 0, 0, 0⟩ T2 T1) HA1.out ((HBD.out.mono (Nat.le_of_lt hz8)).trans (hb3.mono (by omega))) HG3.out hN3 hA3 rfl hsz3.symm)
                    clear hN3 hA3 hb3
                    have HS3 := Lib.hid hsz3
                    clear hsz3
                    go_wp2_with fail
                    go_meet
                    exact ⟨m1, .two ⟨5, 0, 0, [], 0, 0, 0⟩ T2 T1, A3, c3, congrArg (Value.int .i64) (by have := HM1E.out; omega), by have := HM1E.out; have := HSN.out; omega, Lib.hid ⟨⟨by decide, by unfold Fine; exact ⟨rfl, rfl, rfl, rfl⟩⟩, HM2.out, HM1.out⟩, Lib.hid HCT.out, HFC.out⟩
                  · have l15 : decide ((k : Int) < 15) = false := decide_eq_false (by omega)
                    have m15 : decide (k < 15) = false := decide_eq_false (by omega)
                    by_cases h22 : k = 22
                    · have e22 : ((k : Int) == 22) = true := by simp; omega
                      clear h22
                      obtain ⟨m1, hm1⟩ : ∃ m1, m = m1 + 1 := ⟨m - 1, by omega⟩
                      have etm : (m : Int) - 1 = (m1 : Int) := by omega
                      obtain ⟨T2, hT2⟩ : ∃ T, Ts[m1]? = some T := ⟨_, List.getElem?_eq_getElem (by have := HSN.out; omega)⟩
                      obtain ⟨b2, At2, ct2, eb2, hbl2, hc2, hN2, hA2, hM2⟩ := HSK2.out.2.2 m1 T2 hT2
                      injection eb2 with eb2
                      injection eb2 with eb2 _ _
                      subst eb2
                      have HM2 := Lib.hid hM2; have HT2 := Lib.hid (tot_one hT2)
                      have HSZ2 := Lib.hid (show size T2 ≤ 24 ∧ 1 ≤ size T2 from ⟨by have h1 := HT0.out; have h2 := tot_take_le Ts (m1 + 1); have h3 := HT2.out; omega, size_pos T2⟩)
                      have HCT := Lib.hid (show tot (Ts.take m1) + (size T2 + size T1 + 1) ≤ i + 1 by have h1 := HT0.out; have h2 := tot_take_le Ts (m + 1); have h3 := HT1.out; have h4 := HT2.out; rw [← hm1] at h4; omega)
                      have HTWO := Lib.hid (fun W (hW : Below w2.heap.size w2 W) => two_ab 5 T2 T1 HM1.out (by have := HSZ2.out.1; omega) (by have := HSZ.out.1; omega) At2 At1 ct2 ct1 W (hN2.below hW) hA2 (HN1.out.below hW) HNA1.out)
                      clear hT2 hN2 hA2 hM2
                      have him1 : (m1 : Int) < (sn : Int) := by have := HSN.out; omega
                      have HM1E := Lib.hid hm1
                      clear hm1
                      go_wp2_with fail
                      have ew0 : IntKind.i64.wrap ((m1 : Int)) = (m1 : Int) := IntWalk.i64_in _ (by omega)
                      have ew1 : IntKind.i64.wrap ((m : Int) - 1) = (m1 : Int) := by rw [etm]; exact ew0
                      go_still_tail 9, (by kernel_rfl)
                      change wpList _ _ _ _ _ w2.drew
                      clear ew0 ew1
                      have HBD := Lib.hid (show Below w2.heap.size w2 w2.drew from (Below.refl _ _).drew)
                      have HGD := Lib.hid (show w2.drew.heap[k8]? = some (.cells #[.slice none 0 0] 24) from HGA.out)
                      have hzd : w2.drew.heap.size = w2.heap.size := rfl
                      generalize w2.drew = wd at *
                      go_wp2_with fail
                      refine (HTWO.out _ HBD.out).mono ?_
                      rintro e w3 ⟨A3, c3, rfl, hN3, hA3, hb3⟩
                      have HG3 := Lib.hid (keepL HGD.out hb3)
                      obtain ⟨g3, f3⟩ := obj29 HG3.out
                      generalize hsz3 : size (.two ⟨5, 0, 0, [], 0, 0, 0⟩ T2 T1) = s3 at *
                      have HFC := Lib.hid (fin_cut (m := s3) (T := .two ⟨5, 0, 0, [], 0, 0, 0⟩ T2 T1) HA1.out ((HBD.out.mono (Nat.le_of_lt hz8)).trans (hb3.mono (by omega))) HG3.out hN3 hA3 rfl hsz3.symm)
                      clear hN3 hA3 hb3
                      have HS3 := Lib.hid hsz3
                      clear hsz3
                      go_wp2_with fail
                      go_meet
                      exact ⟨m1, .two ⟨5, 0, 0, [], 0, 0, 0⟩ T2 T1, A3, c3, congrArg (Value.int .i64) (by have := HM1E.out; omega), by have := HM1E.out; have := HSN.out; omega, Lib.hid ⟨⟨by decide, by unfold Fine; exact ⟨rfl, rfl, rfl, rfl⟩⟩, HM2.out, HM1.out⟩, Lib.hid HCT.out, HFC.out⟩
                    · have e22 : ((k : Int) == 22) = false := beq_eq_false_iff_ne.2 (by omega)
                      by_cases h15e : k = 15
                      · have e15 : ((k : Int) == 15) = true := by simp; omega
                        clear h15e
                        obtain ⟨m1, hm1⟩ : ∃ m1, m = m1 + 1 := ⟨m - 1, by omega⟩
                        have etm : (m : Int) - 1 = (m1 : Int) := by omega
                        obtain ⟨T2, hT2⟩ : ∃ T, Ts[m1]? = some T := ⟨_, List.getElem?_eq_getElem (by have := HSN.out; omega)⟩
                        obtain ⟨b2, At2, ct2, eb2, hbl2, hc2, hN2, hA2, hM2⟩ := HSK2.out.2.2 m1 T2 hT2
                        injection eb2 with eb2
                        injection eb2 with eb2 _ _
                        subst eb2
                        have HM2 := Lib.hid hM2; have HT2 := Lib.hid (tot_one hT2)
                        have HSZ2 := Lib.hid (show size T2 ≤ 24 ∧ 1 ≤ size T2 from ⟨by have h1 := HT0.out; have h2 := tot_take_le Ts (m1 + 1); have h3 := HT2.out; omega, size_pos T2⟩)
                        have HCT := Lib.hid (show tot (Ts.take m1) + (size T2 + size T1 + 1) ≤ i + 1 by have h1 := HT0.out; have h2 := tot_take_le Ts (m + 1); have h3 := HT1.out; have h4 := HT2.out; rw [← hm1] at h4; omega)
                        have HTWO := Lib.hid (fun W (hW : Below w2.heap.size w2 W) => two_ab 6 T2 T1 HM1.out (by have := HSZ2.out.1; omega) (by have := HSZ.out.1; omega) At2 At1 ct2 ct1 W (hN2.below hW) hA2 (HN1.out.below hW) HNA1.out)
                        clear hT2 hN2 hA2 hM2
                        have him1 : (m1 : Int) < (sn : Int) := by have := HSN.out; omega
                        have HM1E := Lib.hid hm1
                        clear hm1
                        go_wp2_with fail
                        have ew0 : IntKind.i64.wrap ((m1 : Int)) = (m1 : Int) := IntWalk.i64_in _ (by omega)
                        have ew1 : IntKind.i64.wrap ((m : Int) - 1) = (m1 : Int) := by rw [etm]; exact ew0
                        go_still_tail 9, (by kernel_rfl)
                        change wpList _ _ _ _ _ w2.drew
                        clear ew0 ew1
                        have HBD := Lib.hid (show Below w2.heap.size w2 w2.drew from (Below.refl _ _).drew)
                        have HGD := Lib.hid (show w2.drew.heap[k8]? = some (.cells #[.slice none 0 0] 24) from HGA.out)
                        have hzd : w2.drew.heap.size = w2.heap.size := rfl
                        generalize w2.drew = wd at *
                        go_wp2_with fail
                        refine (HTWO.out _ HBD.out).mono ?_
                        rintro e w3 ⟨A3, c3, rfl, hN3, hA3, hb3⟩
                        have HG3 := Lib.hid (keepL HGD.out hb3)
                        obtain ⟨g3, f3⟩ := obj29 HG3.out
                        generalize hsz3 : size (.two ⟨6, 0, 0, [], 0, 0, 0⟩ T2 T1) = s3 at *
                        have HFC := Lib.hid (fin_cut (m := s3) (T := .two ⟨6, 0, 0, [], 0, 0, 0⟩ T2 T1) HA1.out ((HBD.out.mono (Nat.le_of_lt hz8)).trans (hb3.mono (by omega))) HG3.out hN3 hA3 rfl hsz3.symm)
                        clear hN3 hA3 hb3
                        have HS3 := Lib.hid hsz3
                        clear hsz3
                        go_wp2_with fail
                        go_meet
                        exact ⟨m1, .two ⟨6, 0, 0, [], 0, 0, 0⟩ T2 T1, A3, c3, congrArg (Value.int .i64) (by have := HM1E.out; omega), by have := HM1E.out; have := HSN.out; omega, Lib.hid ⟨⟨by decide, by unfold Fine; exact ⟨rfl, rfl, rfl, rfl⟩⟩, HM2.out, HM1.out⟩, Lib.hid HCT.out, HFC.out⟩
                      · have e15 : ((k : Int) == 15) = false := beq_eq_false_iff_ne.2 (by omega)
                        by_cases h16e : k = 16
                        · have e16 : ((k : Int) == 16) = true := by simp; omega
                          clear h16e
                          have HTM := Lib.hid (fun W => times_c (k2) (by omega) W)
                          have HABF := Lib.hid (fun (mn mx : Int) (W : World) (hW : Below w2.heap.size w2 W) => one_ab ⟨7, 0, 0, [], mn, mx, 0⟩ rfl T1 (by have := HSZ.out.1; omega) At1 ct1 W (HN1.out.below hW) HNA1.out)
                          have HKP := Lib.hid (show ∀ W, Below k8 w2 W → (W.cell? ⟨b, m, none⟩ = some (.slice At1 (size T1) ct1) ∧ Below k8 w2 W) from fun W hW => ⟨(hW.cell (p := ⟨b, m, none⟩) hbk).trans hc1, hW⟩)
                          have HGD := Lib.hid (show w2.drew.heap[k8]? = some (.cells #[.slice none 0 0] 24) from HGA.out)
                          have HBD := Lib.hid (show Below w2.heap.size w2 w2.drew from (Below.refl _ _).drew)
                          have HSS := Lib.hid (fun (mn mx : Int) => (rfl : size (.one ⟨7, 0, 0, [], mn, mx, 0⟩ T1) = size T1 + 1))
                          go_wp2_with fail
                          go_region_held3 (fun W => W.cell? ⟨b, m, none⟩ = some (.slice At1 (size T1) ct1) ∧ Below k8 w2 W) (first
                            | exact HKP.out _ (Below.refl k8 w2).drew
                            | assumption
                            | exact HKP.out _ (keep_mono (by assumption) hz8 (by assumption))
                            | exact HKP.out _ (Below.setCell (p := ⟨k8, 0, none⟩) (held3k (by assumption)) (Nat.le_refl _) _)
                            | fail) (first
                            | (go_at_call 33; (with_reducible refine (HTM.out _).mono ?_); rintro e w4 ⟨mn, mx, rfl, hok, hb4⟩)
                            | (go_at_call 21; (with_reducible refine (HABF.out _ _ _ (S.bel_trans HBD.out hb4)).mono ?_); rintro e w5 ⟨A3, c3, rfl, hN3, hA3, hb5⟩; have hG3 := keepL (keepL HGD.out hb4) hb5; obtain ⟨g3, f3⟩ := obj29 hG3)
                            | fail)
                          have HFC := Lib.hid (fin_cut (T := .one ⟨7, 0, 0, [], mn, mx, 0⟩ T1) HA1.out (((show Below k8 w2 w2.drew from (Below.refl _ _).drew).trans (hb4.mono (by show k8 ≤ w2.heap.size; omega))).trans (hb5.mono (by have h1 := hb4.size; have h2 : w2.drew.heap.size = w2.heap.size := rfl; omega))) hG3 hN3 hA3 rfl rfl)
                          clear hN3 hA3 hb4 hb5 hG3 g3 f3
                          go_wp2_with fail
                          go_meet
                          exact ⟨m, .one ⟨7, 0, 0, [], mn, mx, 0⟩ T1, A3, c3, rfl, by have := HSN.out; omega, Lib.hid ⟨.inl ⟨rfl, by unfold Fine; exact ⟨rfl, rfl, rfl, hok⟩⟩, HM1.out⟩, Lib.hid (by have h1 := HT0.out; have h2 := tot_take_le Ts (m + 1); have h3 := HT1.out; simp only [size]; omega), HFC.out⟩
                        · have e16 : ((k : Int) == 16) = false := beq_eq_false_iff_ne.2 (by omega)
                          by_cases h17 : k = 17
                          · have e17 : ((k : Int) == 17) = true := by simp; omega
                            clear h17
                            obtain ⟨k5, hk5⟩ : ∃ k5 : Nat, 5 + k2 = k5 := ⟨_, rfl⟩
                            have hk5a : k5 < 10 := by omega
                            have e5k : 5 + (k2 : Int) = (k5 : Int) := by omega
                            have e5v : IntKind.i64.wrap (k5 : Int) = (k5 : Int) := IntWalk.i64_in _ (by omega)
                            have e5w : IntKind.i64.wrap (5 + (k2 : Int)) = (k5 : Int) := by rw [e5k]; exact e5v
                            clear hk5
                            have HTM := Lib.hid (fun W => times_c (k5) (by omega) W)
                            have HABF := Lib.hid (fun (mn mx : Int) (W : World) (hW : Below w2.heap.size w2 W) => one_ab ⟨7, 0, 0, [], mn, mx, 0⟩ rfl T1 (by have := HSZ.out.1; omega) At1 ct1 W (HN1.out.below hW) HNA1.out)
                            have HKP := Lib.hid (show ∀ W, Below k8 w2 W → (W.cell? ⟨b, m, none⟩ = some (.slice At1 (size T1) ct1) ∧ Below k8 w2 W) from fun W hW => ⟨(hW.cell (p := ⟨b, m, none⟩) hbk).trans hc1, hW⟩)
                            have HGD := Lib.hid (show w2.drew.heap[k8]? = some (.cells #[.slice none 0 0] 24) from HGA.out)
                            have HBD := Lib.hid (show Below w2.heap.size w2 w2.drew from (Below.refl _ _).drew)
                            have HSS := Lib.hid (fun (mn mx : Int) => (rfl : size (.one ⟨7, 0, 0, [], mn, mx, 0⟩ T1) = size T1 + 1))
                            go_wp2_with fail
                            go_region_held3 (fun W => W.cell? ⟨b, m, none⟩ = some (.slice At1 (size T1) ct1) ∧ Below k8 w2 W) (first
                              | exact HKP.out _ (Below.refl k8 w2).drew
                              | assumption
                              | exact HKP.out _ (keep_mono (by assumption) hz8 (by assumption))
                              | exact HKP.out _ (Below.setCell (p := ⟨k8, 0, none⟩) (held3k (by assumption)) (Nat.le_refl _) _)
                              | fail) (first
                              | (go_at_call 33; (with_reducible refine (HTM.out _).mono ?_); rintro e w4 ⟨mn, mx, rfl, hok, hb4⟩)
                              | (go_at_call 21; (with_reducible refine (HABF.out _ _ _ (S.bel_trans HBD.out hb4)).mono ?_); rintro e w5 ⟨A3, c3, rfl, hN3, hA3, hb5⟩; have hG3 := keepL (keepL HGD.out hb4) hb5; obtain ⟨g3, f3⟩ := obj29 hG3)
                              | fail)
                            clear e5v e5w
                            have HFC := Lib.hid (fin_cut (T := .one ⟨7, 0, 0, [], mn, mx, 0⟩ T1) HA1.out (((show Below k8 w2 w2.drew from (Below.refl _ _).drew).trans (hb4.mono (by show k8 ≤ w2.heap.size; omega))).trans (hb5.mono (by have h1 := hb4.size; have h2 : w2.drew.heap.size = w2.heap.size := rfl; omega))) hG3 hN3 hA3 rfl rfl)
                            clear hN3 hA3 hb4 hb5 hG3 g3 f3
                            go_wp2_with fail
                            go_meet
                            exact ⟨m, .one ⟨7, 0, 0, [], mn, mx, 0⟩ T1, A3, c3, rfl, by have := HSN.out; omega, Lib.hid ⟨.inl ⟨rfl, by unfold Fine; exact ⟨rfl, rfl, rfl, hok⟩⟩, HM1.out⟩, Lib.hid (by have h1 := HT0.out; have h2 := tot_take_le Ts (m + 1); have h3 := HT1.out; simp only [size]; omega), HFC.out⟩
                          · have e17 : ((k : Int) == 17) = false := beq_eq_false_iff_ne.2 (by omega)
                            by_cases h18 : k = 18
                            · have e18 : ((k : Int) == 18) = true := by simp; omega
                              clear h18
                              have HAB := Lib.hid (one_ab ⟨8, 0, 0, [], 0, 0, 0⟩ rfl T1 (by have := HSZ.out.1; omega) At1 ct1 w2 HN1.out HNA1.out)
                              go_wp2_with fail
                              refine HAB.out.mono ?_
                              rintro e w3 ⟨A3, c3, rfl, hN3, hA3, hb3⟩
                              have HG3 := Lib.hid (keepL HGA.out hb3)
                              obtain ⟨g3, f3⟩ := obj29 HG3.out
                              generalize hsz3 : size (.one ⟨8, 0, 0, [], 0, 0, 0⟩ T1) = s3 at *
                              have HS3 := Lib.hid hsz3
                              clear hsz3
                              have HFC := Lib.hid (fin_cut (T := .one ⟨8, 0, 0, [], 0, 0, 0⟩ T1) HA1.out (hb3.mono (Nat.le_of_lt hz8)) HG3.out hN3 hA3 rfl HS3.out.symm)
                              clear hN3 hA3 hb3
                              go_wp2_with fail
                              go_meet
                              exact ⟨m, .one ⟨8, 0, 0, [], 0, 0, 0⟩ T1, A3, c3, rfl, by have := HSN.out; omega, Lib.hid ⟨.inr (.inl ⟨rfl, rfl, rfl, rfl, rfl⟩), HM1.out⟩, Lib.hid (by have h1 := HT0.out; have h2 := tot_take_le Ts (m + 1); have h3 := HT1.out; simp only [size]; omega), HFC.out⟩
                            · have e18 : ((k : Int) == 18) = false := beq_eq_false_iff_ne.2 (by omega)
                              have HAB := Lib.hid (one_ab ⟨9, 0, 0, [], 0, 0, (k2 : Int)⟩ rfl T1 (by have := HSZ.out.1; omega) At1 ct1 w2 HN1.out HNA1.out)
                              go_wp2_with fail
                              refine HAB.out.mono ?_
                              rintro e w3 ⟨A3, c3, rfl, hN3, hA3, hb3⟩
                              have HG3 := Lib.hid (keepL HGA.out hb3)
                              obtain ⟨g3, f3⟩ := obj29 HG3.out
                              generalize hsz3 : size (.one ⟨9, 0, 0, [], 0, 0, (k2 : Int)⟩ T1) = s3 at *
                              have HS3 := Lib.hid hsz3
                              clear hsz3
                              have HFC := Lib.hid (fin_cut (T := .one ⟨9, 0, 0, [], 0, 0, (k2 : Int)⟩ T1) HA1.out (hb3.mono (Nat.le_of_lt hz8)) HG3.out hN3 hA3 rfl HS3.out.symm)
                              clear hN3 hA3 hb3
                              go_wp2_with fail
                              go_meet
                              exact ⟨m, .one ⟨9, 0, 0, [], 0, 0, (k2 : Int)⟩ T1, A3, c3, rfl, by have := HSN.out; omega, Lib.hid ⟨.inr (.inr ⟨rfl, by unfold Fine; exact ⟨rfl, rfl, rfl, rfl, (by show (0 : Int) ≤ (k2 : Int); omega), (by show (k2 : Int) ≤ 255; omega)⟩⟩), HM1.out⟩, Lib.hid (by have h1 := HT0.out; have h2 := tot_take_le Ts (m + 1); have h3 := HT1.out; simp only [size]; omega), HFC.out⟩
        case rest =>
          obtain ⟨tp, T, At, ct, rfl, htp, HMT, HTT, HNT, HNAT, HGT, HBT⟩ := hcut
          obtain ⟨t0, _⟩ := obj29 HGT.out
          have hszT : size T ≤ 25 := by have := HTT.out; omega
          have HS2 := Lib.hid (small2_any T At (size T) ct wc HMT.out HNT.out HNAT.out rfl (by omega))
          have hw8 := HK1.out
          go_wp2_with fail
          refine HS2.out.mono ?_
          rintro e w5 ⟨q, rfl, hb5⟩
          have hkc : k8 ≤ wc.heap.size := by have := HBT.out.size; omega
          have HBW := Lib.hid ((HB1.out.trans HBT.out).trans (hb5.mono hkc))
          have HSK5 := Lib.hid (HSK.out.below (show Below wr.heap.size wr w5 by rw [HKW.out]; exact HBW.out))
          have HB5 := Lib.hid (HB.out.trans (HBW.out.mono (by omega)))
          have HNT5 := Lib.hid (HNT.out.below hb5)
          have hg5 := keepL HGT.out hb5
          have HG5 := Lib.hid hg5
          have hk5 : k8 < w5.heap.size := lt_of_heap hg5
          clear hb5 t0 hg5 hkc
          cases q with
          | false =>
            go_wp2_with fail
            go_roundw
            case rel => exact ⟨i + 1, As, sn, sc, Ts, congrArg (Value.int .i64) (by omega), rfl, hTs, hin, hi2, Lib.hid (by have := HTO.out; omega), Lib.hid (by have := HSI.out; omega), HSK5, HB5⟩
            case measure => simp [intOf]; omega
          | true =>
            obtain ⟨olds, hol, hold, hod⟩ := stk_olds HSK5.out (show tp ≤ Ts.length by rw [hTs]; exact htp)
            have HOD := Lib.hid hod
            have HOL := Lib.hid (show ∀ W, Below w5.heap.size w5 W → ∀ b, As = some b → ∀ (j : Nat) u, olds[j]? = some u → W.cell? (b.add j) = some u from fun W hW b hb j u hu => by
              obtain ⟨hl, hc⟩ := hold b hb j u hu
              exact (hW.cell (p := b.add j) hl).trans hc)
            have HSF := Lib.hid (show ∀ W, Below w5.heap.size w5 W → (W.cell? ⟨k8, 0, none⟩ = some (.slice At (size T) ct) ∧ Below w5.heap.size w5 W) from fun W hW => ⟨(hW.cell (p := ⟨k8, 0, none⟩) hk5).trans (blk1 HG5.out), hW⟩)
            obtain ⟨i0, hi0, hz0, hz1, hz2⟩ := info_parts info24
            have htp0 : (0 : Int) ≤ (tp : Int) := by omega
            have HSC := Lib.hid (HSK.out.1)
            have htc : tp ≤ sc := by have := HSC.out; omega
            have htc' : (tp : Int) ≤ (sc : Int) := by omega
            have HAN := Lib.hid (show As = none → tp = 0 ∧ sc = 0 from fun h => by
              have h1 := stk_none HSK5.out h
              rw [hTs] at h1; omega)
            have htp25 : tp ≤ 24 := by omega
            clear hold hod
            go_wp2_with fail
            rcases As with _ | ab
            · obtain ⟨rfl, rfl⟩ := HAN.out rfl
              go_region_held3 (fun W => W.cell? ⟨k8, 0, none⟩ = some (.slice At (size T) ct) ∧ Below w5.heap.size w5 W) (first
                | exact HSF.out _ (Below.refl _ _).drew
                | assumption
                | exact HSF.out _ (S.bel_trans (held4 (by assumption)) ((Below.refl _ _).alloc (Nat.le_refl _) _))
                | exact HSF.out _ (S.bel_trans (held4 (by assumption)) (below_grown (by assumption) (Nat.le_refl _) (fun k hk => by cases hk)))
                | fail) (first
                | (refine step_append_grows (by rfl) (.tmp 142) (.tmp 144) 53 (by rfl) 24 i0 _ 1 24 Try.underlying53 hi0 hz0 hz1 hz2 (by rfl) (by decide) none 0 0 olds (by rfl) (fun _ => ⟨rfl, rfl⟩) (by omega) (HOL.out _ (held4 (by assumption))) ⟨w5.heap.size, 0, none⟩ 1 1 [.slice At (size T) ct] (by rfl) (by rfl) (World.news_of_block (cs := #[.slice At (size T) ct]) (t := 24) (fr := (0, 0)) (heap_alloc_new _ _)) (by simp [Value.oneCell']) (by omega) (by unfold maxLen; omega) (by omega) ?_; intro v6 w6 hown6 hg6)
                | fail)
              have HB6 := Lib.hid (held4 (by assumption))
              obtain ⟨gs, cap, rfl, hst⟩ := stk_push (by rw [hTs]; exact htp) hol HOD.out HNT5.out HNAT.out HMT.out HB6.out hown6
              have HST := Lib.hid hst
              have HB7 := Lib.hid (HB5.out.trans (HB6.out.mono (by omega)))
              clear hown6 hg6 hst
              go_wp2_with fail
              go_roundw
              case rel => exact ⟨i + 1, some ⟨gs, 0, none⟩, 0 + 1, cap, Ts.take 0 ++ [T], congrArg (Value.int .i64) (by omega), rfl, by rw [List.length_append, List.length_take]; simp <;> omega, hin, hi2, Lib.hid (by rw [tot_push]; exact HTT.out), Lib.hid (by omega), HST, HB7⟩
              case measure => simp [intOf]; omega
            · have hadd : ab.add 0 = ab := by unfold Addr.add; split <;> simp_all
              go_region_held3 (fun W => W.cell? ⟨k8, 0, none⟩ = some (.slice At (size T) ct) ∧ Below w5.heap.size w5 W) (first
                | exact HSF.out _ (Below.refl _ _).drew
                | assumption
                | exact HSF.out _ (S.bel_trans (held4 (by assumption)) ((Below.refl _ _).alloc (Nat.le_refl _) _))
                | exact HSF.out _ (S.bel_trans (held4 (by assumption)) (below_grown (by assumption) (Nat.le_refl _) (fun k hk => by cases hk)))
                | fail) (first
                | (refine step_append_grows (by rfl) (.tmp 142) (.tmp 144) 53 (by rfl) 24 i0 _ 1 24 Try.underlying53 hi0 hz0 hz1 hz2 (by rfl) (by decide) (some ab) tp tp olds (by rfl) (fun h => by cases h) (by omega) (HOL.out _ (held4 (by assumption))) ⟨w5.heap.size, 0, none⟩ 1 1 [.slice At (size T) ct] (by rfl) (by rfl) (World.news_of_block (cs := #[.slice At (size T) ct]) (t := 24) (fr := (0, 0)) (heap_alloc_new _ _)) (by simp [Value.oneCell']) (by omega) (by unfold maxLen; omega) (by omega) ?_; intro v6 w6 hown6 hg6)
                | fail)
              have HB6 := Lib.hid (held4 (by assumption))
              obtain ⟨gs, cap, rfl, hst⟩ := stk_push (by rw [hTs]; exact htp) hol HOD.out HNT5.out HNAT.out HMT.out HB6.out hown6
              have HST := Lib.hid hst
              have HB7 := Lib.hid (HB5.out.trans (HB6.out.mono (by omega)))
              clear hown6 hg6 hst
              go_wp2_with fail
              go_roundw
              case rel => exact ⟨i + 1, some ⟨gs, 0, none⟩, tp + 1, cap, Ts.take tp ++ [T], congrArg (Value.int .i64) (by omega), rfl, by rw [List.length_append, List.length_take]; simp <;> omega, hin, hi2, Lib.hid (by rw [tot_push]; exact HTT.out), Lib.hid (by omega), HST, HB7⟩
              case measure => simp [intOf]; omega
      · have d2 : decide (i < 24) = false := decide_eq_false hi2
        have HGR := Lib.hid (show wr.heap[w.heap.size]? = some (.cells #[.slice none 0 0] 24) from (HB.out.block _ (by omega)).trans HG0.out)
        have HBR := Lib.hid (HB0.out.trans (HB.out.mono (by omega)))
        have hwr : w.heap.size < wr.heap.size := by omega
        by_cases hs0 : sn = 0
        · have es : ((sn : Int) == 0) = true := by simp; omega
          have HLF := Lib.hid (fun W => leaf_any 12 (by decide) W)
          clear hs0
          go_wp2_with fail
          refine (HLF.out _).mono ?_
          rintro e w3 ⟨A3, c3, rfl, hN3, hA3, hb3⟩
          have hg3 := keepL HGR.out hb3
          obtain ⟨g3, f3⟩ := obj29 hg3
          have HNF := Lib.hid (nr_set1 hg3 hN3 (.slice A3 1 c3))
          have HBF := Lib.hid ((HBR.out.trans (hb3.mono (Nat.le_of_lt hwr))).setCell (p := ⟨w.heap.size, 0, none⟩) (Nat.le_refl _) (.slice A3 1 c3))
          have HGF := Lib.hid (set_same hg3 (.slice A3 1 c3))
          have HA3 := Lib.hid hA3
          clear hN3 hA3 hb3 hg3
          go_wp2_with fail
          obtain ⟨q0, _⟩ := obj29 HGF.out
          refine bodyPost_ret (v := tr A3 1 c3) ?_ rfl ?_
          · rw [S.results_cell1 rfl]
            go_simp
          · exact ⟨.leaf (leafN 12), leafN_ok 12, by decide, A3, c3, rfl, HNF.out, HA3.out, HBF.out⟩
        · have es : ((sn : Int) == 0) = false := beq_eq_false_iff_ne.2 (by omega)
          have hs1 : (0 : Int) < (sn : Int) := by omega
          have hsi := HSI.out
          have hsn : sn ≤ 24 := by omega
          obtain ⟨T0, hT0⟩ : ∃ T, Ts[0]? = some T := ⟨_, List.getElem?_eq_getElem (by omega)⟩
          obtain ⟨b, At0, ct0, rfl, hbl, hc0, hN0, hA0, hM0⟩ := HSK.out.2.2 0 T0 hT0
          have hA9 := (Below.refl wr.heap.size wr).alloc (Nat.le_refl _) (.cells #[.slice At0 (size T0) ct0] 24)
          have HG9 := Lib.hid (heap_new wr (.cells #[.slice At0 (size T0) ct0] 24))
          have HA9 := Lib.hid hA9
          have HN0 := Lib.hid (hN0.below hA9); have HNA0 := Lib.hid hA0; have HM0 := Lib.hid hM0
          have HT00 := Lib.hid (tot_one hT0)
          have hz9 : (wr.alloc (.cells #[.slice At0 (size T0) ct0] 24)).heap.size = wr.heap.size + 1 := by simp
          have HSX := Lib.hid (HSK.out)
          have HT24 := Lib.hid (show tot Ts ≤ 24 by have := HTO.out; omega)
          clear hT0 hA9 hN0 hA0 hM0
          go_upto_region 33 with fail
          generalize wr.alloc (.cells #[.slice At0 (size T0) ct0] 24) = W3 at *
          obtain ⟨k9, hk9⟩ : ∃ k9, wr.heap.size = k9 := ⟨_, rfl⟩
          have HKW := Lib.hid hk9
          rw [hk9] at hwr hbl hws hz9 HG9 HA9 ⊢
          clear hk9 hc0
          generalize wr = wx at *
          go_loopw [10] (fun ti wq => ∃ (i2 : Nat) (T : Tree) (At : Option Addr) (ct : Nat), ti = .int .i64 (i2 : Int) ∧ 1 ≤ i2 ∧ i2 ≤ sn ∧ Hid (Mk T) ∧ Hid (size T + 1 ≤ tot (Ts.take i2) + i2) ∧ Hid (Nr wq At (flat 0 T)) ∧ Hid (At = none → flat 0 T = [] ∧ ct = 0) ∧ Hid (wq.heap[k9]? = some (.cells #[.slice At (size T) ct] 24)) ∧ Hid (Below k9 wx wq)) (fun ti _ => sn - (intOf ti).toNat)
          case atStart => exact ⟨1, T0, At0, ct0, rfl, Nat.le_refl _, by omega, HM0, Lib.hid (by rw [HT00.out]; omega), HN0, HNA0, HG9, HA9⟩
          case round =>
            obtain ⟨i2, T, At, ct, rfl, hi21, hi2s, HMT, HTT, HNT, HNAT, HGT, HBT⟩ := hrel
            obtain ⟨t0, tf⟩ := obj29 HGT.out
            have HSQ := Lib.hid (HSX.out.below (show Below wx.heap.size wx wr by rw [HKW.out]; exact HBT.out))
            have hk9q : k9 < wr.heap.size := lt_of_heap HGT.out
            have hszT : size T ≤ 47 := by have h1 := HTT.out; have h2 := tot_take_le Ts i2; have h3 := HT24.out; omega
            by_cases hlt : i2 < sn
            · have d9 : decide (i2 < sn) = true := decide_eq_true hlt
              have hlt' : (i2 : Int) < (sn : Int) := by omega
              obtain ⟨T2, hT2⟩ : ∃ T, Ts[i2]? = some T := ⟨_, List.getElem?_eq_getElem (by omega)⟩
              obtain ⟨b2, At2, ct2, eb, hbl2, hc2, hN2, hA2, hM2⟩ := HSQ.out.2.2 i2 T2 hT2
              injection eb with eb; injection eb with eb _ _; subst eb
              have HT2 := Lib.hid (tot_one hT2); have HM2 := Lib.hid hM2
              have HSZ2 := Lib.hid (show size T2 ≤ 24 by have h2 := tot_take_le Ts (i2 + 1); have h3 := HT24.out; have h4 := HT2.out; omega)
              have HTWO := Lib.hid (fun W (hW : Below wr.heap.size wr W) => two_ab 5 T T2 HM2.out (by omega) (by have := HSZ2.out; omega) At At2 ct ct2 W (HNT.out.below hW) HNAT.out (hN2.below hW) hA2)
              have HSF := Lib.hid (show ∀ W, Below wr.heap.size wr W → ((W.cell? ⟨k9, 0, none⟩ = some (.slice At (size T) ct) ∧ W.cell? ⟨b, i2, none⟩ = some (.slice At2 (size T2) ct2)) ∧ Below wr.heap.size wr W) from fun W hW => ⟨⟨(hW.cell (p := ⟨k9, 0, none⟩) hk9q).trans t0, (hW.cell (p := ⟨b, i2, none⟩) hbl2).trans hc2⟩, hW⟩)
              clear hT2 hN2 hA2 hM2
              go_wp2_with fail
              have HZA := Lib.hid (show Below wr.heap.size wr (wr.drew.alloc (.cells #[.slice none 0 0] 24)) from S.bel_trans (Below.refl _ _).drew ((Below.refl _ _).alloc (Nat.le_refl _) _))
              go_region_held3 (fun W => (W.cell? ⟨k9, 0, none⟩ = some (.slice At (size T) ct) ∧ W.cell? ⟨b, i2, none⟩ = some (.slice At2 (size T2) ct2)) ∧ Below wr.heap.size wr W) (first
                | exact HSF.out _ (Below.refl _ _).drew
                | assumption
                | exact HSF.out _ (S.bel_trans (held4 (by assumption)) (by assumption))
                | exact HSF.out _ (S.bel_trans (held4 (by assumption)) ((Below.refl _ _).alloc (Nat.le_refl _) _))
                | exact HSF.out _ (S.bel_trans (S.bel_trans (Below.refl _ _).drew hb4) ((Below.refl _ _).alloc (Nat.le_refl _) _))
                | exact HSF.out _ (Below.setCell (p := ⟨wr.heap.size, 0, none⟩) (S.bel_trans HZA.out hb4) (Nat.le_refl _) _)
                | fail) (first
                | (go_at_call 20; (with_reducible refine (HTWO.out _ (held4 (by assumption))).mono ?_); rintro e w4 ⟨A4, c4, rfl, hN4, hA4, hb4⟩; try (have hG6 := keepL (r := wr.heap.size) (o := .cells #[.slice none 0 0] 24) (by first | exact heap_new wr _ | exact heap_new wr.drew _) hb4; obtain ⟨g6, f6⟩ := obj29 hG6))
                | fail)
              · generalize hsz4 : size (.two ⟨5, 0, 0, [], 0, 0, 0⟩ T T2) = s4 at *
                have hA5 := (Below.refl w4.heap.size w4).alloc (Nat.le_refl _) (.cells #[.slice A4 s4 c4] 24)
                have hV : Below wr.heap.size wr (w4.alloc (.cells #[.slice A4 s4 c4] 24)) := S.bel_trans (S.bel_trans (Below.refl _ _).drew hb4) hA5
                have hGV := heap_new w4 (.cells #[.slice A4 s4 c4] 24)
                have hNV := hN4.below hA5
                have hkb : wr.heap.size ≤ w4.heap.size := hb4.size
                clear hA5 hN4 hb4
                generalize w4.alloc (.cells #[.slice A4 s4 c4] 24) = V at *
                generalize w4.heap.size = kb at *
                have HMU := Lib.hid (show Mk (.two ⟨5, 0, 0, [], 0, 0, 0⟩ T T2) from ⟨⟨.inl rfl, by unfold Fine; exact ⟨rfl, rfl, rfl, rfl⟩⟩, HMT.out, HM2.out⟩)
                have HS4 := Lib.hid hsz4
                have hs47 : s4 ≤ 72 := by rw [← hsz4]; simp only [size]; have := HSZ2.out; omega
                have HSM := Lib.hid (small2_any _ A4 s4 c4 V HMU.out hNV hA4 hsz4 (by omega))
                have HGV := Lib.hid hGV; have HNV := Lib.hid hNV; have HNA4 := Lib.hid hA4; have HV := Lib.hid hV
                obtain ⟨n5, nf5⟩ := obj29 hGV
                have hVs := hV.size
                clear hsz4 hGV hNV hA4 hV t0 tf
                go_wp2_with fail
                refine HSM.out.mono ?_
                rintro e w5 ⟨q, rfl, hb5⟩
                have hg5 := keepL HGV.out hb5
                obtain ⟨o5, of5⟩ := obj29 hg5
                have HBA := Lib.hid ((HBT.out.trans (HV.out.mono (Nat.le_of_lt hk9q))).trans (hb5.mono (by omega)))
                have HKF := Lib.hid (keepL (keepL HGT.out HV.out) hb5)
                obtain ⟨p9, pf9⟩ := obj29 HKF.out
                have HNT5 := Lib.hid ((HNT.out.below HV.out).below hb5)
                have HNU5 := Lib.hid (HNV.out.below hb5)
                clear hb5 hg5
                cases q with
                | false =>
                  go_wp2_with fail
                  go_roundw
                  case rel => exact ⟨i2 + 1, T, At, ct, congrArg (Value.int .i64) (by omega), by omega, hlt, HMT, Lib.hid (by have h1 := HTT.out; have h2 := HT2.out; omega), HNT5, HNAT, HKF, HBA⟩
                  case measure => simp [intOf]; omega
                | true =>
                  have HFC := Lib.hid (fin_cut (T := .two ⟨5, 0, 0, [], 0, 0, 0⟩ T T2) (m := s4) HBA.out (Below.refl k9 w5) HKF.out HNU5.out HNA4.out rfl HS4.out.symm)
                  go_wp2_with fail
                  go_roundw
                  case rel => exact ⟨i2 + 1, .two ⟨5, 0, 0, [], 0, 0, 0⟩ T T2, A4, c4, congrArg (Value.int .i64) (by omega), by omega, hlt, HMU, Lib.hid (by have h1 := HTT.out; have h2 := HT2.out; simp only [size]; omega), HFC.out⟩
                  case measure => simp [intOf]; omega
              · generalize hsz4 : size (.two ⟨5, 0, 0, [], 0, 0, 0⟩ T T2) = s4 at *
                have hV : Below wr.heap.size wr (w4.setCell ⟨wr.heap.size, 0, none⟩ (.slice A4 s4 c4)) := (S.bel_trans HZA.out hb4).setCell (p := ⟨wr.heap.size, 0, none⟩) (Nat.le_refl _) _
                have hGV := set_same hG6 (.slice A4 s4 c4)
                have hNV := nr_set1 hG6 hN4 (.slice A4 s4 c4)
                clear hN4 hb4 hG6 g6 f6
                generalize w4.setCell ⟨wr.heap.size, 0, none⟩ (.slice A4 s4 c4) = V at *
                have HMU := Lib.hid (show Mk (.two ⟨5, 0, 0, [], 0, 0, 0⟩ T T2) from ⟨⟨.inl rfl, by unfold Fine; exact ⟨rfl, rfl, rfl, rfl⟩⟩, HMT.out, HM2.out⟩)
                have HS4 := Lib.hid hsz4
                have hs47 : s4 ≤ 72 := by rw [← hsz4]; simp only [size]; have := HSZ2.out; omega
                have HSM := Lib.hid (small2_any _ A4 s4 c4 V HMU.out hNV hA4 hsz4 (by omega))
                have HGV := Lib.hid hGV; have HNV := Lib.hid hNV; have HNA4 := Lib.hid hA4; have HV := Lib.hid hV
                obtain ⟨n5, nf5⟩ := obj29 hGV
                have hVs := hV.size
                clear hsz4 hGV hNV hA4 hV t0 tf
                go_wp2_with fail
                refine HSM.out.mono ?_
                rintro e w5 ⟨q, rfl, hb5⟩
                have hg5 := keepL HGV.out hb5
                obtain ⟨o5, of5⟩ := obj29 hg5
                have HBA := Lib.hid ((HBT.out.trans (HV.out.mono (Nat.le_of_lt hk9q))).trans (hb5.mono (by omega)))
                have HKF := Lib.hid (keepL (keepL HGT.out HV.out) hb5)
                obtain ⟨p9, pf9⟩ := obj29 HKF.out
                have HNT5 := Lib.hid ((HNT.out.below HV.out).below hb5)
                have HNU5 := Lib.hid (HNV.out.below hb5)
                clear hb5 hg5
                cases q with
                | false =>
                  go_wp2_with fail
                  go_roundw
                  case rel => exact ⟨i2 + 1, T, At, ct, congrArg (Value.int .i64) (by omega), by omega, hlt, HMT, Lib.hid (by have h1 := HTT.out; have h2 := HT2.out; omega), HNT5, HNAT, HKF, HBA⟩
                  case measure => simp [intOf]; omega
                | true =>
                  have HFC := Lib.hid (fin_cut (T := .two ⟨5, 0, 0, [], 0, 0, 0⟩ T T2) (m := s4) HBA.out (Below.refl k9 w5) HKF.out HNU5.out HNA4.out rfl HS4.out.symm)
                  go_wp2_with fail
                  go_roundw
                  case rel => exact ⟨i2 + 1, .two ⟨5, 0, 0, [], 0, 0, 0⟩ T T2, A4, c4, congrArg (Value.int .i64) (by omega), by omega, hlt, HMU, Lib.hid (by have h1 := HTT.out; have h2 := HT2.out; simp only [size]; omega), HFC.out⟩
                  case measure => simp [intOf]; omega
            · have d9 : decide (i2 < sn) = false := decide_eq_false hlt
              obtain rfl : i2 = sn := by omega
              have HNM := Lib.hid (number_any T At (size T) ct wr (Mk.ok _ HMT.out) HNT.out HNAT.out rfl (by omega))
              have HG1 := Lib.hid (show wr.heap[w.heap.size]? = some (.cells #[.slice none 0 0] 24) from (HBT.out.block _ hwr).trans HGR.out)
              go_wp2_with fail
              refine HNM.out.mono ?_
              rintro e w3 ⟨A3, c3, rfl, hN3, hA3, hb3⟩
              obtain ⟨ln, hln⟩ : ∃ ln, (flat 0 (num 0 T)).length = ln := ⟨_, rfl⟩
              rw [hln]
              have hg3 := keepL HG1.out hb3
              obtain ⟨g3, f3⟩ := obj29 hg3
              have HNF := Lib.hid (nr_set1 hg3 hN3 (.slice A3 ln c3))
              have HBF := Lib.hid (((HBR.out.trans (HBT.out.mono (Nat.le_of_lt hwr))).trans (hb3.mono (by omega))).setCell (p := ⟨w.heap.size, 0, none⟩) (Nat.le_refl _) (.slice A3 ln c3))
              have HGF := Lib.hid (set_same hg3 (.slice A3 ln c3))
              have HA3 := Lib.hid hA3; have HLN := Lib.hid hln
              clear hN3 hA3 hb3 hg3 hln
              go_wp2_with fail
              obtain ⟨q0, _⟩ := obj29 HGF.out
              refine bodyPost_ret (v := tr A3 ln c3) ?_ rfl ?_
              · rw [S.results_cell1 rfl]
                go_simp
              · exact ⟨T, HMT.out, hszT, A3, c3, by rw [HLN.out], HNF.out, HA3.out, HBF.out⟩
    · have d1 : decide (i < n) = false := decide_eq_false hin
      have HGR := Lib.hid (show wr.heap[w.heap.size]? = some (.cells #[.slice none 0 0] 24) from (HB.out.block _ (by omega)).trans HG0.out)
      have HBR := Lib.hid (HB0.out.trans (HB.out.mono (by omega)))
      have hwr : w.heap.size < wr.heap.size := by omega
      by_cases hs0 : sn = 0
      · have es : ((sn : Int) == 0) = true := by simp; omega
        have HLF := Lib.hid (fun W => leaf_any 12 (by decide) W)
        clear hs0
        go_wp2_with fail
        refine (HLF.out _).mono ?_
        rintro e w3 ⟨A3, c3, rfl, hN3, hA3, hb3⟩
        have hg3 := keepL HGR.out hb3
        obtain ⟨g3, f3⟩ := obj29 hg3
        have HNF := Lib.hid (nr_set1 hg3 hN3 (.slice A3 1 c3))
        have HBF := Lib.hid ((HBR.out.trans (hb3.mono (Nat.le_of_lt hwr))).setCell (p := ⟨w.heap.size, 0, none⟩) (Nat.le_refl _) (.slice A3 1 c3))
        have HGF := Lib.hid (set_same hg3 (.slice A3 1 c3))
        have HA3 := Lib.hid hA3
        clear hN3 hA3 hb3 hg3
        go_wp2_with fail
        obtain ⟨q0, _⟩ := obj29 HGF.out
        refine bodyPost_ret (v := tr A3 1 c3) ?_ rfl ?_
        · rw [S.results_cell1 rfl]
          go_simp
        · exact ⟨.leaf (leafN 12), leafN_ok 12, by decide, A3, c3, rfl, HNF.out, HA3.out, HBF.out⟩
      · have es : ((sn : Int) == 0) = false := beq_eq_false_iff_ne.2 (by omega)
        have hs1 : (0 : Int) < (sn : Int) := by omega
        have hsi := HSI.out
        have hsn : sn ≤ 24 := by omega
        obtain ⟨T0, hT0⟩ : ∃ T, Ts[0]? = some T := ⟨_, List.getElem?_eq_getElem (by omega)⟩
        obtain ⟨b, At0, ct0, rfl, hbl, hc0, hN0, hA0, hM0⟩ := HSK.out.2.2 0 T0 hT0
        have hA9 := (Below.refl wr.heap.size wr).alloc (Nat.le_refl _) (.cells #[.slice At0 (size T0) ct0] 24)
        have HG9 := Lib.hid (heap_new wr (.cells #[.slice At0 (size T0) ct0] 24))
        have HA9 := Lib.hid hA9
        have HN0 := Lib.hid (hN0.below hA9); have HNA0 := Lib.hid hA0; have HM0 := Lib.hid hM0
        have HT00 := Lib.hid (tot_one hT0)
        have hz9 : (wr.alloc (.cells #[.slice At0 (size T0) ct0] 24)).heap.size = wr.heap.size + 1 := by simp
        have HSX := Lib.hid (HSK.out)
        have HT24 := Lib.hid (show tot Ts ≤ 24 by have := HTO.out; omega)
        clear hT0 hA9 hN0 hA0 hM0
        go_upto_region 33 with fail
        generalize wr.alloc (.cells #[.slice At0 (size T0) ct0] 24) = W3 at *
        obtain ⟨k9, hk9⟩ : ∃ k9, wr.heap.size = k9 := ⟨_, rfl⟩
        have HKW := Lib.hid hk9
        rw [hk9] at hwr hbl hws hz9 HG9 HA9 ⊢
        clear hk9 hc0
        generalize wr = wx at *
        go_loopw [10] (fun ti wq => ∃ (i2 : Nat) (T : Tree) (At : Option Addr) (ct : Nat), ti = .int .i64 (i2 : Int) ∧ 1 ≤ i2 ∧ i2 ≤ sn ∧ Hid (Mk T) ∧ Hid (size T + 1 ≤ tot (Ts.take i2) + i2) ∧ Hid (Nr wq At (flat 0 T)) ∧ Hid (At = none → flat 0 T = [] ∧ ct = 0) ∧ Hid (wq.heap[k9]? = some (.cells #[.slice At (size T) ct] 24)) ∧ Hid (Below k9 wx wq)) (fun ti _ => sn - (intOf ti).toNat)
        case atStart => exact ⟨1, T0, At0, ct0, rfl, Nat.le_refl _, by omega, HM0, Lib.hid (by rw [HT00.out]; omega), HN0, HNA0, HG9, HA9⟩
        case round =>
          obtain ⟨i2, T, At, ct, rfl, hi21, hi2s, HMT, HTT, HNT, HNAT, HGT, HBT⟩ := hrel
          obtain ⟨t0, tf⟩ := obj29 HGT.out
          have HSQ := Lib.hid (HSX.out.below (show Below wx.heap.size wx wr by rw [HKW.out]; exact HBT.out))
          have hk9q : k9 < wr.heap.size := lt_of_heap HGT.out
          have hszT : size T ≤ 47 := by have h1 := HTT.out; have h2 := tot_take_le Ts i2; have h3 := HT24.out; omega
          by_cases hlt : i2 < sn
          · have d9 : decide (i2 < sn) = true := decide_eq_true hlt
            have hlt' : (i2 : Int) < (sn : Int) := by omega
            obtain ⟨T2, hT2⟩ : ∃ T, Ts[i2]? = some T := ⟨_, List.getElem?_eq_getElem (by omega)⟩
            obtain ⟨b2, At2, ct2, eb, hbl2, hc2, hN2, hA2, hM2⟩ := HSQ.out.2.2 i2 T2 hT2
            injection eb with eb; injection eb with eb _ _; subst eb
            have HT2 := Lib.hid (tot_one hT2); have HM2 := Lib.hid hM2
            have HSZ2 := Lib.hid (show size T2 ≤ 24 by have h2 := tot_take_le Ts (i2 + 1); have h3 := HT24.out; have h4 := HT2.out; omega)
            have HTWO := Lib.hid (fun W (hW : Below wr.heap.size wr W) => two_ab 5 T T2 HM2.out (by omega) (by have := HSZ2.out; omega) At At2 ct ct2 W (HNT.out.below hW) HNAT.out (hN2.below hW) hA2)
            have HSF := Lib.hid (show ∀ W, Below wr.heap.size wr W → ((W.cell? ⟨k9, 0, none⟩ = some (.slice At (size T) ct) ∧ W.cell? ⟨b, i2, none⟩ = some (.slice At2 (size T2) ct2)) ∧ Below wr.heap.size wr W) from fun W hW => ⟨⟨(hW.cell (p := ⟨k9, 0, none⟩) hk9q).trans t0, (hW.cell (p := ⟨b, i2, none⟩) hbl2).trans hc2⟩, hW⟩)
            clear hT2 hN2 hA2 hM2
            go_wp2_with fail
            have HZA := Lib.hid (show Below wr.heap.size wr (wr.drew.alloc (.cells #[.slice none 0 0] 24)) from S.bel_trans (Below.refl _ _).drew ((Below.refl _ _).alloc (Nat.le_refl _) _))
            go_region_held3 (fun W => (W.cell? ⟨k9, 0, none⟩ = some (.slice At (size T) ct) ∧ W.cell? ⟨b, i2, none⟩ = some (.slice At2 (size T2) ct2)) ∧ Below wr.heap.size wr W) (first
              | exact HSF.out _ (Below.refl _ _).drew
              | assumption
              | exact HSF.out _ (S.bel_trans (held4 (by assumption)) (by assumption))
              | exact HSF.out _ (S.bel_trans (held4 (by assumption)) ((Below.refl _ _).alloc (Nat.le_refl _) _))
              | exact HSF.out _ (S.bel_trans (S.bel_trans (Below.refl _ _).drew hb4) ((Below.refl _ _).alloc (Nat.le_refl _) _))
              | exact HSF.out _ (Below.setCell (p := ⟨wr.heap.size, 0, none⟩) (S.bel_trans HZA.out hb4) (Nat.le_refl _) _)
              | fail) (first
              | (go_at_call 20; (with_reducible refine (HTWO.out _ (held4 (by assumption))).mono ?_); rintro e w4 ⟨A4, c4, rfl, hN4, hA4, hb4⟩; try (have hG6 := keepL (r := wr.heap.size) (o := .cells #[.slice none 0 0] 24) (by first | exact heap_new wr _ | exact heap_new wr.drew _) hb4; obtain ⟨g6, f6⟩ := obj29 hG6))
              | fail)
            · generalize hsz4 : size (.two ⟨5, 0, 0, [], 0, 0, 0⟩ T T2) = s4 at *
              have hA5 := (Below.refl w4.heap.size w4).alloc (Nat.le_refl _) (.cells #[.slice A4 s4 c4] 24)
              have hV : Below wr.heap.size wr (w4.alloc (.cells #[.slice A4 s4 c4] 24)) := S.bel_trans (S.bel_trans (Below.refl _ _).drew hb4) hA5
              have hGV := heap_new w4 (.cells #[.slice A4 s4 c4] 24)
              have hNV := hN4.below hA5
              have hkb : wr.heap.size ≤ w4.heap.size := hb4.size
              clear hA5 hN4 hb4
              generalize w4.alloc (.cells #[.slice A4 s4 c4] 24) = V at *
              generalize w4.heap.size = kb at *
              have HMU := Lib.hid (show Mk (.two ⟨5, 0, 0, [], 0, 0, 0⟩ T T2) from ⟨⟨.inl rfl, by unfold Fine; exact ⟨rfl, rfl, rfl, rfl⟩⟩, HMT.out, HM2.out⟩)
              have HS4 := Lib.hid hsz4
              have hs47 : s4 ≤ 72 := by rw [← hsz4]; simp only [size]; have := HSZ2.out; omega
              have HSM := Lib.hid (small2_any _ A4 s4 c4 V HMU.out hNV hA4 hsz4 (by omega))
              have HGV := Lib.hid hGV; have HNV := Lib.hid hNV; have HNA4 := Lib.hid hA4; have HV := Lib.hid hV
              obtain ⟨n5, nf5⟩ := obj29 hGV
              have hVs := hV.size
              clear hsz4 hGV hNV hA4 hV t0 tf
              go_wp2_with fail
              refine HSM.out.mono ?_
              rintro e w5 ⟨q, rfl, hb5⟩
              have hg5 := keepL HGV.out hb5
              obtain ⟨o5, of5⟩ := obj29 hg5
              have HBA := Lib.hid ((HBT.out.trans (HV.out.mono (Nat.le_of_lt hk9q))).trans (hb5.mono (by omega)))
              have HKF := Lib.hid (keepL (keepL HGT.out HV.out) hb5)
              obtain ⟨p9, pf9⟩ := obj29 HKF.out
              have HNT5 := Lib.hid ((HNT.out.below HV.out).below hb5)
              have HNU5 := Lib.hid (HNV.out.below hb5)
              clear hb5 hg5
              cases q with
              | false =>
                go_wp2_with fail
                go_roundw
                case rel => exact ⟨i2 + 1, T, At, ct, congrArg (Value.int .i64) (by omega), by omega, hlt, HMT, Lib.hid (by have h1 := HTT.out; have h2 := HT2.out; omega), HNT5, HNAT, HKF, HBA⟩
                case measure => simp [intOf]; omega
              | true =>
                have HFC := Lib.hid (fin_cut (T := .two ⟨5, 0, 0, [], 0, 0, 0⟩ T T2) (m := s4) HBA.out (Below.refl k9 w5) HKF.out HNU5.out HNA4.out rfl HS4.out.symm)
                go_wp2_with fail
                go_roundw
                case rel => exact ⟨i2 + 1, .two ⟨5, 0, 0, [], 0, 0, 0⟩ T T2, A4, c4, congrArg (Value.int .i64) (by omega), by omega, hlt, HMU, Lib.hid (by have h1 := HTT.out; have h2 := HT2.out; simp only [size]; omega), HFC.out⟩
                case measure => simp [intOf]; omega
            · generalize hsz4 : size (.two ⟨5, 0, 0, [], 0, 0, 0⟩ T T2) = s4 at *
              have hV : Below wr.heap.size wr (w4.setCell ⟨wr.heap.size, 0, none⟩ (.slice A4 s4 c4)) := (S.bel_trans HZA.out hb4).setCell (p := ⟨wr.heap.size, 0, none⟩) (Nat.le_refl _) _
              have hGV := set_same hG6 (.slice A4 s4 c4)
              have hNV := nr_set1 hG6 hN4 (.slice A4 s4 c4)
              clear hN4 hb4 hG6 g6 f6
              generalize w4.setCell ⟨wr.heap.size, 0, none⟩ (.slice A4 s4 c4) = V at *
              have HMU := Lib.hid (show Mk (.two ⟨5, 0, 0, [], 0, 0, 0⟩ T T2) from ⟨⟨.inl rfl, by unfold Fine; exact ⟨rfl, rfl, rfl, rfl⟩⟩, HMT.out, HM2.out⟩)
              have HS4 := Lib.hid hsz4
              have hs47 : s4 ≤ 72 := by rw [← hsz4]; simp only [size]; have := HSZ2.out; omega
              have HSM := Lib.hid (small2_any _ A4 s4 c4 V HMU.out hNV hA4 hsz4 (by omega))
              have HGV := Lib.hid hGV; have HNV := Lib.hid hNV; have HNA4 := Lib.hid hA4; have HV := Lib.hid hV
              obtain ⟨n5, nf5⟩ := obj29 hGV
              have hVs := hV.size
              clear hsz4 hGV hNV hA4 hV t0 tf
              go_wp2_with fail
              refine HSM.out.mono ?_
              rintro e w5 ⟨q, rfl, hb5⟩
              have hg5 := keepL HGV.out hb5
              obtain ⟨o5, of5⟩ := obj29 hg5
              have HBA := Lib.hid ((HBT.out.trans (HV.out.mono (Nat.le_of_lt hk9q))).trans (hb5.mono (by omega)))
              have HKF := Lib.hid (keepL (keepL HGT.out HV.out) hb5)
              obtain ⟨p9, pf9⟩ := obj29 HKF.out
              have HNT5 := Lib.hid ((HNT.out.below HV.out).below hb5)
              have HNU5 := Lib.hid (HNV.out.below hb5)
              clear hb5 hg5
              cases q with
              | false =>
                go_wp2_with fail
                go_roundw
                case rel => exact ⟨i2 + 1, T, At, ct, congrArg (Value.int .i64) (by omega), by omega, hlt, HMT, Lib.hid (by have h1 := HTT.out; have h2 := HT2.out; omega), HNT5, HNAT, HKF, HBA⟩
                case measure => simp [intOf]; omega
              | true =>
                have HFC := Lib.hid (fin_cut (T := .two ⟨5, 0, 0, [], 0, 0, 0⟩ T T2) (m := s4) HBA.out (Below.refl k9 w5) HKF.out HNU5.out HNA4.out rfl HS4.out.symm)
                go_wp2_with fail
                go_roundw
                case rel => exact ⟨i2 + 1, .two ⟨5, 0, 0, [], 0, 0, 0⟩ T T2, A4, c4, congrArg (Value.int .i64) (by omega), by omega, hlt, HMU, Lib.hid (by have h1 := HTT.out; have h2 := HT2.out; simp only [size]; omega), HFC.out⟩
                case measure => simp [intOf]; omega
          · have d9 : decide (i2 < sn) = false := decide_eq_false hlt
            obtain rfl : i2 = sn := by omega
            have HNM := Lib.hid (number_any T At (size T) ct wr (Mk.ok _ HMT.out) HNT.out HNAT.out rfl (by omega))
            have HG1 := Lib.hid (show wr.heap[w.heap.size]? = some (.cells #[.slice none 0 0] 24) from (HBT.out.block _ hwr).trans HGR.out)
            go_wp2_with fail
            refine HNM.out.mono ?_
            rintro e w3 ⟨A3, c3, rfl, hN3, hA3, hb3⟩
            obtain ⟨ln, hln⟩ : ∃ ln, (flat 0 (num 0 T)).length = ln := ⟨_, rfl⟩
            rw [hln]
            have hg3 := keepL HG1.out hb3
            obtain ⟨g3, f3⟩ := obj29 hg3
            have HNF := Lib.hid (nr_set1 hg3 hN3 (.slice A3 ln c3))
            have HBF := Lib.hid (((HBR.out.trans (HBT.out.mono (Nat.le_of_lt hwr))).trans (hb3.mono (by omega))).setCell (p := ⟨w.heap.size, 0, none⟩) (Nat.le_refl _) (.slice A3 ln c3))
            have HGF := Lib.hid (set_same hg3 (.slice A3 ln c3))
            have HA3 := Lib.hid hA3; have HLN := Lib.hid hln
            clear hN3 hA3 hb3 hg3 hln
            go_wp2_with fail
            obtain ⟨q0, _⟩ := obj29 HGF.out
            refine bodyPost_ret (v := tr A3 ln c3) ?_ rfl ?_
            · rw [S.results_cell1 rfl]
              go_simp
            · exact ⟨T, HMT.out, hszT, A3, c3, by rw [HLN.out], HNF.out, HA3.out, HBF.out⟩
end Go.Proofs.Ytceeimolfalmpaa
