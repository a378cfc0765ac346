/-
  What the statements' own first look (wakes) answers: true.
-/
import Derived.Test.YtfjcljhodnkieaaW20
import Derived.Test.YtfjcljhodnkieaaW4
import Derived.Test.YtfjcljhodnkieaaW10
import Derived.Test.YtfjcljhodnkieaaW12
import Derived.Test.YtfjcljhodnkieaaW16
namespace Go.Proofs.Ytfjcljhodnkieaa
open Go.RowKit ObSets

theorem rng_agg (a b : Int) (w : World) : Calls Try.prog 31 #[.int .i64 a, .int .i64 b] w fun e w' => e = .returned (.agg #[.int .i64 a, .int .i64 b]) ∧ Below w.heap.size w w' := rng_any a b w
theorem three_rgs (w : World) (a b c d e f : Int) : Rgs (w.alloc (.cells #[.int .i64 a, .int .i64 b, .int .i64 c, .int .i64 d, .int .i64 e, .int .i64 f] 32)) (w.alloc (.cells #[.int .i64 a, .int .i64 b, .int .i64 c, .int .i64 d, .int .i64 e, .int .i64 f] 32)).heap.size (some ⟨w.heap.size, 0, none⟩) [(a, b), (c, d), (e, f)] := fun _ =>
  ⟨w.heap.size, 0, rfl, by simp, fun j r hj => by
    match j, hj with
    | 0, hj => simp at hj; subst hj; simp
    | 1, hj => simp at hj; subst hj; simp
    | 2, hj => simp at hj; subst hj; simp
    | j + 3, hj => simp at hj⟩
/-- A literal of one range, some calls later. -/
theorem lit_on (w : World) (a b : Int) {w' : World} (h : Below (w.alloc (.cells #[.int .i64 a, .int .i64 b] 32)).heap.size (w.alloc (.cells #[.int .i64 a, .int .i64 b] 32)) w') : Rgs w' w'.heap.size (some ⟨w.heap.size, 0, none⟩) [(a, b)] := (one_rgs w a b).on h
theorem and_len : (andL [(1, 5)] [(3, 9)]).length = 1 := by
  rw [andL, show nrm [(1, 5)] = [(1, 5)] by decide, show nrm [(3, 9)] = [(3, 9)] by decide, andW_cons, if_pos (by decide), if_pos (by decide), andW_nil_left]
  rfl
theorem fold_len : (foldL [(97, 97)]).length = 2 := by
  rw [← fold_same]
  decide

set_option maxHeartbeats 2000000 in
set_option maxRecDepth 100000 in
theorem wakes_any (w : World) : Calls Try.prog 20 #[] w fun e w' => e = .returned (.bool true) ∧ Below w.heap.size w w' := by
  have HB0 := Lib.hid (Below.refl w.heap.size w)
  go_enter Try.func20, Try.ntmps20
  go_wp2_with fail
  refine (rng_agg 5 5 _).mono ?_
  rintro e w1 ⟨rfl, hb1⟩
  have HA1 := Lib.hid hb1
  have HB1 := Lib.hid (bel_trans HB0.out HA1.out)
  clear hb1
  go_wp2_with fail
  refine (one_any _ 1 [(5, 5)] _ (one_rgs w1 5 5) (by decide)).mono ?_
  rintro e w2 ⟨rfl, hb2⟩
  rw [show one1 (nrm [(5, 5)]) = 5 by decide, show one2 (nrm [(5, 5)]) = true by decide]
  have HA2 := Lib.hid (alloc_below hb2)
  have HB2 := Lib.hid (bel_trans HB1.out HA2.out)
  clear hb2
  go_wp2_with fail
  refine (rng_agg 5 9 _).mono ?_
  rintro e w3 ⟨rfl, hb3⟩
  have HA3 := Lib.hid hb3
  have HB3 := Lib.hid (bel_trans HB2.out HA3.out)
  clear hb3
  go_wp2_with fail
  refine (rng_agg 1 3 _).mono ?_
  rintro e w4 ⟨rfl, hb4⟩
  have HA4 := Lib.hid hb4
  have HB4 := Lib.hid (bel_trans HB3.out HA4.out)
  clear hb4
  go_wp2_with fail
  refine (rng_agg 4 4 _).mono ?_
  rintro e w5 ⟨rfl, hb5⟩
  have HA5 := Lib.hid hb5
  have HB5 := Lib.hid (bel_trans HB4.out HA5.out)
  clear hb5
  go_wp2_with fail
  refine (norm_any _ 3 [(5, 9), (1, 3), (4, 4)] _ (three_rgs w5 5 9 1 3 4 4) (by decide)).mono ?_
  rintro e w6 ⟨v6, rfl, ho6, hb6⟩
  rw [show nrm [(5, 9), (1, 3), (4, 4)] = [(1, 9)] by decide] at ho6
  obtain ⟨B6, d6, rfl, r6⟩ := shape_of ho6
  have R6 := Lib.hid r6
  clear r6 ho6
  have HA6 := Lib.hid (alloc_below hb6)
  have HB6 := Lib.hid (bel_trans HB5.out HA6.out)
  clear hb6
  go_wp2_with fail
  refine (rng_agg 1 9 _).mono ?_
  rintro e w7 ⟨rfl, hb7⟩
  have HA7 := Lib.hid hb7
  have HB7 := Lib.hid (bel_trans HB6.out HA7.out)
  clear hb7
  go_wp2_with fail
  refine (eqset_any _ _ _ 1 [(1, 9)] [(1, 9)] _ ((R6.out.on HA7.out).on ((Below.refl _ _).alloc (Nat.le_refl _) _)) (one_rgs w7 1 9) (by decide) (by decide)).mono ?_
  rintro e w8 ⟨rfl, hb8⟩
  rw [show decide (([(1, 9)] : List R) = [(1, 9)]) = true by decide]
  have HA8 := Lib.hid (alloc_below hb8)
  have HB8 := Lib.hid (bel_trans HB7.out HA8.out)
  clear hb8
  go_wp2_with fail
  refine (rng_agg 1 3 _).mono ?_
  rintro e w9 ⟨rfl, hb9⟩
  have HA9 := Lib.hid hb9
  have HB9 := Lib.hid (bel_trans HB8.out HA9.out)
  clear hb9
  go_wp2_with fail
  refine (has_any _ 1 [(1, 3)] 2 _ (one_rgs w9 1 3) (by decide)).mono ?_
  rintro e w10 ⟨rfl, hb10⟩
  rw [show has [(1, 3)] 2 = true by decide]
  have HA10 := Lib.hid (alloc_below hb10)
  have HB10 := Lib.hid (bel_trans HB9.out HA10.out)
  clear hb10
  go_wp2_with fail
  refine (rng_agg 1 3 _).mono ?_
  rintro e w11 ⟨rfl, hb11⟩
  have HA11 := Lib.hid hb11
  have HB11 := Lib.hid (bel_trans HB10.out HA11.out)
  clear hb11
  go_wp2_with fail
  refine (has_any _ 1 [(1, 3)] 4 _ (one_rgs w11 1 3) (by decide)).mono ?_
  rintro e w12 ⟨rfl, hb12⟩
  rw [show has [(1, 3)] 4 = false by decide]
  have HA12 := Lib.hid (alloc_below hb12)
  have HB12 := Lib.hid (bel_trans HB11.out HA12.out)
  clear hb12
  go_wp2_with fail
  refine (rng_agg 1 2 _).mono ?_
  rintro e w13 ⟨rfl, hb13⟩
  have HA13 := Lib.hid hb13
  have HB13 := Lib.hid (bel_trans HB12.out HA13.out)
  clear hb13
  go_wp2_with fail
  refine (goodl_any _ 1 [(1, 2)] _ (one_rgs w13 1 2) (by decide)).mono ?_
  rintro e w14 ⟨rfl, hb14⟩
  rw [show normB [(1, 2)] = true from normB_nrm (by rw [show ([(1, 2)] : List R) = nrm [(1, 2)] by decide]; exact (nrm_ok _).1)]
  have HA14 := Lib.hid (alloc_below hb14)
  have HB14 := Lib.hid (bel_trans HB13.out HA14.out)
  clear hb14
  go_wp2_with fail
  refine (rng_agg 1 2 _).mono ?_
  rintro e w15 ⟨rfl, hb15⟩
  have HA15 := Lib.hid hb15
  have HB15 := Lib.hid (bel_trans HB14.out HA15.out)
  clear hb15
  go_wp2_with fail
  refine (count_any _ 1 [(1, 2)] _ (one_rgs w15 1 2) (by decide)).mono ?_
  rintro e w16 ⟨rfl, hb16⟩
  rw [show cn (nrm [(1, 2)]) = 2 by decide]
  have HA16 := Lib.hid (alloc_below hb16)
  have HB16 := Lib.hid (bel_trans HB15.out HA16.out)
  clear hb16
  go_wp2_with fail
  refine (not_any none 0 [] _ Rgs.nil (by decide)).mono ?_
  rintro e w17 ⟨v17, rfl, ho17, hb17⟩
  obtain ⟨B17, d17, rfl, _⟩ := shape_of ho17
  rw [show (notL []).length = 1 by decide]
  clear ho17
  have HA17 := Lib.hid hb17
  have HB17 := Lib.hid (bel_trans HB16.out HA17.out)
  clear hb17
  go_wp2_with fail
  refine (rng_agg 1 1 _).mono ?_
  rintro e w18 ⟨rfl, hb18⟩
  have HA18 := Lib.hid hb18
  have HB18 := Lib.hid (bel_trans HB17.out HA18.out)
  clear hb18
  go_wp2_with fail
  refine (rng_agg 3 3 _).mono ?_
  rintro e w19 ⟨rfl, hb19⟩
  have HL19 := Lib.hid hb19
  have HA19 := Lib.hid (alloc_below hb19)
  have HB19 := Lib.hid (bel_trans HB18.out HA19.out)
  clear hb19
  go_wp2_with fail
  refine (or_any _ _ 1 1 [(1, 1)] [(3, 3)] _ ((lit_on w18 1 1 HL19.out).on ((Below.refl _ _).alloc (Nat.le_refl _) _)) (one_rgs w19 3 3) (by decide)).mono ?_
  rintro e w20 ⟨v20, rfl, ho20, hb20⟩
  obtain ⟨B20, d20, rfl, _⟩ := shape_of ho20
  rw [show (orL [(1, 1)] [(3, 3)]).length = 2 by decide]
  clear ho20
  have HA20 := Lib.hid (alloc_below hb20)
  have HB20 := Lib.hid (bel_trans HB19.out HA20.out)
  clear hb20
  go_wp2_with fail
  refine (rng_agg 1 5 _).mono ?_
  rintro e w21 ⟨rfl, hb21⟩
  have HA21 := Lib.hid hb21
  have HB21 := Lib.hid (bel_trans HB20.out HA21.out)
  clear hb21
  go_wp2_with fail
  refine (rng_agg 3 9 _).mono ?_
  rintro e w22 ⟨rfl, hb22⟩
  have HL22 := Lib.hid hb22
  have HA22 := Lib.hid (alloc_below hb22)
  have HB22 := Lib.hid (bel_trans HB21.out HA22.out)
  clear hb22
  go_wp2_with fail
  refine (and_any _ _ 1 1 [(1, 5)] [(3, 9)] _ ((lit_on w21 1 5 HL22.out).on ((Below.refl _ _).alloc (Nat.le_refl _) _)) (one_rgs w22 3 9) (by decide) (by decide)).mono ?_
  rintro e w23 ⟨v23, rfl, ho23, hb23⟩
  obtain ⟨B23, d23, rfl, _⟩ := shape_of ho23
  rw [and_len]
  clear ho23
  have HA23 := Lib.hid (alloc_below hb23)
  have HB23 := Lib.hid (bel_trans HB22.out HA23.out)
  clear hb23
  go_wp2_with fail
  refine (rng_agg 97 97 _).mono ?_
  rintro e w24 ⟨rfl, hb24⟩
  have HA24 := Lib.hid hb24
  have HB24 := Lib.hid (bel_trans HB23.out HA24.out)
  clear hb24
  go_wp2_with fail
  refine (fold_any _ 1 [(97, 97)] _ (one_rgs w24 97 97) (by decide)).mono ?_
  rintro e w25 ⟨v25, rfl, ho25, hb25⟩
  obtain ⟨B25, d25, rfl, _⟩ := shape_of ho25
  rw [fold_len]
  clear ho25
  have HA25 := Lib.hid (alloc_below hb25)
  have HB25 := Lib.hid (bel_trans HB24.out HA25.out)
  clear hb25
  go_wp2_with fail
  go_ret
  exact ⟨rfl, HB25.out⟩
end Go.Proofs.Ytfjcljhodnkieaa
