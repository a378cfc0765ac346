/-
  What the page's own cut answers, for every range.
-/
import Derived.Test.YtfjcljhodnkieaaW2
import Derived.RegionTactic
namespace Go.Proofs.Ytfjcljhodnkieaa
open Go.RowKit ObSets

set_option maxHeartbeats 1000000 in
theorem rcut_any (r : R) (w : World) : Calls Try.prog 39 #[rv r] w fun e w' => e = .returned (.tuple #[rv (cut r), .bool (ok r)]) ∧ Below w.heap.size w w' := by
  obtain ⟨a', b', hc, E1, E2⟩ := cut_of r
  obtain ⟨a, b⟩ := r
  rw [ok_of hc, hc]
  simp only at E1 E2
  clear hc
  have HN := Lib.hid (rnext_any a)
  have HP := Lib.hid (rprev_any b)
  generalize nx a = na at *
  generalize pv b = pb at *
  unfold rv
  rcases (show (a' < 0) ∨ (0 ≤ a' ∧ b' < a') ∨ (0 ≤ a' ∧ a' ≤ b') by omega) with h1 | ⟨h1, h2⟩ | ⟨h1, h2⟩
  · have hd : decide (0 ≤ a') = false := by simp; omega
    rw [show (decide (0 ≤ a') && decide (a' ≤ b')) = false by simp; omega]
    cases ha : sym a <;> cases hb : sym b <;> rw [ha] at E1 <;> rw [hb] at E2 <;> simp only [Bool.false_eq_true, if_false, if_true] at E1 E2 <;> subst E1 <;> subst E2
    all_goals (go_enter Try.func39, Try.ntmps39)
    all_goals go_wp2_with (first | (go_at_call 30; refine (rgood_any _ _).mono ?_; rintro e w' ⟨rfl, rfl⟩) | (go_at_call 34; refine (HN.out _).mono ?_; rintro e w' ⟨rfl, rfl⟩) | (go_at_call 48; refine (HP.out _).mono ?_; rintro e w' ⟨rfl, rfl⟩))
    all_goals go_region
    all_goals (try go_wp2)
    all_goals (refine bodyPost_ret (v := .tuple #[.agg #[.int .i64 _, .int .i64 _], .bool false]) ?_ rfl ⟨rfl, ?_⟩)
    all_goals first | (rw [results_cell_tmp rfl]; go_simp; done) | (repeat' (first | exact Below.refl _ _ | refine Below.drew ?_ | refine Below.alloc ?_ (by simp <;> omega) _ | refine Below.setCell ?_ (by simp) _))
  · have hd : decide (0 ≤ a') = true := by simp; omega
    have hd2 : decide (a' ≤ b') = false := by simp; omega
    rw [show (decide (0 ≤ a') && decide (a' ≤ b')) = false by simp; omega]
    cases ha : sym a <;> cases hb : sym b <;> rw [ha] at E1 <;> rw [hb] at E2 <;> simp only [Bool.false_eq_true, if_false, if_true] at E1 E2 <;> subst E1 <;> subst E2
    all_goals (go_enter Try.func39, Try.ntmps39)
    all_goals go_wp2_with (first | (go_at_call 30; refine (rgood_any _ _).mono ?_; rintro e w' ⟨rfl, rfl⟩) | (go_at_call 34; refine (HN.out _).mono ?_; rintro e w' ⟨rfl, rfl⟩) | (go_at_call 48; refine (HP.out _).mono ?_; rintro e w' ⟨rfl, rfl⟩))
    all_goals go_region
    all_goals (try go_wp2)
    all_goals (refine bodyPost_ret (v := .tuple #[.agg #[.int .i64 _, .int .i64 _], .bool false]) ?_ rfl ⟨rfl, ?_⟩)
    all_goals first | (rw [results_cell_tmp rfl]; go_simp; done) | (repeat' (first | exact Below.refl _ _ | refine Below.drew ?_ | refine Below.alloc ?_ (by simp <;> omega) _ | refine Below.setCell ?_ (by simp) _))
  · have hd : decide (0 ≤ a') = true := by simp; omega
    have hd2 : decide (a' ≤ b') = true := by simp; omega
    rw [show (decide (0 ≤ a') && decide (a' ≤ b')) = true by simp; omega]
    cases ha : sym a <;> cases hb : sym b <;> rw [ha] at E1 <;> rw [hb] at E2 <;> simp only [Bool.false_eq_true, if_false, if_true] at E1 E2 <;> subst E1 <;> subst E2
    all_goals (go_enter Try.func39, Try.ntmps39)
    all_goals go_wp2_with (first | (go_at_call 30; refine (rgood_any _ _).mono ?_; rintro e w' ⟨rfl, rfl⟩) | (go_at_call 34; refine (HN.out _).mono ?_; rintro e w' ⟨rfl, rfl⟩) | (go_at_call 48; refine (HP.out _).mono ?_; rintro e w' ⟨rfl, rfl⟩))
    all_goals go_region
    all_goals (try go_wp2)
    all_goals (refine bodyPost_ret (v := .tuple #[.agg #[.int .i64 _, .int .i64 _], .bool true]) ?_ rfl ⟨rfl, ?_⟩)
    all_goals first | (rw [results_cell_tmp rfl]; go_simp; done) | (repeat' (first | exact Below.refl _ _ | refine Below.drew ?_ | refine Below.alloc ?_ (by simp <;> omega) _ | refine Below.setCell ?_ (by simp) _))
end Go.Proofs.Ytfjcljhodnkieaa
