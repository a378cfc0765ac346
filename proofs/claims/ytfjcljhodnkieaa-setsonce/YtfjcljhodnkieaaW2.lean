/-
  What both, rng and clip answer, for every argument.
-/
import Derived.Test.YtfjcljhodnkieaaW1
import Derived.Laws.ResultCell
import Derived.IntWalk
namespace Go.Proofs.Ytfjcljhodnkieaa
open Go.RowKit ObSets

theorem results_cell1 {fn : Func} {p : Tmp} {ty : TypeId} (h : fn.results = #[.cell p ty]) (tmps : Array Value) (P : Program) (w : World) :
    (results fn tmps).run P w = ((asAddr (tmps.getD p undef)).run P w).andThen fun a w₁ => (loadVar ty a).run P w₁ := by
  simp only [results, h]
  simp [Sem.run_bind, Result.andThen]

set_option maxHeartbeats 400000 in
theorem both_any (a b : R) (w : World) : Calls Try.prog 45 #[rv a, rv b] w fun e w' => e = .returned (rv (max a.1 b.1, min a.2 b.2)) ∧ Below w.heap.size w w' := by
  obtain ⟨a1, a2⟩ := a
  obtain ⟨b1, b2⟩ := b
  unfold rv
  go_enter Try.func45, Try.ntmps45
  go_wp2
  all_goals refine bodyPost_ret (v := .agg #[.int .i64 (max a1 b1), .int .i64 (min a2 b2)]) ?_ rfl ⟨rfl, ?_⟩
  all_goals first
  | (rw [results_cell1 rfl]; go_simp; omega)
  | (repeat' (first | exact Below.refl _ _ | refine Below.drew ?_ | refine Below.alloc ?_ (by simp <;> omega) _ | refine Below.setCell ?_ (by simp) _))

set_option maxHeartbeats 400000 in
theorem rng_any (a b : Int) (w : World) : Calls Try.prog 31 #[.int .i64 a, .int .i64 b] w fun e w' => e = .returned (rv (a, b)) ∧ Below w.heap.size w w' := by
  unfold rv
  go_enter Try.func31, Try.ntmps31
  go_wp2
  refine bodyPost_ret (v := .agg #[.int .i64 a, .int .i64 b]) ?_ rfl ⟨rfl, ?_⟩
  · rw [results_cell1 rfl]; go_simp
  · (repeat' (first | exact Below.refl _ _ | refine Below.drew ?_ | refine Below.alloc ?_ (by simp <;> omega) _ | refine Below.setCell ?_ (by simp) _))

theorem ok_of {a b : Int} {r : R} (h : cut r = (a, b)) : ok r = (decide (0 ≤ a) && decide (a ≤ b)) := by unfold ok; rw [h]
theorem cut_of (r : R) : ∃ a' b', cut r = (a', b') ∧ a' = (if sym r.1 = true then r.1 else nx r.1) ∧ b' = (if sym r.2 = true then r.2 else pv r.2) := ⟨_, _, rfl, rfl, rfl⟩
set_option maxHeartbeats 1000000 in
theorem clip_any (r : R) (w : World) : Calls Try.prog 35 #[rv r] w fun e w' => e = .returned (.tuple #[rv (if ok r = true then cut r else (0, 0)), .bool (ok r)]) ∧ Below w.heap.size w w' := by
  obtain ⟨a', b', hc, E1, E2⟩ := cut_of r
  obtain ⟨a, b⟩ := r
  rw [ok_of hc, hc]
  simp only at E1 E2
  clear hc
  have HN := Lib.hid (next_any a)
  have HP := Lib.hid (prev_any b)
  generalize nx a = na at *
  generalize pv b = pb at *
  rcases (show (a' < 0) ∨ (0 ≤ a' ∧ b' < a') ∨ (0 ≤ a' ∧ a' ≤ b') by omega) with h | ⟨h1, h2⟩ | ⟨h1, h2⟩
  · rw [show (decide (0 ≤ a') && decide (a' ≤ b')) = false by simp; omega]
    unfold rv
    simp only [Bool.false_eq_true, if_false]
    cases ha : sym a <;> cases hb : sym b <;> rw [ha] at E1 <;> rw [hb] at E2 <;> simp only [Bool.false_eq_true, if_false, if_true] at E1 E2 <;> subst E1 <;> subst E2
    all_goals (go_enter Try.func35, Try.ntmps35)
    all_goals go_wp2_with (first | (go_at_call 32; refine (good_any _ _).mono ?_; rintro e w' ⟨rfl, rfl⟩) | (go_at_call 47; refine (HN.out _).mono ?_; rintro e w' ⟨rfl, rfl⟩) | (go_at_call 46; refine (HP.out _).mono ?_; rintro e w' ⟨rfl, rfl⟩))
    all_goals (refine bodyPost_ret (v := .tuple #[.agg #[.int .i64 0, .int .i64 0], .bool false]) ?_ rfl ⟨rfl, ?_⟩)
    all_goals first | (rw [results_cell_tmp rfl]; go_simp; done) | (repeat' (first | exact Below.refl _ _ | refine Below.drew ?_ | refine Below.alloc ?_ (by simp <;> omega) _ | refine Below.setCell ?_ (by simp) _))
  · rw [show (decide (0 ≤ a') && decide (a' ≤ b')) = false by simp; omega]
    unfold rv
    simp only [Bool.false_eq_true, if_false]
    cases ha : sym a <;> cases hb : sym b <;> rw [ha] at E1 <;> rw [hb] at E2 <;> simp only [Bool.false_eq_true, if_false, if_true] at E1 E2 <;> subst E1 <;> subst E2
    all_goals (go_enter Try.func35, Try.ntmps35)
    all_goals go_wp2_with (first | (go_at_call 32; refine (good_any _ _).mono ?_; rintro e w' ⟨rfl, rfl⟩) | (go_at_call 47; refine (HN.out _).mono ?_; rintro e w' ⟨rfl, rfl⟩) | (go_at_call 46; refine (HP.out _).mono ?_; rintro e w' ⟨rfl, rfl⟩))
    all_goals (refine bodyPost_ret (v := .tuple #[.agg #[.int .i64 0, .int .i64 0], .bool false]) ?_ rfl ⟨rfl, ?_⟩)
    all_goals first | (rw [results_cell_tmp rfl]; go_simp; done) | (repeat' (first | exact Below.refl _ _ | refine Below.drew ?_ | refine Below.alloc ?_ (by simp <;> omega) _ | refine Below.setCell ?_ (by simp) _))
  · rw [show (decide (0 ≤ a') && decide (a' ≤ b')) = true by simp; omega]
    unfold rv
    simp only [if_true]
    cases ha : sym a <;> cases hb : sym b <;> rw [ha] at E1 <;> rw [hb] at E2 <;> simp only [Bool.false_eq_true, if_false, if_true] at E1 E2 <;> subst E1 <;> subst E2
    all_goals (go_enter Try.func35, Try.ntmps35)
    all_goals go_wp2_with (first | (go_at_call 32; refine (good_any _ _).mono ?_; rintro e w' ⟨rfl, rfl⟩) | (go_at_call 47; refine (HN.out _).mono ?_; rintro e w' ⟨rfl, rfl⟩) | (go_at_call 46; refine (HP.out _).mono ?_; rintro e w' ⟨rfl, rfl⟩))
    all_goals (refine bodyPost_ret (v := .tuple #[.agg #[.int .i64 _, .int .i64 _], .bool true]) ?_ rfl ⟨rfl, ?_⟩)
    all_goals first | (rw [results_cell_tmp rfl]; go_simp; done) | (repeat' (first | exact Below.refl _ _ | refine Below.drew ?_ | refine Below.alloc ?_ (by simp <;> omega) _ | refine Below.setCell ?_ (by simp) _))
end Go.Proofs.Ytfjcljhodnkieaa
