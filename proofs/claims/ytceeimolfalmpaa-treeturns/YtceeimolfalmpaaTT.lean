/-
  Sums and products of the page's own (plus, mul): numbers they hand back, nothing touched. No conditions.
-/
import Derived.Test.YtceeimolfalmpaaTS
namespace Go.Proofs.Ytceeimolfalmpaa
open Go.RowKit ObSets ObTree ObTree.Tree

def plusV (a b : Int) : Int := if 1073741824 < wrap64 (a + b) then 1073741824 else wrap64 (a + b)
set_option maxHeartbeats 1000000 in
theorem plus_any (a b : Int) (w : World) : Calls Try.prog 70 #[.int .i64 a, .int .i64 b] w fun e w' => e = .returned (.int .i64 (plusV a b)) ∧ w = w' := by
  go_enter Try.func70, Try.ntmps70
  go_wp2_with fail
  · go_ret; exact ⟨by unfold plusV; rw [if_pos (by assumption)]; rfl, rfl⟩
  · go_ret; exact ⟨by unfold plusV; rw [if_neg (by omega)]; rfl, rfl⟩
set_option maxHeartbeats 1000000 in
theorem mul_any (a b : Int) : ∃ v : Int, ∀ w : World, Calls Try.prog 71 #[.int .i64 a, .int .i64 b] w fun e w' => e = .returned (.int .i64 v) ∧ w = w' := by
  by_cases ha : 0 < a
  · have d1 : decide (0 < a) = true := decide_eq_true ha
    have d0 : (a == 0) = false := beq_eq_false_iff_ne.2 (by omega)
    have d0' : a ≠ 0 := by omega
    by_cases hb : wrap64 (Int.tdiv 1073741824 a) < b
    · have d2 : decide (wrap64 (Int.tdiv 1073741824 a) < b) = true := decide_eq_true hb
      refine ⟨1073741824, fun w => ?_⟩
      clear ha hb
      go_enter Try.func71, Try.ntmps71
      go_wp2_with fail
      go_ret
      exact ⟨rfl, rfl⟩
    · have d2 : decide (wrap64 (Int.tdiv 1073741824 a) < b) = false := decide_eq_false hb
      refine ⟨if 1073741824 < wrap64 (a * b) then 1073741824 else wrap64 (a * b), fun w => ?_⟩
      clear ha hb
      go_enter Try.func71, Try.ntmps71
      go_wp2_with fail
      · go_ret; exact ⟨rfl, rfl⟩
      · go_ret; exact ⟨rfl, rfl⟩
  · have d1 : decide (0 < a) = false := decide_eq_false ha
    refine ⟨if 1073741824 < wrap64 (a * b) then 1073741824 else wrap64 (a * b), fun w => ?_⟩
    clear ha
    go_enter Try.func71, Try.ntmps71
    go_wp2_with fail
    · go_ret; exact ⟨rfl, rfl⟩
    · go_ret; exact ⟨rfl, rfl⟩
end Go.Proofs.Ytceeimolfalmpaa
