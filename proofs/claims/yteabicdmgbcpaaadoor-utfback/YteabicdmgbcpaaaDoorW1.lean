/-
  What the small functions on numbers answer: Good, Next, Prev of utf and of the page's own, and Within, for every int.
-/
import Derived.Test.YteabicdmgbcpaaaDoorProg
import Derived.WalkKit
import Derived.WalkSpells
import Derived.WalkLawsBesides
namespace Go.Proofs.YteabicdmgbcpaaaDoor
open Go.RowKit

def goodB (x : Int) : Bool := decide ((0 ≤ x ∧ x ≤ 55295) ∨ (57344 ≤ x ∧ x ≤ 1114111) ∨ (1114240 ≤ x ∧ x ≤ 1114367))
def nextI (x : Int) : Int := if x < 0 then 0 else if x < 55295 then x + 1 else if x < 57344 then 57344 else if x < 1114111 then x + 1 else if x < 1114240 then 1114240 else if x < 1114367 then x + 1 else -1
def prevI (x : Int) : Int := if 1114367 < x then 1114367 else if 1114240 < x then x - 1 else if 1114111 < x then 1114111 else if 57344 < x then x - 1 else if 55295 < x then 55295 else if 0 < x then x - 1 else -1
theorem ret_bool {a b : Bool} (h : a = b) : Ending.returned (.bool a) = .returned (.bool b) := by rw [h]
theorem ret_int {k : IntKind} {a b : Int} (h : a = b) : Ending.returned (.int k a) = .returned (.int k b) := by rw [h]

set_option maxHeartbeats 400000 in
theorem good_any (x : Int) (w : World) : Calls Tryd.prog 23 #[.int .i64 x] w fun e w' => e = .returned (.bool (goodB x)) ∧ w = w' := by
  go_enter Tryd.func23, Tryd.ntmps23
  go_wp2
  all_goals (go_ret; exact ⟨ret_bool (by unfold goodB; rw [Bool.eq_iff_iff]; simp; omega), rfl⟩)

set_option maxHeartbeats 400000 in
theorem rgood_any (x : Int) (w : World) : Calls Tryd.prog 24 #[.int .i64 x] w fun e w' => e = .returned (.bool (goodB x)) ∧ w = w' := by
  go_enter Tryd.func24, Tryd.ntmps24
  go_wp2
  all_goals (go_ret; exact ⟨ret_bool (by unfold goodB; rw [Bool.eq_iff_iff]; simp; omega), rfl⟩)

set_option maxHeartbeats 400000 in
theorem next_any (x : Int) (w : World) : Calls Tryd.prog 27 #[.int .i64 x] w fun e w' => e = .returned (.int .i64 (nextI x)) ∧ w = w' := by
  go_enter Tryd.func27, Tryd.ntmps27
  go_wp2
  all_goals (go_ret; exact ⟨ret_int (by unfold nextI; repeat' split; all_goals omega), rfl⟩)

set_option maxHeartbeats 400000 in
theorem rnext_any (x : Int) (w : World) : Calls Tryd.prog 28 #[.int .i64 x] w fun e w' => e = .returned (.int .i64 (nextI x)) ∧ w = w' := by
  go_enter Tryd.func28, Tryd.ntmps28
  go_wp2
  all_goals (go_ret; exact ⟨ret_int (by unfold nextI; repeat' split; all_goals omega), rfl⟩)

set_option maxHeartbeats 400000 in
theorem prev_any (x : Int) (w : World) : Calls Tryd.prog 29 #[.int .i64 x] w fun e w' => e = .returned (.int .i64 (prevI x)) ∧ w = w' := by
  go_enter Tryd.func29, Tryd.ntmps29
  go_wp2
  all_goals (go_ret; exact ⟨ret_int (by unfold prevI; repeat' split; all_goals omega), rfl⟩)

set_option maxHeartbeats 400000 in
theorem rprev_any (x : Int) (w : World) : Calls Tryd.prog 30 #[.int .i64 x] w fun e w' => e = .returned (.int .i64 (prevI x)) ∧ w = w' := by
  go_enter Tryd.func30, Tryd.ntmps30
  go_wp2
  all_goals (go_ret; exact ⟨ret_int (by unfold prevI; repeat' split; all_goals omega), rfl⟩)
end Go.Proofs.YteabicdmgbcpaaaDoor
