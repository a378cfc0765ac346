/-
  What the small functions on numbers and ranges answer, for every argument: Good, Next, Prev of utf and of the page's own, rank, number, apart.
-/
import Derived.Test.YtfjcljhodnkieaaProg
import Derived.Test.YtfjcljhodnkieaaPlain
import Derived.WalkKit
import Derived.WalkSpells
import Derived.WalkLawsBesides
import Derived.Deep.QuietTactic
import Derived.BigQuiet
import Derived.Lib.Hide
namespace Go.Proofs.Ytfjcljhodnkieaa
open Go.RowKit ObSets

theorem ret_bool {a b : Bool} (h : a = b) : Ending.returned (.bool a) = .returned (.bool b) := by rw [h]
theorem ret_int {k : IntKind} {a b : Int} (h : a = b) : Ending.returned (.int k a) = .returned (.int k b) := by rw [h]
/-- A range as a value. -/
def rv (r : R) : Value := .agg #[.int .i64 r.1, .int .i64 r.2]

set_option maxHeartbeats 400000 in
theorem good_any (x : Int) (w : World) : Calls Try.prog 32 #[.int .i64 x] w fun e w' => e = .returned (.bool (sym x)) ∧ w = w' := by
  go_enter Try.func32, Try.ntmps32
  go_wp2
  all_goals (go_ret; exact ⟨ret_bool (by unfold sym; rw [Bool.eq_iff_iff]; simp; omega), rfl⟩)
set_option maxHeartbeats 400000 in
theorem rgood_any (x : Int) (w : World) : Calls Try.prog 30 #[.int .i64 x] w fun e w' => e = .returned (.bool (sym x)) ∧ w = w' := by
  go_enter Try.func30, Try.ntmps30
  go_wp2
  all_goals (go_ret; exact ⟨ret_bool (by unfold sym; rw [Bool.eq_iff_iff]; simp; omega), rfl⟩)
set_option maxHeartbeats 400000 in
theorem next_any (x : Int) (w : World) : Calls Try.prog 47 #[.int .i64 x] w fun e w' => e = .returned (.int .i64 (nx x)) ∧ w = w' := by
  go_enter Try.func47, Try.ntmps47
  go_wp2
  all_goals (go_ret; exact ⟨ret_int (by unfold nx; repeat' split; all_goals omega), rfl⟩)
set_option maxHeartbeats 400000 in
theorem rnext_any (x : Int) (w : World) : Calls Try.prog 34 #[.int .i64 x] w fun e w' => e = .returned (.int .i64 (nx x)) ∧ w = w' := by
  go_enter Try.func34, Try.ntmps34
  go_wp2
  all_goals (go_ret; exact ⟨ret_int (by unfold nx; repeat' split; all_goals omega), rfl⟩)
set_option maxHeartbeats 400000 in
theorem prev_any (x : Int) (w : World) : Calls Try.prog 46 #[.int .i64 x] w fun e w' => e = .returned (.int .i64 (pv x)) ∧ w = w' := by
  go_enter Try.func46, Try.ntmps46
  go_wp2
  all_goals (go_ret; exact ⟨ret_int (by unfold pv; repeat' split; all_goals omega), rfl⟩)
set_option maxHeartbeats 400000 in
theorem rprev_any (x : Int) (w : World) : Calls Try.prog 48 #[.int .i64 x] w fun e w' => e = .returned (.int .i64 (pv x)) ∧ w = w' := by
  go_enter Try.func48, Try.ntmps48
  go_wp2
  all_goals (go_ret; exact ⟨ret_int (by unfold pv; repeat' split; all_goals omega), rfl⟩)

/-- How many symbols stand below a symbol. -/
def rk (x : Int) : Int := if x ≤ 55295 then x else if x ≤ 1114111 then x - 2048 else x - 2176
set_option maxHeartbeats 400000 in
theorem rank_any (x : Int) (w : World) (h : sym x = true) : Calls Try.prog 42 #[.int .i64 x] w fun e w' => e = .returned (.int .i64 (rk x)) ∧ w = w' := by
  rw [sym_iff] at h
  have h0 : 0 ≤ x := by omega
  have h1 : x ≤ 1114367 := by omega
  have H := Lib.hid h; clear h
  go_enter Try.func42, Try.ntmps42
  go_wp2
  all_goals (go_ret; exact ⟨ret_int (by have h := H.out; unfold rk; repeat' split; all_goals omega), rfl⟩)
set_option maxHeartbeats 400000 in
theorem rrank_any (x : Int) (w : World) (h : sym x = true) : Calls Try.prog 43 #[.int .i64 x] w fun e w' => e = .returned (.int .i64 (rk x)) ∧ w = w' := by
  rw [sym_iff] at h
  have h0 : 0 ≤ x := by omega
  have h1 : x ≤ 1114367 := by omega
  have H := Lib.hid h; clear h
  go_enter Try.func43, Try.ntmps43
  go_wp2
  all_goals (go_ret; exact ⟨ret_int (by have h := H.out; unfold rk; repeat' split; all_goals omega), rfl⟩)

set_option maxHeartbeats 400000 in
theorem apart_any (a b : R) (w : World) : Calls Try.prog 33 #[rv a, rv b] w fun e w' => e = .returned (.bool (ap a b)) ∧ Below w.heap.size w w' := by
  obtain ⟨a1, a2⟩ := a
  obtain ⟨b1, b2⟩ := b
  have HN := Lib.hid (next_any a2)
  have E : ap (a1, a2) (b1, b2) = (decide (nx a2 ≠ -1) && decide (nx a2 < b1)) := rfl
  rw [E]; clear E
  generalize nx a2 = n at *
  unfold rv
  go_enter Try.func33, Try.ntmps33
  go_wp2_with (go_at_call 47; refine (HN.out _).mono ?_; rintro e w' ⟨rfl, rfl⟩)
  all_goals (go_ret; exact ⟨ret_bool (by rw [Bool.eq_iff_iff]; simp; try omega), ((Below.refl _ _).alloc (Nat.le_refl _) _).alloc (by simp) _⟩)
end Go.Proofs.Ytfjcljhodnkieaa
