/-
  What One answers, of the program and of the page's own: the only symbol of a list. Condition: at most 1000000 ranges.
-/
import Derived.Test.YtfjcljhodnkieaaW9
namespace Go.Proofs.Ytfjcljhodnkieaa
open Go.RowKit ObSets

def one1 : List R → Int
  | [(a, b)] => if a = b then a else 0
  | _ => 0
def one2 : List R → Bool
  | [(a, b)] => decide (a = b)
  | _ => false
theorem one_not {m : List R} (h : m.length ≠ 1) : one1 m = 0 ∧ one2 m = false := by
  match m, h with
  | [], _ => exact ⟨rfl, rfl⟩
  | [_], h => simp at h
  | _ :: _ :: _, _ => exact ⟨rfl, rfl⟩
theorem ret_ib {a b : Int} {c d : Bool} (h1 : a = b) (h2 : c = d) : Ending.returned (.tuple #[.int .i64 a, .bool c]) = .returned (.tuple #[.int .i64 b, .bool d]) := by rw [h1, h2]

set_option maxHeartbeats 1000000 in
theorem one_any (A : Option Addr) (c : Nat) (l : List R) (w : World) (h : Rgs w w.heap.size A l) (hl : l.length ≤ 1000000) :
    Calls Try.prog 9 #[.slice A l.length c] w fun e w' => e = .returned (.tuple #[.int .i64 (one1 (nrm l)), .bool (one2 (nrm l))]) ∧ Below w.heap.size w w' := by
  have HC := Lib.hid (norm_any A c l w h hl)
  have hnl := Lib.hid (show (nrm l).length ≤ 1000000 by have := nrm_len l; omega)
  generalize nrm l = m at *
  generalize l.length = n at *
  clear h hl
  go_enter Try.func9, Try.ntmps9
  go_wp2_with (go_at_call 14; refine HC.out.mono ?_; rintro e w1 ⟨v, rfl, hown, hb⟩)
  obtain ⟨A1, cap, rfl, hc1, hc2, hr, _⟩ := hown.shape
  have hml := hnl.out
  clear hown HC
  by_cases hm : m.length = 1
  · obtain ⟨⟨a, b⟩, rfl⟩ : ∃ r, m = [r] := List.length_eq_one_iff.1 hm
    obtain ⟨g, off, a', b', rfl, hg, e1, f1, f2⟩ := hr.at_ (k := 0) (by simp)
    simp at e1
    obtain ⟨rfl, rfl⟩ := e1
    simp only [Nat.zero_mul, Nat.add_zero] at f1 f2
    clear hr hc1
    simp only [List.length_singleton]
    by_cases hab : a = b
    · subst hab
      have hq : (a == a) = true := by simp
      go_wp2
      go_quiet (fail)
      go_wp2
      go_ret2
      exact ⟨ret_ib (by simp [one1]) (by simp [one2]), below_drews hb nq⟩
    · have hq : (a == b) = false := by simpa using hab
      go_wp2
      go_quiet (fail)
      go_wp2
      go_ret2
      exact ⟨ret_ib (by simp [one1, hab]) (by simp [one2, hab]), below_drews hb nq⟩
  · obtain ⟨e1, e2⟩ := one_not hm
    have hq : (((m.length : Nat) : Int) == 1) = false := by simp; omega
    have hq2 : (((m.length : Nat) : Int) != 1) = true := by simp; omega
    have E1 := Lib.hid e1; have E2 := Lib.hid e2
    clear hr e1 e2
    generalize m.length = k at *
    go_wp2
    go_quiet (fail)
    go_wp2
    go_ret2
    exact ⟨ret_ib E1.out.symm E2.out.symm, below_drews hb nq⟩

set_option maxHeartbeats 1000000 in
theorem rone_any (A : Option Addr) (c : Nat) (l : List R) (w : World) (h : Rgs w w.heap.size A l) (hl : l.length ≤ 1000000) :
    Calls Try.prog 10 #[.slice A l.length c] w fun e w' => e = .returned (.tuple #[.int .i64 (one1 (nrm l)), .bool (one2 (nrm l))]) ∧ Below w.heap.size w w' := by
  have HC := Lib.hid (rnorm_any A c l w h hl)
  have hnl := Lib.hid (show (nrm l).length ≤ 1000000 by have := nrm_len l; omega)
  generalize nrm l = m at *
  generalize l.length = n at *
  clear h hl
  go_enter Try.func10, Try.ntmps10
  go_wp2_with (go_at_call 15; refine HC.out.mono ?_; rintro e w1 ⟨v, rfl, hown, hb⟩)
  obtain ⟨A1, cap, rfl, hc1, hc2, hr, _⟩ := hown.shape
  have hml := hnl.out
  clear hown HC
  by_cases hm : m.length = 1
  · obtain ⟨⟨a, b⟩, rfl⟩ : ∃ r, m = [r] := List.length_eq_one_iff.1 hm
    obtain ⟨g, off, a', b', rfl, hg, e1, f1, f2⟩ := hr.at_ (k := 0) (by simp)
    simp at e1
    obtain ⟨rfl, rfl⟩ := e1
    simp only [Nat.zero_mul, Nat.add_zero] at f1 f2
    clear hr hc1
    simp only [List.length_singleton]
    by_cases hab : a = b
    · subst hab
      have hq : (a == a) = true := by simp
      go_wp2
      go_quiet (fail)
      go_wp2
      go_ret2
      exact ⟨ret_ib (by simp [one1]) (by simp [one2]), below_drews hb nq⟩
    · have hq : (a == b) = false := by simpa using hab
      go_wp2
      go_quiet (fail)
      go_wp2
      go_ret2
      exact ⟨ret_ib (by simp [one1, hab]) (by simp [one2, hab]), below_drews hb nq⟩
  · obtain ⟨e1, e2⟩ := one_not hm
    have hq : (((m.length : Nat) : Int) == 1) = false := by simp; omega
    have hq2 : (((m.length : Nat) : Int) != 1) = true := by simp; omega
    have E1 := Lib.hid e1; have E2 := Lib.hid e2
    clear hr e1 e2
    generalize m.length = k at *
    go_wp2
    go_quiet (fail)
    go_wp2
    go_ret2
    exact ⟨ret_ib E1.out.symm E2.out.symm, below_drews hb nq⟩
end Go.Proofs.Ytfjcljhodnkieaa
