/-
  What isPlace, Bol, Eol of line and of the page's own answer, at every slice of numbers and every place. Condition: at most 1000000 numbers.
-/
import Derived.Test.YtgnlepjpclcnoaaMem
namespace Go.Proofs.Ytgnlepjpclcnoaa
open Go.RowKit ObLine

def plB (n : Nat) (p : Int) : Bool := decide (0 ≤ p ∧ p ≤ n)
theorem plB_in {n k : Nat} (h : k ≤ n) : plB n (k : Int) = true := by unfold plB; simp; omega
theorem plB_out {n : Nat} {p : Int} (h : ¬ (0 ≤ p ∧ p ≤ n)) : plB n p = false := by unfold plB; simpa using h
set_option maxHeartbeats 400000 in
theorem isPlace_any (A : Option Addr) (n c : Nat) (p : Int) (w : World) : Calls Try.prog 23 #[.slice A n c, .int .i64 p] w fun e w' => e = .returned (.bool (plB n p)) ∧ w = w' := by
  have HX := Lib.hid (show plB n p = decide (0 ≤ p ∧ p ≤ n) from rfl)
  go_enter Try.func23, Try.ntmps23
  go_wp2
  all_goals (go_ret; exact ⟨ret_bool (by rw [HX.out, Bool.eq_iff_iff]; simp; omega), rfl⟩)

def BolC (A : Option Addr) (n c : Nat) (p : Int) (w : World) (r : Bool) : Prop := Calls Try.prog 14 #[.slice A n c, .int .i64 p] w fun e w' => e = .returned (.bool r) ∧ Below w.heap.size w w'
def EolC (A : Option Addr) (n c : Nat) (p : Int) (w : World) (r : Bool) : Prop := Calls Try.prog 16 #[.slice A n c, .int .i64 p] w fun e w' => e = .returned (.bool r) ∧ Below w.heap.size w w'
def RbolC (A : Option Addr) (n c : Nat) (p : Int) (w : World) (r : Bool) : Prop := Calls Try.prog 15 #[.slice A n c, .int .i64 p] w fun e w' => e = .returned (.bool r) ∧ Below w.heap.size w w'
def ReolC (A : Option Addr) (n c : Nat) (p : Int) (w : World) (r : Bool) : Prop := Calls Try.prog 17 #[.slice A n c, .int .i64 p] w fun e w' => e = .returned (.bool r) ∧ Below w.heap.size w w'
section
variable (A : Option Addr) (n c : Nat) (p : Int) (w : World)
set_option maxHeartbeats 400000 in
theorem bol_c0 : BolC A n c 0 w true := by
  have HI := Lib.hid (isPlace_any A n c 0 w)
  rw [show plB n 0 = true from plB_in (Nat.zero_le n)] at HI
  unfold BolC
  go_enter Try.func14, Try.ntmps14
  go_wp2_with fail
  refine HI.out.mono ?_
  rintro e w' ⟨rfl, rfl⟩
  go_wp2
  go_ret
  exact ⟨rfl, Below.refl _ _⟩
set_option maxHeartbeats 400000 in
theorem bol_out (h : ¬ (0 ≤ p ∧ p ≤ n)) : BolC A n c p w false := by
  have HI := Lib.hid (isPlace_any A n c p w)
  rw [plB_out h] at HI
  clear h
  unfold BolC
  go_enter Try.func14, Try.ntmps14
  go_wp2_with fail
  refine HI.out.mono ?_
  rintro e w' ⟨rfl, rfl⟩
  go_wp2
  go_ret
  exact ⟨rfl, Below.refl _ _⟩
set_option maxHeartbeats 400000 in
theorem bol_c1 (b off k : Nat) (y : Int) (hx : w.cell? ⟨b, off + k, none⟩ = some (.int .i64 y)) (hk : k < n) (hn : n ≤ 1000000) : BolC (some ⟨b, off, none⟩) n c ((k : Int) + 1) w (y == 10) := by
  have HI := Lib.hid (isPlace_any (some ⟨b, off, none⟩) n c ((k : Int) + 1) w)
  rw [show plB n ((k : Int) + 1) = true from plB_in (k := k + 1) (by omega)] at HI
  have hne : (((k : Int) + 1) == 0) = false := by rw [beq_eq_false_iff_ne]; omega
  have e1 : (k : Int) + 1 - 1 = (k : Int) := by omega
  unfold BolC
  go_enter Try.func14, Try.ntmps14
  go_wp2_with fail
  refine HI.out.mono ?_
  rintro e w' ⟨rfl, rfl⟩
  go_wp2
  go_ret
  exact ⟨rfl, Below.refl _ _⟩
set_option maxHeartbeats 400000 in
theorem rbol_c0 : RbolC A n c 0 w true := by
  unfold RbolC
  go_enter Try.func15, Try.ntmps15
  go_wp2
  go_ret
  exact ⟨rfl, Below.refl _ _⟩
set_option maxHeartbeats 400000 in
theorem rbol_out (h : ¬ (0 ≤ p ∧ p ≤ n)) : RbolC A n c p w false := by
  have hne : (p == 0) = false := by rw [beq_eq_false_iff_ne]; omega
  unfold RbolC
  go_enter Try.func15, Try.ntmps15
  go_wp2
  all_goals first | (exfalso; omega) | (go_ret; exact ⟨rfl, Below.refl _ _⟩)
set_option maxHeartbeats 400000 in
theorem rbol_c1 (b off k : Nat) (y : Int) (hx : w.cell? ⟨b, off + k, none⟩ = some (.int .i64 y)) (hk : k < n) (hn : n ≤ 1000000) : RbolC (some ⟨b, off, none⟩) n c ((k : Int) + 1) w (y == 10) := by
  have hne : (((k : Int) + 1) == 0) = false := by rw [beq_eq_false_iff_ne]; omega
  have e1 : (k : Int) + 1 - 1 = (k : Int) := by omega
  have d1 : decide ((0 : Int) < (k : Int) + 1) = true := decide_eq_true (by omega)
  have d2 : decide ((k : Int) + 1 ≤ (n : Int)) = true := decide_eq_true (by omega)
  unfold RbolC
  go_enter Try.func15, Try.ntmps15
  go_wp2
  go_ret
  exact ⟨rfl, Below.refl _ _⟩
set_option maxHeartbeats 400000 in
theorem eol_c0 : EolC A n c (n : Int) w true := by
  have HI := Lib.hid (isPlace_any A n c (n : Int) w)
  rw [plB_in (Nat.le_refl n)] at HI
  have hq : ((n : Int) == (n : Int)) = true := by simp
  unfold EolC
  go_enter Try.func16, Try.ntmps16
  go_wp2_with fail
  refine HI.out.mono ?_
  rintro e w' ⟨rfl, rfl⟩
  go_wp2
  go_ret
  exact ⟨rfl, Below.refl _ _⟩
set_option maxHeartbeats 400000 in
theorem eol_out (h : ¬ (0 ≤ p ∧ p ≤ n)) : EolC A n c p w false := by
  have HI := Lib.hid (isPlace_any A n c p w)
  rw [plB_out h] at HI
  clear h
  unfold EolC
  go_enter Try.func16, Try.ntmps16
  go_wp2_with fail
  refine HI.out.mono ?_
  rintro e w' ⟨rfl, rfl⟩
  go_wp2
  go_ret
  exact ⟨rfl, Below.refl _ _⟩
set_option maxHeartbeats 400000 in
theorem eol_c1 (b off k : Nat) (y : Int) (hx : w.cell? ⟨b, off + k, none⟩ = some (.int .i64 y)) (hk : k < n) : EolC (some ⟨b, off, none⟩) n c (k : Int) w (y == 10) := by
  have HI := Lib.hid (isPlace_any (some ⟨b, off, none⟩) n c (k : Int) w)
  rw [plB_in (Nat.le_of_lt hk)] at HI
  have hne : ((k : Int) == (n : Int)) = false := by rw [beq_eq_false_iff_ne]; omega
  have hne2 : (k == n) = false := by rw [beq_eq_false_iff_ne]; omega
  unfold EolC
  go_enter Try.func16, Try.ntmps16
  go_wp2_with fail
  refine HI.out.mono ?_
  rintro e w' ⟨rfl, rfl⟩
  go_wp2
  go_ret
  exact ⟨rfl, Below.refl _ _⟩
set_option maxHeartbeats 400000 in
theorem reol_c0 : ReolC A n c (n : Int) w true := by
  have hq : ((n : Int) == (n : Int)) = true := by simp
  unfold ReolC
  go_enter Try.func17, Try.ntmps17
  go_wp2
  go_ret
  exact ⟨rfl, Below.refl _ _⟩
set_option maxHeartbeats 400000 in
theorem reol_out (h : ¬ (0 ≤ p ∧ p ≤ n)) : ReolC A n c p w false := by
  have hne : (p == (n : Int)) = false := by rw [beq_eq_false_iff_ne]; omega
  unfold ReolC
  go_enter Try.func17, Try.ntmps17
  go_wp2
  all_goals first | (exfalso; omega) | (go_ret; exact ⟨rfl, Below.refl _ _⟩)
set_option maxHeartbeats 400000 in
theorem reol_c1 (b off k : Nat) (y : Int) (hx : w.cell? ⟨b, off + k, none⟩ = some (.int .i64 y)) (hk : k < n) : ReolC (some ⟨b, off, none⟩) n c (k : Int) w (y == 10) := by
  have hne : ((k : Int) == (n : Int)) = false := by rw [beq_eq_false_iff_ne]; omega
  have hne2 : (k == n) = false := by rw [beq_eq_false_iff_ne]; omega
  have d1 : decide ((0 : Int) ≤ (k : Int)) = true := by simp
  have d2 : decide (k < n) = true := by simp [hk]
  unfold ReolC
  go_enter Try.func17, Try.ntmps17
  go_wp2
  go_ret
  exact ⟨rfl, Below.refl _ _⟩
end
theorem beq10 (y : Int) : (y == 10) = decide (y = 10) := rfl
section
variable {A : Option Addr} {n c B : Nat} {f : Nat → Int} {w : World} (h : Cells w B A n f) (hn : n ≤ 1000000) (p : Int)
include h hn
theorem bol_any : BolC A n c p w (bol f n p) := by
  by_cases h1 : 0 ≤ p ∧ p ≤ n
  · obtain ⟨k, rfl⟩ := Int.eq_ofNat_of_zero_le h1.1
    cases k with
    | zero => rw [show bol f n ((0 : Nat) : Int) = true from bol_zero f n]; exact bol_c0 A n c w
    | succ k =>
      obtain ⟨b, off, rfl, hb, hc⟩ := h (by omega)
      rw [bol_succ (by omega), ← beq10]
      exact bol_c1 n c w b off k (f k) (hc k (by omega)) (by omega) hn
  · rw [show bol f n p = false by unfold bol; simp; omega]
    exact bol_out A n c p w h1
theorem rbol_any : RbolC A n c p w (bol f n p) := by
  by_cases h1 : 0 ≤ p ∧ p ≤ n
  · obtain ⟨k, rfl⟩ := Int.eq_ofNat_of_zero_le h1.1
    cases k with
    | zero => rw [show bol f n ((0 : Nat) : Int) = true from bol_zero f n]; exact rbol_c0 A n c w
    | succ k =>
      obtain ⟨b, off, rfl, hb, hc⟩ := h (by omega)
      rw [bol_succ (by omega), ← beq10]
      exact rbol_c1 n c w b off k (f k) (hc k (by omega)) (by omega) hn
  · rw [show bol f n p = false by unfold bol; simp; omega]
    exact rbol_out A n c p w h1
theorem eol_any : EolC A n c p w (eol f n p) := by
  by_cases h1 : 0 ≤ p ∧ p ≤ n
  · obtain ⟨k, rfl⟩ := Int.eq_ofNat_of_zero_le h1.1
    rcases Nat.lt_or_ge k n with h2 | h2
    · obtain ⟨b, off, rfl, hb, hc⟩ := h (by omega)
      rw [eol_at h2, ← beq10]
      exact eol_c1 n c w b off k (f k) (hc k h2) h2
    · obtain rfl : k = n := by omega
      rw [eol_end]; exact eol_c0 A k c w
  · rw [show eol f n p = false by unfold eol; simp; omega]
    exact eol_out A n c p w h1
theorem reol_any : ReolC A n c p w (eol f n p) := by
  by_cases h1 : 0 ≤ p ∧ p ≤ n
  · obtain ⟨k, rfl⟩ := Int.eq_ofNat_of_zero_le h1.1
    rcases Nat.lt_or_ge k n with h2 | h2
    · obtain ⟨b, off, rfl, hb, hc⟩ := h (by omega)
      rw [eol_at h2, ← beq10]
      exact reol_c1 n c w b off k (f k) (hc k h2) h2
    · obtain rfl : k = n := by omega
      rw [eol_end]; exact reol_c0 A k c w
  · rw [show eol f n p = false by unfold eol; simp; omega]
    exact reol_out A n c p w h1
end
end Go.Proofs.Ytgnlepjpclcnoaa
