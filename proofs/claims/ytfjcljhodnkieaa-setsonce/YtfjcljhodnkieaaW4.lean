/-
  What EqSet answers: whether two slices of ranges read as one list. Condition: at most 1000000 ranges each.
-/
import Derived.Test.YtfjcljhodnkieaaMem
import Derived.Laws.StructEq
namespace Go.Proofs.Ytfjcljhodnkieaa
open Go.RowKit ObSets

theorem eq32 (a b c d : Int) (w : World) : (Op.equalIn 10000 32 (.agg #[.int .i64 a, .int .i64 b]) (.agg #[.int .i64 c, .int .i64 d])).run Try.prog w = .ok (a == c && b == d) w := by
  have u3 := Try.underlying3
  have a3 := Try.isAgg3
  have z3 := Try.sizeOf3
  have hS : Try.prog.underlying 32 = some (.struct (Try.prog.fieldsOf 32)) := by kernel_rfl
  have hp : Try.prog.stoodInHeld 32 = false := by kernel_rfl
  rw [show (10000 : Nat) = 9999 + 1 from rfl, run_equalIn_agg w 9999 32 _ _ hS hp]
  simp only [Program.fieldsOf, Try.underlying32]
  go_simp
  by_cases h1 : a = c <;> by_cases h2 : b = d <;> simp [h1, h2]
theorem neq32 (a b c d : Int) (w : World) : (binOp .neq 32 (.agg #[.int .i64 a, .int .i64 b]) (.agg #[.int .i64 c, .int .i64 d])).run Try.prog w = .ok (.bool (!(a == c && b == d))) w := by
  rw [run_neq_struct, eq32]
  simp [Result.andThen]

def SameTo (l m : List R) (k : Nat) : Prop := l.take k = m.take k
theorem SameTo.succ {l m : List R} {k : Nat} {r : R} (h : SameTo l m k) (h1 : l[k]? = some r) (h2 : m[k]? = some r) : SameTo l m (k + 1) := by
  unfold SameTo at *
  rw [List.take_add_one, List.take_add_one, h, h1, h2]
set_option maxHeartbeats 1000000 in
set_option maxRecDepth 100000 in
theorem eqset_any (A1 A2 : Option Addr) (c1 c2 : Nat) (l m : List R) (w : World) (h1 : Rgs w w.heap.size A1 l) (h2 : Rgs w w.heap.size A2 m) (hl : l.length ≤ 1000000) (hm : m.length ≤ 1000000) :
    Calls Try.prog 13 #[.slice A1 l.length c1, .slice A2 m.length c2] w fun e w' => e = .returned (.bool (decide (l = m))) ∧ Below w.heap.size w w' := by
  by_cases hlen : l.length = m.length
  · have hb : ((l.length : Int) == (m.length : Int)) = true := by simp; omega
    have HL := Lib.hid hlen
    have HM := Lib.hid (show l.length = m.length → l.take l.length = m.take l.length → l = m from fun e h => by rw [List.take_length, e, List.take_length] at h; exact h)
    generalize hn : l.length = n at *
    rw [← hlen] at hb ⊢
    rw [← hlen] at hm
    have HN := Lib.hid hn
    clear hlen hn
    go_enter Try.func13, Try.ntmps13
    go_wp2
    go_loopw [5] (fun t wr => ∃ k : Nat, k ≤ n ∧ t = .int .i64 k ∧ SameTo l m k ∧ Below w.heap.size w wr) (fun t _ => n - (intOf t).toNat)
    case atStart => exact ⟨0, by omega, rfl, rfl, Below.refl _ _⟩
    case round =>
      obtain ⟨k, hk, rfl, hs, hb2⟩ := hrel
      have HS := Lib.hid hs
      clear hs
      by_cases hkn : k < n
      · obtain ⟨b, off, a, c, rfl, hbl, e1, f1, f2⟩ := (h1.below hb2).at_ (k := k) (by rw [HN.out]; exact hkn)
        obtain ⟨b', off', a', c', rfl, hbl', e2, g1, g2⟩ := (h2.below hb2).at_ (k := k) (by rw [← HL.out]; exact hkn)
        have E1 := Lib.hid e1; have E2 := Lib.hid e2
        clear e1 e2
        have hk1 : (k : Int) < (n : Int) := by omega
        have hgt := Try.eqGuardType32
        by_cases hq : a = a' ∧ c = c'
        · obtain ⟨rfl, rfl⟩ := hq
          have hqq := fun w => neq32 a c a c w
          have hqe : (a == a && c == c) = true := by simp
          go_wp2
          go_quiet (fail)
          go_wp2
          go_roundw
          case rel => exact ⟨k + 1, by omega, by go_num, HS.out.succ E1.out E2.out, below_drews hb2 nq⟩
          case measure => simp [intOf]; omega
        · have hqq := fun w => neq32 a c a' c' w
          have hqe : (a == a' && c == c') = false := by
            rw [Bool.eq_false_iff]; intro h; exact hq (by simpa using h)
          have HF := Lib.hid (show decide (l = m) = false from decide_eq_false fun h => hq (by
            have e1 := E1.out; have e2 := E2.out
            rw [h, e2] at e1
            injection e1 with e1
            injection e1 with e1 e3
            exact ⟨e1.symm, e3.symm⟩))
          clear hq
          go_wp2
          go_quiet (fail)
          go_wp2
          go_ret
          exact ⟨ret_bool HF.out.symm, below_drews hb2 nq⟩
      · have hk1 : decide (k < n) = false := by simp; omega
        obtain rfl : k = n := by omega
        have HF := Lib.hid (show decide (l = m) = true from decide_eq_true (HM.out HL.out HS.out))
        go_wp2
        go_ret
        exact ⟨ret_bool HF.out.symm, hb2⟩
  · have hb : ((l.length : Int) == (m.length : Int)) = false := by simp; omega
    have hb' : (l.length == m.length) = false := by simp; omega
    have HF := Lib.hid (show decide (l = m) = false from decide_eq_false fun h => hlen (by rw [h]))
    generalize l.length = n1 at *
    generalize m.length = n2 at *
    clear h1 h2
    go_enter Try.func13, Try.ntmps13
    go_wp2
    go_ret
    exact ⟨ret_bool HF.out.symm, Below.refl _ _⟩
end Go.Proofs.Ytfjcljhodnkieaa
