/-
  What EqInts (of lists that are the same), Ints, Within (below 9) and lines answer. Condition: at most 1000001 numbers (lines, Ints: any slice).
-/
import Derived.Test.YtgnlepjpclcnoaaW4
import Derived.Deep.QuietTactic
import Derived.BigQuiet
namespace Go.Proofs.Ytgnlepjpclcnoaa
open Go.RowKit ObLine

def SameTo (f g : Nat → Int) (k : Nat) : Prop := ∀ j, j < k → f j = g j
set_option maxHeartbeats 400000 in
set_option maxRecDepth 100000 in
theorem eq_same (A1 A2 : Option Addr) (n c1 c2 B : Nat) (f g : Nat → Int) (w : World) (h1 : Cells w B A1 n f) (h2 : Cells w B A2 n g) (hn : n ≤ 1000001) (h : SameTo f g n) :
    Calls Try.prog 9 #[.slice A1 n c1, .slice A2 n c2] w fun e w' => e = .returned (.bool true) ∧ Below w.heap.size w w' := by
  have H1 := Lib.hid h1; have H2 := Lib.hid h2; have H := Lib.hid h
  clear h1 h2 h
  go_enter Try.func9, Try.ntmps9
  go_wp2
  go_loopw [5] (fun t wr => ∃ k : Nat, k ≤ n ∧ t = .int .i64 k ∧ ∃ q, wr = w.drewN q) (fun t _ => n - (intOf t).toNat)
  case atStart => exact ⟨0, Nat.zero_le _, rfl, 0, rfl⟩
  case round =>
    obtain ⟨k, hk, rfl, q, rfl⟩ := hrel
    by_cases hlt : k < n
    · obtain ⟨b1, o1, rfl, _, k1⟩ := H1.out (by omega)
      obtain ⟨b2, o2, rfl, _, k2⟩ := H2.out (by omega)
      have x1 := k1 k hlt
      have x2 := k2 k hlt
      have e := H.out k hlt
      rw [← e] at x2
      clear k1 k2 e H1 H2
      have hlt' : (k : Int) < (n : Int) := by omega
      have hd : decide (k < n) = true := by simp [hlt]
      have hq : (f k != f k) = false := by simp
      generalize f k = y at *
      go_wp2
      go_quiet (fail)
      go_wp2
      go_roundw
      case rel => exact ⟨k + 1, by omega, by go_num, ⟨_, rfl⟩⟩
      case measure => simp [intOf]; omega
    · have hd : decide (k < n) = false := by simp; omega
      go_wp2
      go_ret
      exact ⟨rfl, below_drews (Below.refl _ _) _⟩
set_option maxHeartbeats 400000 in
theorem ints_any (A : Option Addr) (n c : Nat) (w : World) (hnc : n ≤ c) (hn : n ≤ 60) :
    Calls Try.prog 21 #[.slice A n c, .int .i64 50] w fun e w' => ∃ A' c', e = .returned (.slice A' (min n 50) c') ∧ min n 50 ≤ c' ∧ (∀ w B f, Cells w B A n f → Cells w B A' (min n 50) f) ∧ w = w' := by
  by_cases h : 50 < n
  · obtain ⟨A', c', hr, hcc, hc', hk⟩ := cut_head A n c 50 (by omega) hnc
    clear hc'
    rw [Nat.min_eq_right (by omega)]
    have hr' : ∀ w, (Instr.sliceAt 22 (.slice A n c) none (some (.int .i64 50)) none).run Try.prog w = .ok (.slice A' 50 c') w := hr
    have HK := Lib.hid hk
    have hd : decide ((50 : Int) < (n : Int)) = true := decide_eq_true (by omega)
    clear hr hk
    go_enter Try.func21, Try.ntmps21
    go_wp2_with (with_reducible refine wpList_slice_run rfl 22 (.tmp 9) none (some (.tmp 10)) none rfl _ (hr' _) ?_)
    go_ret
    exact ⟨A', c', rfl, hcc, HK.out, rfl⟩
  · rw [Nat.min_eq_left (by omega)]
    have hd : decide ((50 : Int) < (n : Int)) = false := decide_eq_false (by omega)
    go_enter Try.func21, Try.ntmps21
    go_wp2
    go_ret
    exact ⟨A, c, rfl, hnc, fun _ _ _ h => h, rfl⟩
set_option maxHeartbeats 400000 in
theorem within_any (x : Int) (w : World) : Calls Try.prog 20 #[.int .i64 x, .int .i64 9] w fun e w' => e = .returned (.int .i64 (x % 9)) ∧ w = w' := by
  have e := @Int.tmod_eq_emod x 9
  rw [show Int.natAbs 9 = 9 from rfl] at e
  have k : (x.tmod 9 = x % 9) ∨ (x.tmod 9 = x % 9 - 9 ∧ 0 < x % 9) := by
    rw [e]; split
    · left; omega
    · right; omega
  clear e
  have h1 : -9 < x.tmod 9 := by omega
  have h2 : x.tmod 9 < 9 := by omega
  have H3 := Lib.hid (show x.tmod 9 < 0 → x % 9 = x.tmod 9 + 9 by omega)
  have H4 := Lib.hid (show 0 ≤ x.tmod 9 → x % 9 = x.tmod 9 by omega)
  clear k
  go_enter Try.func20, Try.ntmps20
  go_wp2
  · go_ret
    exact ⟨ret_int (H3.out (by assumption)).symm, rfl⟩
  · go_ret
    exact ⟨ret_int (H4.out (by assumption)).symm, rfl⟩
/-- What lines hands back: a slice of its own of at most sixty numbers. -/
def RetL (w : World) (e : Ending) (w' : World) : Prop := ∃ zs : List Int, zs.length ≤ 60 ∧ RetInts zs w e w'
set_option maxHeartbeats 1000000 in
set_option maxRecDepth 100000 in
theorem lines_any {A : Option Addr} {n c : Nat} {f : Nat → Int} {w : World} (h : Cells w w.heap.size A n f) : Calls Try.prog 8 #[.slice A n c] w (RetL w) := by
  obtain ⟨i0, hi, hz0, hz1, hz2⟩ := info3x
  have HC := Lib.hid h
  clear h
  go_enter Try.func8, Try.ntmps8
  go_wp2
  go_loopw [3, 4] (fun v t wr => ∃ (k : Nat) (zs : List Int), k ≤ n ∧ k ≤ 60 ∧ zs.length = k ∧ t = .int .i64 (k : Int) ∧ wr.ownsRow w.heap.size 3 1 v k (zs.map (Value.int .i64)) ∧ Below w.heap.size w wr) (fun _ t _ => 60 - (intOf t).toNat)
  case atStart => exact ⟨0, [], Nat.zero_le _, Nat.zero_le _, rfl, rfl, World.ownsRow_nil _ _ _ _, Below.refl _ _⟩
  case round =>
    obtain ⟨k, zs, hk, hk6, hzl, rfl, hown, hb⟩ := hrel
    have HO := Lib.hid hown
    have HZ := Lib.hid hzl
    clear hown hzl
    by_cases hlt : k < n
    · have hd : decide (k < n) = true := by simp [hlt]
      by_cases h60 : k < 60
      · obtain ⟨b, off, rfl, hbB, hcl⟩ := HC.out (by omega)
        have hx := (hb.cell (p := ⟨b, off + k, none⟩) hbB).trans (hcl k hlt)
        have hd2 : decide ((k : Int) < 60) = true := decide_eq_true (by omega)
        clear hcl HC
        generalize f k = y at *
        by_cases he : y.tmod 3 = 0
        · have hq : (y.tmod 3 == 0) = true := beq_iff_eq.2 he
          clear he
          go_wp2_with (at_builtin; refine wpList_append_own _ rfl _ _ 22 rfl w.heap.size 3 i0 (.int .i64 0) 1 8 Try.underlying22 hi hz0 hz1 hz2 rfl (by decide) _ _ _ rfl (HO.out.alloc _) ⟨wr.heap.size, 0, none⟩ 1 1 [.int .i64 10] rfl rfl ?c1 ?c2 ?c3 ?c4 ?c5 ?_)
          case c1 => exact one_cell _ _ _
          case c2 => intro u hu; simp at hu; subst hu; rfl
          case c3 => unfold maxLen; omega
          case c4 => omega
          case c5 => have := hb.size; simp; omega
          intro v' w2 hown' hgrow _
          have R := push_rel hb (Below.refl _ _) HO.out hown' hgrow
          clear hown' hgrow
          have R1 := Lib.hid R.1; have R2 := R.2
          clear R
          go_wp2
          go_roundw
          case rel => exact ⟨k + 1, zs ++ [10], by omega, by omega, by rw [List.length_append, HZ.out]; rfl, by go_num, by simpa using R1.out, R2⟩
          case measure => simp [intOf]; omega
        · have hq : (y.tmod 3 == 0) = false := beq_eq_false_iff_ne.2 he
          clear he
          go_wp2_with (at_builtin; refine wpList_append_own _ rfl _ _ 22 rfl w.heap.size 3 i0 (.int .i64 0) 1 8 Try.underlying22 hi hz0 hz1 hz2 rfl (by decide) _ _ _ rfl (HO.out.alloc _) ⟨wr.heap.size, 0, none⟩ 1 1 [.int .i64 y] rfl rfl ?c1 ?c2 ?c3 ?c4 ?c5 ?_)
          case c1 => exact one_cell _ _ _
          case c2 => intro u hu; simp at hu; subst hu; rfl
          case c3 => unfold maxLen; omega
          case c4 => omega
          case c5 => have := hb.size; simp; omega
          intro v' w2 hown' hgrow _
          have R := push_rel hb (Below.refl _ _) HO.out hown' hgrow
          clear hown' hgrow
          have R1 := Lib.hid R.1; have R2 := R.2
          clear R
          go_wp2
          go_roundw
          case rel => exact ⟨k + 1, zs ++ [y], by omega, by omega, by rw [List.length_append, HZ.out]; rfl, by go_num, by simpa using R1.out, R2⟩
          case measure => simp [intOf]; omega
      · have hd2 : decide ((k : Int) < 60) = false := decide_eq_false (by omega)
        clear HC
        go_wp2
        go_ret
        exact ⟨zs, by rw [HZ.out]; omega, _, rfl, by rw [HZ.out]; exact HO.out, hb⟩
    · have hd : decide (k < n) = false := by simp; omega
      clear HC
      go_wp2
      go_ret
      exact ⟨zs, by rw [HZ.out]; omega, _, rfl, by rw [HZ.out]; exact HO.out, hb⟩
end Go.Proofs.Ytgnlepjpclcnoaa
