/-
  What Starts of line and of the page's own, Has, EqInts, Ints, Within and lines answer. Condition: at most 1000000 numbers (lines: any slice).
-/
import Derived.Test.YtgnlepjpclcnoaaW3
namespace Go.Proofs.Ytgnlepjpclcnoaa
open Go.RowKit ObLine

set_option maxHeartbeats 1000000 in
set_option maxRecDepth 100000 in
theorem starts_any {A : Option Addr} {n c : Nat} {f : Nat → Int} {w : World} (h : Cells w w.heap.size A n f) (hn : n ≤ 1000000) : Calls Try.prog 10 #[.slice A n c] w (RetInts (starts f n) w) := by
  obtain ⟨i0, hi, hz0, hz1, hz2⟩ := info3x
  have HC := Lib.hid h
  have HZ := Lib.hid (show (w.alloc (.cells #[.int .i64 0] 3)).ownsRow w.heap.size 3 1 (.slice (some ⟨w.heap.size, 0, none⟩) 1 1) 1 ((starts f 0).map (Value.int .i64)) from World.ownsRow_lit w #[.int .i64 0] 1 (Nat.le_refl _) (by unfold maxLen; omega) rfl)
  have HL := Lib.hid (fun k => starts_len f k)
  clear h
  go_enter Try.func10, Try.ntmps10
  go_wp2
  go_loopw [3, 9] (fun v t wr => ∃ k : Nat, k ≤ n ∧ t = .int .i64 (k : Int) ∧ wr.ownsRow w.heap.size 3 1 v (starts f k).length ((starts f k).map (Value.int .i64)) ∧ Below w.heap.size w wr) (fun _ t _ => n - (intOf t).toNat)
  case atStart => exact ⟨0, Nat.zero_le _, rfl, HZ.out, (Below.refl _ _).alloc (Nat.le_refl _) _⟩
  case round =>
    obtain ⟨k, hk, rfl, hown, hb⟩ := hrel
    have HO := Lib.hid hown
    clear hown HZ
    by_cases hlt : k < n
    · obtain ⟨b, off, rfl, hbB, hcl⟩ := HC.out (by omega)
      have hx := (hb.cell (p := ⟨b, off + k, none⟩) hbB).trans (hcl k hlt)
      have hd : decide (k < n) = true := by simp [hlt]
      clear hcl HC
      by_cases he : f k = 10
      · have HS := Lib.hid (starts_10 he)
        have hlen : (starts f k).length ≤ 1000001 := by rw [HL.out]; have := ln_le f k; omega
        have hq : (f k == 10) = true := by simp [he]
        clear he
        generalize f k = y at *
        generalize starts f k = zs at *
        go_wp2_with (at_builtin; refine wpList_append_own _ rfl _ _ 22 rfl w.heap.size 3 i0 (.int .i64 0) 1 8 Try.underlying22 hi hz0 hz1 hz2 rfl (by decide) _ _ _ rfl (HO.out.alloc _) ⟨wr.heap.size, 0, none⟩ 1 1 [.int .i64 ((k : Int) + 1)] rfl rfl ?c1 ?c2 ?c3 ?c4 ?c5 ?_)
        case c1 => exact one_cell _ _ _
        case c2 => intro u hu; simp at hu; subst hu; rfl
        case c3 => unfold maxLen; omega
        case c4 => omega
        case c5 => have := hb.size; simp; omega
        intro v' w2 hown' hgrow _
        have R := push_rel hb (Below.refl _ _) HO.out hown' hgrow
        clear hown' hgrow
        have R1 := Lib.hid R.1; have R2 := R.2
        clear R
        go_wp2
        go_roundw
        case rel => exact ⟨k + 1, by omega, by go_num, by rw [HS.out]; simpa using R1.out, R2⟩
        case measure => simp [intOf]; omega
      · have HS := Lib.hid (starts_no he)
        have hq : (f k == 10) = false := by rw [beq_eq_false_iff_ne]; exact he
        clear he
        generalize f k = y at *
        generalize starts f k = zs at *
        go_wp2
        go_roundw
        case rel => exact ⟨k + 1, by omega, by go_num, by rw [HS.out]; exact HO.out, hb⟩
        case measure => simp [intOf]; omega
    · obtain rfl : k = n := by omega
      have hd : decide (k < k) = false := by simp
      go_wp2
      go_ret
      exact ⟨_, rfl, HO.out, hb⟩

/-- Where lines begin, ahead of a place. -/
def pre (f : Nat → Int) : Nat → List Int
  | 0 => []
  | k + 1 => starts f k
theorem pre_yes {f : Nat → Int} {n k : Nat} (hk : k ≤ n) (h : bol f n (k : Int) = true) : pre f (k + 1) = pre f k ++ [(k : Int)] := by
  cases k with
  | zero => rfl
  | succ k => rw [bol_succ (by omega), decide_eq_true_eq] at h; exact starts_10 h
theorem pre_no {f : Nat → Int} {n k : Nat} (hk : k ≤ n) (h : bol f n (k : Int) = false) : pre f (k + 1) = pre f k := by
  cases k with
  | zero => rw [show bol f n ((0 : Nat) : Int) = true from bol_zero f n] at h; cases h
  | succ k => rw [bol_succ (by omega), decide_eq_false_iff_not] at h; exact starts_no h
theorem pre_len (f : Nat → Int) (k : Nat) : (pre f k).length ≤ k := by
  cases k with
  | zero => exact Nat.le_refl _
  | succ k => show (starts f k).length ≤ _; rw [starts_len]; exact ln_le f k
set_option maxHeartbeats 1000000 in
set_option maxRecDepth 100000 in
theorem rstarts_any {A : Option Addr} {n c : Nat} {f : Nat → Int} {w : World} (h : Cells w w.heap.size A n f) (hn : n ≤ 1000000) : Calls Try.prog 11 #[.slice A n c] w (RetInts (starts f n) w) := by
  obtain ⟨i0, hi, hz0, hz1, hz2⟩ := info3x
  have HC := Lib.hid h
  clear h
  go_enter Try.func11, Try.ntmps11
  go_wp2
  go_loopw [3, 4] (fun v t wr => ∃ k : Nat, k ≤ n + 1 ∧ t = .int .i64 (k : Int) ∧ wr.ownsRow w.heap.size 3 1 v (pre f k).length ((pre f k).map (Value.int .i64)) ∧ Below w.heap.size w wr) (fun _ t _ => n + 1 - (intOf t).toNat)
  case atStart => exact ⟨0, Nat.zero_le _, rfl, World.ownsRow_nil _ _ _ _, Below.refl _ _⟩
  case round =>
    obtain ⟨k, hk, rfl, hown, hb⟩ := hrel
    have HO := Lib.hid hown
    clear hown
    by_cases hlt : k ≤ n
    · have HB := Lib.hid (rbol_any (c := c) (HC.out.below hb) hn (k : Int))
      have hd : decide (k ≤ n) = true := by simp [hlt]
      clear HC
      have hlen := pre_len f k
      cases he : bol f n (k : Int) with
      | true =>
        have HS := Lib.hid (pre_yes hlt he)
        rw [he] at HB
        clear he
        generalize pre f k = zs at *
        unfold RbolC at HB
        go_wp2_with (first | (go_at_call 15; refine HB.out.mono ?_; rintro e w1 ⟨rfl, hbl⟩; have HO1 := Lib.hid (own_below HO.out hbl)) | (at_builtin; refine wpList_append_own _ rfl _ _ 22 rfl w.heap.size 3 i0 (.int .i64 0) 1 8 Try.underlying22 hi hz0 hz1 hz2 rfl (by decide) _ _ _ rfl (HO1.out.alloc _) ⟨w1.heap.size, 0, none⟩ 1 1 [.int .i64 (k : Int)] rfl rfl ?c1 ?c2 ?c3 ?c4 ?c5 ?_))
        case c1 => exact one_cell _ _ _
        case c2 => intro u hu; simp at hu; subst hu; rfl
        case c3 => unfold maxLen; omega
        case c4 => omega
        case c5 => have := hb.size; have := hbl.size; simp; omega
        intro v' w2 hown' hgrow _
        have R := push_rel hb hbl HO.out hown' hgrow
        clear hown' hgrow
        have R1 := Lib.hid R.1; have R2 := R.2
        clear R
        go_wp2
        go_roundw
        case rel => exact ⟨k + 1, by omega, by go_num, by rw [HS.out]; simpa using R1.out, R2⟩
        case measure => simp [intOf]; omega
      | false =>
        have HS := Lib.hid (pre_no hlt he)
        rw [he] at HB
        clear he
        generalize pre f k = zs at *
        unfold RbolC at HB
        go_wp2_with fail
        refine HB.out.mono ?_
        rintro e w1 ⟨rfl, hbl⟩
        have HO1 := Lib.hid (own_below HO.out hbl)
        go_wp2
        go_roundw
        case rel => exact ⟨k + 1, by omega, by go_num, by rw [HS.out]; exact HO1.out, bel_trans hb hbl⟩
        case measure => simp [intOf]; omega
    · obtain rfl : k = n + 1 := by omega
      have HO1 := Lib.hid (show wr.ownsRow w.heap.size 3 1 u3 (starts f n).length ((starts f n).map (Value.int .i64)) from HO.out)
      have hd : decide (n + 1 ≤ n) = false := by simp
      go_wp2
      go_ret
      exact ⟨_, rfl, HO1.out, hb⟩
def NoHas (zs : List Int) (x : Int) (k : Nat) : Prop := ∀ j, j < k → zs.getD j 0 ≠ x
theorem NoHas.succ {zs : List Int} {x : Int} {k : Nat} (h : NoHas zs x k) (hk : zs.getD k 0 ≠ x) : NoHas zs x (k + 1) := fun j hj => by
  rcases Nat.lt_or_ge j k with h1 | h1
  · exact h j h1
  · obtain rfl : j = k := by omega
    exact hk
theorem has_yes {zs : List Int} {x : Int} {k : Nat} (hk : k < zs.length) (h : zs.getD k 0 = x) : decide (x ∈ zs) = true := by
  rw [decide_eq_true_eq, ← h]
  simp [hk]
theorem has_no {zs : List Int} {x : Int} (h : NoHas zs x zs.length) : decide (x ∈ zs) = false := by
  rw [decide_eq_false_iff_not]
  intro hm
  obtain ⟨j, hj, e⟩ := List.mem_iff_getElem.1 hm
  exact h j hj (by simp [hj, e])
set_option maxHeartbeats 1000000 in
set_option maxRecDepth 100000 in
theorem has_any {A : Option Addr} {c B : Nat} {zs : List Int} {w : World} (h : Cells w B A zs.length (fun j => zs.getD j 0)) (hn : zs.length ≤ 1000001) (x : Int) :
    Calls Try.prog 22 #[.slice A zs.length c, .int .i64 x] w fun e w' => e = .returned (.bool (decide (x ∈ zs))) ∧ Below w.heap.size w w' := by
  have HC := Lib.hid h
  have HY := Lib.hid (fun k => @has_yes zs x k)
  have HN := Lib.hid (@has_no zs x)
  clear h
  generalize hm : zs.length = m at *
  clear hm
  go_enter Try.func22, Try.ntmps22
  go_wp2
  go_loop [5] (fun t => ∃ k : Nat, k ≤ m ∧ t = .int .i64 (k : Int) ∧ NoHas zs x k) (fun t => m - (intOf t).toNat)
  case atStart => exact ⟨0, Nat.zero_le _, rfl, fun c h => by omega⟩
  case round =>
    obtain ⟨k, hk, rfl, hno⟩ := hrel
    have HK := Lib.hid hno
    clear hno
    by_cases hlt : k < m
    · obtain ⟨b, off, rfl, _, hcl⟩ := HC.out (by omega)
      have hx := hcl k hlt
      dsimp only at hx
      have hd : decide (k < m) = true := by simp [hlt]
      clear hcl HC
      by_cases he : zs.getD k 0 = x
      · have HX := Lib.hid (HY.out k hlt he)
        have hq : (zs.getD k 0 == x) = true := beq_iff_eq.2 he
        clear he
        generalize zs.getD k 0 = y at *
        go_wp2
        go_ret
        exact ⟨ret_bool HX.out.symm, Below.refl _ _⟩
      · have HX := Lib.hid (HK.out.succ he)
        have hq : (zs.getD k 0 == x) = false := by rw [beq_eq_false_iff_ne]; exact he
        clear he
        generalize zs.getD k 0 = y at *
        go_wp2
        go_round
        case rel => exact ⟨k + 1, by omega, by go_num, HX.out⟩
        case measure => simp [intOf]; omega
    · obtain rfl : k = m := by omega
      have hd : decide (k < k) = false := by simp
      have HX := Lib.hid (HN.out HK.out)
      go_wp2
      go_ret
      exact ⟨ret_bool HX.out.symm, Below.refl _ _⟩
end Go.Proofs.Ytgnlepjpclcnoaa
