/-
  Lists of ranges as the program holds them against each other (slices.Equal), and whether a list is normal (sets.Good). Condition: at most 1000000 ranges.
-/
import Derived.Test.YtceeimolfalmpaaTK
import Derived.Deep.RegionHeld3
namespace Go.Proofs.Ytceeimolfalmpaa.S
open Go.RowKit ObSets

set_option maxHeartbeats 1000000 in
set_option maxRecDepth 100000 in
theorem equal_any (A1 A2 : Option Addr) (c1 c2 : Nat) (l m : List R) (w : World) (h1 : Rgs w w.heap.size A1 l) (h2 : Rgs w w.heap.size A2 m) (hl : l.length ≤ 1000000) (hm : m.length ≤ 1000000) :
    Calls Try.prog 52 #[.slice A1 l.length c1, .slice A2 m.length c2] w fun e w' => e = .returned (.bool (decide (l = m))) ∧ Below w.heap.size w w' := by
  by_cases hlen : l.length = m.length
  · have hb : ((l.length : Int) == (m.length : Int)) = true := by simp; omega
    have HL := Lib.hid hlen
    have HM := Lib.hid (show l.length = m.length → l.take l.length = m.take l.length → l = m from fun e h => by rw [List.take_length, e, List.take_length] at h; exact h)
    generalize hn : l.length = n at *
    rw [← hlen] at hb ⊢
    rw [← hlen] at hm
    have HN := Lib.hid hn
    clear hlen hn
    go_enter Try.func52, Try.ntmps52
    go_wp2
    go_loopw [13] (fun t wr => ∃ k : Nat, k ≤ n ∧ t = .int .i64 k ∧ SameTo l m k ∧ Below w.heap.size w wr) (fun t _ => n - (intOf t).toNat)
    case atStart => exact ⟨0, by omega, rfl, rfl, Below.refl _ _⟩
    case round =>
      obtain ⟨k, hk, rfl, hs, hb2⟩ := hrel
      have HS := Lib.hid hs
      clear hs
      by_cases hkn : k < n
      · obtain ⟨b, off, a, c, rfl, hbl, e1, f1, f2⟩ := (h1.below hb2).at_ (k := k) (by rw [HN.out]; exact hkn)
        obtain ⟨b', off', a', c', rfl, hbl', e2, g1, g2⟩ := (h2.below hb2).at_ (k := k) (by rw [← HL.out]; exact hkn)
        have E1 := Lib.hid e1; have E2 := Lib.hid e2
        clear e1 e2
        have hk1 : (k : Int) < (n : Int) := by omega
        have hgt := Try.eqGuardType69
        by_cases hq : a = a' ∧ c = c'
        · obtain ⟨rfl, rfl⟩ := hq
          have hqq := fun w => neq32 a c a c w
          have hqe : (a == a && c == c) = true := by simp
          go_wp2
          go_quiet (fail)
          go_wp2
          go_roundw
          case rel => exact ⟨k + 1, by omega, by go_num, HS.out.succ E1.out E2.out, below_drews hb2 nq⟩
          case measure => simp [intOf]; omega
        · have hqq := fun w => neq32 a c a' c' w
          have hqe : (a == a' && c == c') = false := by
            rw [Bool.eq_false_iff]; intro h; exact hq (by simpa using h)
          have HF := Lib.hid (show decide (l = m) = false from decide_eq_false fun h => hq (by
            have e1 := E1.out; have e2 := E2.out
            rw [h, e2] at e1
            injection e1 with e1
            injection e1 with e1 e3
            exact ⟨e1.symm, e3.symm⟩))
          clear hq
          go_wp2
          go_quiet (fail)
          go_wp2
          go_ret
          exact ⟨ret_bool HF.out.symm, below_drews hb2 nq⟩
      · have hk1 : decide (k < n) = false := by simp; omega
        obtain rfl : k = n := by omega
        have HF := Lib.hid (show decide (l = m) = true from decide_eq_true (HM.out HL.out HS.out))
        go_wp2
        go_ret
        exact ⟨ret_bool HF.out.symm, hb2⟩
  · have hb : ((l.length : Int) == (m.length : Int)) = false := by simp; omega
    have hb' : (l.length == m.length) = false := by simp; omega
    have HF := Lib.hid (show decide (l = m) = false from decide_eq_false fun h => hlen (by rw [h]))
    generalize l.length = n1 at *
    generalize m.length = n2 at *
    clear h1 h2
    go_enter Try.func52, Try.ntmps52
    go_wp2
    go_ret
    exact ⟨ret_bool HF.out.symm, Below.refl _ _⟩

theorem four {W W' : World} {p1 p2 p3 p4 : Addr} {v1 v2 v3 v4 : Value} (hb : Below W.drew.heap.size W.drew W') (s1 : W.cell? p1 = some v1) (s2 : W.cell? p2 = some v2) (s3 : W.cell? p3 = some v3) (s4 : W.cell? p4 = some v4) :
    W'.cell? p1 = some v1 ∧ W'.cell? p2 = some v2 ∧ W'.cell? p3 = some v3 ∧ W'.cell? p4 = some v4 :=
  ⟨(hb.cell (p := p1) (World.block_lt_of_cell? W p1 s1)).trans s1, (hb.cell (p := p2) (World.block_lt_of_cell? W p2 s2)).trans s2, (hb.cell (p := p3) (World.block_lt_of_cell? W p3 s3)).trans s3, (hb.cell (p := p4) (World.block_lt_of_cell? W p4 s4)).trans s4⟩

set_option maxHeartbeats 2000000 in
set_option maxRecDepth 100000 in
theorem goodl_any (A : Option Addr) (c : Nat) (l : List R) (w : World) (h : Rgs w w.heap.size A l) (hl : l.length ≤ 1000000) :
    Calls Try.prog 53 #[.slice A l.length c] w fun e w' => e = .returned (.bool (normB l)) ∧ Below w.heap.size w w' := by
  generalize hn : l.length = n at *
  have HN := Lib.hid hn
  clear hn
  go_enter Try.func53, Try.ntmps53
  go_wp2
  go_loopw [7] (fun t wr => ∃ k : Nat, k ≤ n ∧ t = .int .i64 k ∧ GoodTo l k ∧ Below w.heap.size w wr) (fun t _ => n - (intOf t).toNat)
  case atStart => exact ⟨0, by omega, rfl, fun j hj => by omega, Below.refl _ _⟩
  case round =>
    obtain ⟨k, hk, rfl, hs, hb2⟩ := hrel
    have HS := Lib.hid hs
    clear hs
    by_cases hkn : k < n
    · obtain ⟨b, off, p, q, rfl, hbl, e1, f1, f2⟩ := (h.below hb2).at_ (k := k) (by rw [HN.out]; exact hkn)
      have E1 := Lib.hid e1
      clear e1
      have hk1 : (k : Int) < (n : Int) := by omega
      have hsz := Lib.hid hb2.size
      have HB3 := Lib.hid (hb2.alloc hb2.size (.cells #[.int .i64 p, .int .i64 q] 69))
      cases hp : sym p with
      | false =>
        have HF := Lib.hid (normB_false (l := l) (by rw [HN.out]; exact hkn) (gd_first E1.out (by rw [hp]; rfl)))
        go_wp2_with (go_at_call 66; refine (good_any _ _).mono ?_; rintro e w' ⟨rfl, rfl⟩)
        go_ret
        exact ⟨ret_bool HF.out.symm, HB3.out⟩
      | true =>
        cases hq : sym q with
        | false =>
          have HF := Lib.hid (normB_false (l := l) (by rw [HN.out]; exact hkn) (gd_first E1.out (by rw [hp, hq]; rfl)))
          go_wp2_with (go_at_call 66; refine (good_any _ _).mono ?_; rintro e w' ⟨rfl, rfl⟩)
          go_ret
          exact ⟨ret_bool HF.out.symm, HB3.out⟩
        | true =>
          by_cases hpq : q < p
          · have hd : decide (q < p) = true := by simp; omega
            have HF := Lib.hid (normB_false (l := l) (by rw [HN.out]; exact hkn) (gd_first E1.out (by rw [hp, hq]; simp; omega)))
            go_wp2_with (go_at_call 66; refine (good_any _ _).mono ?_; rintro e w' ⟨rfl, rfl⟩)
            go_ret
            exact ⟨ret_bool HF.out.symm, HB3.out⟩
          · have hd : decide (q < p) = false := by simp; omega
            cases k with
            | zero =>
              simp only [Nat.zero_mul, Nat.add_zero] at f1 f2
              have HG := Lib.hid (HS.out.succ (show gd l 0 = true by rw [gd_zero E1.out, hp, hq]; simp; omega))
              go_wp2_with (go_at_call 66; refine (good_any _ _).mono ?_; rintro e w' ⟨rfl, rfl⟩)
              go_quiet (fail)
              go_wp2
              go_roundw
              case rel => exact ⟨1, by omega, by go_num, HG.out, below_drews HB3.out nq⟩
              case measure => simp [intOf]; omega
            | succ k =>
              obtain ⟨b3, off3, a, b', e3, _, e2, g1, g2⟩ := (h.below hb2).at_ (k := k) (by rw [HN.out]; omega)
              injection e3 with e3
              injection e3 with e3 e4
              subst e3; subst e4
              have hk5 : k < n := by omega
              have hk6 : (k : Int) < (n : Int) := by omega
              have hwk : IntKind.i64.wrap (k : Int) = k := IntWalk.i64_in _ (by omega)
              have hbw : b < wr.heap.size := by have := hsz.out; omega
              have hk7 : (0 : Int) ≤ (k : Int) := by omega
              have hk8 : IntKind.i64.wrap ((k : Int) + 1 - 1) = k := IntWalk.i64_in _ (by omega) |>.trans (by omega)
              have s1 : (wr.alloc (.cells #[.int .i64 p, .int .i64 q] 69)).cell? ⟨b, off + k * 2, none⟩ = some (.int .i64 a) := (World.cell?_alloc_lt wr _ ⟨b, off + k * 2, none⟩ hbw).trans g1
              have s2 : (wr.alloc (.cells #[.int .i64 p, .int .i64 q] 69)).cell? ⟨b, off + k * 2 + 1, none⟩ = some (.int .i64 b') := (World.cell?_alloc_lt wr _ ⟨b, off + k * 2 + 1, none⟩ hbw).trans g2
              have s3 : (wr.alloc (.cells #[.int .i64 p, .int .i64 q] 69)).cell? ⟨wr.heap.size, 0, none⟩ = some (.int .i64 p) := by simp
              have s4 : (wr.alloc (.cells #[.int .i64 p, .int .i64 q] 69)).cell? ⟨wr.heap.size, 1, none⟩ = some (.int .i64 q) := by simp
              have HAP := Lib.hid (apart_any (a, b') (p, q))
              have HGD := Lib.hid (gd_succ E1.out e2)
              clear e2
              cases hap : ap (a, b') (p, q) with
              | true =>
                have HG := Lib.hid (HS.out.succ (show gd l (k + 1) = true by rw [HGD.out, hp, hq, hap]; simp; omega))
                rw [hap] at HAP
                clear hap HGD
                unfold rv at HAP
                simp only at HAP
                go_wp2_with (go_at_call 66; refine (good_any _ _).mono ?_; rintro e w' ⟨rfl, rfl⟩)
                go_region_held3 (fun W => W.cell? ⟨b, off + k * 2, none⟩ = some (.int .i64 a) ∧ W.cell? ⟨b, off + k * 2 + 1, none⟩ = some (.int .i64 b') ∧ W.cell? ⟨wr.heap.size, 0, none⟩ = some (.int .i64 p) ∧ W.cell? ⟨wr.heap.size, 1, none⟩ = some (.int .i64 q)) (first | exact ⟨s1, s2, s3, s4⟩ | exact four hb3 s1 s2 s3 s4) (first | (go_at_call 67; refine (HAP.out _).mono ?_; rintro e w3 ⟨rfl, hb3⟩))
                all_goals (
                  have HB4 := Lib.hid (bel_trans HB3.out.drew hb3)
                  clear hb3
                  go_wp2
                  go_roundw
                  case rel => exact ⟨k + 2, by omega, by go_num, HG.out, HB4.out⟩
                  case measure => simp [intOf]; omega)
              | false =>
                have HF := Lib.hid (normB_false (l := l) (by rw [HN.out]; exact hkn) (show gd l (k + 1) = false by rw [HGD.out, hap]; simp))
                rw [hap] at HAP
                clear hap HGD
                unfold rv at HAP
                simp only at HAP
                go_wp2_with (go_at_call 66; refine (good_any _ _).mono ?_; rintro e w' ⟨rfl, rfl⟩)
                go_region_held3 (fun W => W.cell? ⟨b, off + k * 2, none⟩ = some (.int .i64 a) ∧ W.cell? ⟨b, off + k * 2 + 1, none⟩ = some (.int .i64 b') ∧ W.cell? ⟨wr.heap.size, 0, none⟩ = some (.int .i64 p) ∧ W.cell? ⟨wr.heap.size, 1, none⟩ = some (.int .i64 q)) (first | exact ⟨s1, s2, s3, s4⟩ | exact four hb3 s1 s2 s3 s4) (first | (go_at_call 67; refine (HAP.out _).mono ?_; rintro e w3 ⟨rfl, hb3⟩))
                all_goals (
                  have HB4 := Lib.hid (bel_trans HB3.out.drew hb3)
                  clear hb3
                  go_wp2
                  go_ret
                  exact ⟨ret_bool HF.out.symm, HB4.out⟩)
    · have hk1 : decide (k < n) = false := by simp; omega
      obtain rfl : k = n := by omega
      have HF := Lib.hid (normB_true (by rw [HN.out]; exact Nat.le_refl _) HS.out)
      go_wp2
      go_ret
      exact ⟨ret_bool HF.out.symm, hb2⟩

end Go.Proofs.Ytceeimolfalmpaa.S
