/-
  What At and Of of line and of the page's own answer. Conditions: at most 1000000 numbers; a line and a column that fit 64 bits.
-/
import Derived.Test.YtgnlepjpclcnoaaW2
namespace Go.Proofs.Ytgnlepjpclcnoaa
open Go.RowKit ObLine

/-- What At answers, in a call. -/
def AtR (f : Nat → Int) (n : Nat) (a b : Int) (e : Ending) : Prop := ∃ P E, e = .returned (.tuple #[.int .i64 P, .int .i64 E]) ∧ IsAt f n a b P E
theorem AtR.no {f : Nat → Int} {n : Nat} {a b : Int} (h : ∀ p, ¬ Pl f n a b p) : AtR f n a b (.returned (.tuple #[.int .i64 0, .int .i64 2])) := ⟨0, 2, rfl, .inr ⟨h, rfl, rfl⟩⟩
set_option maxHeartbeats 1000000 in
set_option maxRecDepth 100000 in
theorem at_any {A : Option Addr} {n c B : Nat} {f : Nat → Int} {w : World} (h : Cells w B A n f) (hn : n ≤ 1000000) (hc : n ≤ c) (hB : B ≤ w.heap.size) (L C : Int) (hL : L ≤ 9223372036854775807) (hC : C ≤ 9223372036854775807) :
    Calls Try.prog 18 #[.slice A n c, .int .i64 L, .int .i64 C] w fun e w' => AtR f n L C e ∧ Below w.heap.size w w' := by
  have HS := Lib.hid (startOf_any h hn hc hB L hL)
  have HC := Lib.hid h
  clear h
  go_enter Try.func18, Try.ntmps18
  go_wp2_with fail
  refine HS.out.mono ?_
  rintro e w1 ⟨hst, hb1⟩
  rcases hst with ⟨a, s, rfl, hs, hbeg, hLa⟩ | ⟨rfl, hno⟩
  · by_cases h1 : C < 1
    · have HX := Lib.hid (AtR.no (none_of_col (f := f) (n := n) (L := L) h1))
      clear HC HS hbeg hLa
      go_wp2
      go_ret2
      exact ⟨HX.out, hb1⟩
    · have HE := Lib.hid (endFrom_any (HC.out.below (hb1.mono hB)) hn hc hs)
      have HB := Lib.hid hbeg
      have HL := Lib.hid hLa
      have d1 : decide (C < 1) = false := decide_eq_false h1
      clear HC HS hbeg hLa
      go_wp2_with fail
      refine HE.out.mono ?_
      rintro e w2 ⟨m, rfl, hE, hb2⟩
      have hm1 := hE.1
      have hm2 := hE.2.1
      by_cases h2 : (m : Int) - s < C - 1
      · have HX := Lib.hid (AtR.no (none_of_far HB.out hE h2))
        rw [← HL.out] at HX
        clear hE HE
        go_wp2
        go_ret2
        exact ⟨HX.out, bel_trans hb1 hb2⟩
      · have HX := Lib.hid (at_of_near HB.out hE (by omega) (by omega))
        have d2 : decide ((m : Int) - s < C - 1) = false := decide_eq_false h2
        clear hE HE
        go_wp2
        go_ret2
        obtain ⟨p, hp, hq⟩ := HX.out
        rw [← HL.out] at hp
        exact ⟨⟨_, _, rfl, .inl ⟨p, hp, hq, rfl⟩⟩, bel_trans hb1 hb2⟩
  · have HX := Lib.hid (AtR.no (hno C))
    clear HC HS hno
    go_wp2
    go_ret2
    exact ⟨HX.out, hb1⟩

/-- What Of answers. -/
def ofE (f : Nat → Int) (n : Nat) (p : Int) : Ending :=
  if 0 ≤ p ∧ p ≤ n then .returned (.tuple #[.int .i64 (ln f p.toNat : Nat), .int .i64 (p - (st f p.toNat : Nat) + 1), .int .i64 0]) else .returned (.tuple #[.int .i64 0, .int .i64 0, .int .i64 2])
theorem ofE_in {f : Nat → Int} {n k : Nat} (h : k ≤ n) : ofE f n (k : Int) = .returned (.tuple #[.int .i64 (ln f k : Nat), .int .i64 ((k : Int) - (st f k : Nat) + 1), .int .i64 0]) := by
  unfold ofE; rw [if_pos ⟨by omega, by omega⟩, Int.toNat_natCast]
theorem ofE_out {f : Nat → Int} {n : Nat} {p : Int} (h : ¬ (0 ≤ p ∧ p ≤ n)) : ofE f n p = .returned (.tuple #[.int .i64 0, .int .i64 0, .int .i64 2]) := by
  unfold ofE; rw [if_neg h]
theorem ret3 {a b c d e f : Int} (h1 : a = b) (h2 : c = d) (h3 : e = f) : Ending.returned (.tuple #[.int .i64 a, .int .i64 c, .int .i64 e]) = .returned (.tuple #[.int .i64 b, .int .i64 d, .int .i64 f]) := by rw [h1, h2, h3]
set_option maxHeartbeats 1000000 in
set_option maxRecDepth 100000 in
theorem of_any {A : Option Addr} {n c B : Nat} {f : Nat → Int} {w : World} (h : Cells w B A n f) (hn : n ≤ 1000000) (hc : n ≤ c) (p : Int) :
    Calls Try.prog 12 #[.slice A n c, .int .i64 p] w fun e w' => e = ofE f n p ∧ Below w.heap.size w w' := by
  by_cases h1 : 0 ≤ p ∧ p ≤ n
  · obtain ⟨k, rfl⟩ := Int.eq_ofNat_of_zero_le h1.1
    have hk : k ≤ n := by omega
    have HI := Lib.hid (isPlace_any A n c (k : Int) w)
    rw [plB_in hk] at HI
    rw [ofE_in hk]
    obtain ⟨A', c', hr, _, hcc, hkk⟩ := cut_head A n c k hk hc
    have HC := Lib.hid (hkk _ _ _ h)
    have HL := Lib.hid (ln_le f)
    have HS := Lib.hid (st_le f)
    have e10 := Lib.hid (fun j => @ln_10 f j)
    have e11 := Lib.hid (fun j => @ln_no f j)
    have e12 := Lib.hid (fun j => @st_10 f j)
    have e13 := Lib.hid (fun j => @st_no f j)
    clear h hkk hcc h1
    go_enter Try.func12, Try.ntmps12
    go_wp2_with fail
    refine HI.out.mono ?_
    rintro e w1 ⟨rfl, rfl⟩
    go_wp2_with (with_reducible refine wpList_slice_run rfl 22 (.tmp 15) none (some (.tmp 16)) none rfl _ (hr _) ?_)
    go_loop [7, 8, 19] (fun a b t => ∃ j : Nat, j ≤ k ∧ t = .int .i64 (j : Int) ∧ a = .int .i64 (ln f j : Nat) ∧ b = .int .i64 (st f j : Nat)) (fun _ _ t => k - (intOf t).toNat)
    case atStart => exact ⟨0, Nat.zero_le _, rfl, rfl, rfl⟩
    case round =>
      obtain ⟨j, hj, rfl, rfl, rfl⟩ := hrel
      have hl := HL.out j
      have hs := HS.out j
      by_cases hlt : j < k
      · obtain ⟨b, off, rfl, _, hcl⟩ := HC.out (by omega)
        have hx := hcl j hlt
        have hd : decide (j < k) = true := by simp [hlt]
        clear hcl HC
        by_cases he : f j = 10
        · have HX := Lib.hid (e10.out j he)
          have HY := Lib.hid (e12.out j he)
          have hq : (f j == 10) = true := by simp [he]
          clear he
          generalize f j = y at *
          generalize ln f j = lj at *
          generalize st f j = sj at *
          go_wp2
          go_round
          case rel => exact ⟨j + 1, by omega, by go_num, by rw [HX.out]; go_num, by rw [HY.out]; go_num⟩
          case measure => simp [intOf]; omega
        · have HX := Lib.hid (e11.out j he)
          have HY := Lib.hid (e13.out j he)
          have hq : (f j == 10) = false := by rw [beq_eq_false_iff_ne]; exact he
          clear he
          generalize f j = y at *
          generalize ln f j = lj at *
          generalize st f j = sj at *
          go_wp2
          go_round
          case rel => exact ⟨j + 1, by omega, by go_num, by rw [HX.out], by rw [HY.out]⟩
          case measure => simp [intOf]; omega
      · obtain rfl : j = k := by omega
        have hd : decide (j < j) = false := by simp
        go_wp2
        go_ret3
        exact ⟨rfl, Below.refl _ _⟩
  · have HI := Lib.hid (isPlace_any A n c p w)
    rw [plB_out h1] at HI
    rw [ofE_out h1]
    clear h h1
    go_enter Try.func12, Try.ntmps12
    go_wp2_with fail
    refine HI.out.mono ?_
    rintro e w' ⟨rfl, rfl⟩
    go_wp2
    go_ret3
    exact ⟨rfl, Below.refl _ _⟩
set_option maxHeartbeats 1000000 in
set_option maxRecDepth 100000 in
theorem rof_any {A : Option Addr} {n B : Nat} {f : Nat → Int} {w : World} (c : Nat) (h : Cells w B A n f) (hn : n ≤ 1000000) (p : Int) :
    Calls Try.prog 13 #[.slice A n c, .int .i64 p] w fun e w' => e = ofE f n p ∧ Below w.heap.size w w' := by
  by_cases h1 : 0 ≤ p ∧ p ≤ n
  · obtain ⟨k, rfl⟩ := Int.eq_ofNat_of_zero_le h1.1
    have hk : k ≤ n := by omega
    rw [ofE_in hk]
    have HC := Lib.hid h
    have HL := Lib.hid (ln_le f)
    have HS := Lib.hid (st_le f)
    have e10 := Lib.hid (fun j => @ln_10 f j)
    have e11 := Lib.hid (fun j => @ln_no f j)
    have e12 := Lib.hid (fun j => @st_10 f j)
    have e13 := Lib.hid (fun j => @st_no f j)
    have d1 : decide ((k : Int) < 0) = false := decide_eq_false (by omega)
    have d2 : decide (n < k) = false := decide_eq_false (by omega)
    clear h h1
    go_enter Try.func13, Try.ntmps13
    go_wp2
    go_loop [7, 8, 9] (fun a b t => ∃ j : Nat, j ≤ k ∧ t = .int .i64 (j : Int) ∧ a = .int .i64 (ln f j : Nat) ∧ b = .int .i64 ((j : Int) - (st f j : Nat) + 1)) (fun _ _ t => k - (intOf t).toNat)
    case atStart => exact ⟨0, Nat.zero_le _, rfl, rfl, rfl⟩
    case round =>
      obtain ⟨j, hj, rfl, rfl, rfl⟩ := hrel
      have hl := HL.out j
      have hs := HS.out j
      by_cases hlt : j < k
      · obtain ⟨b, off, rfl, _, hcl⟩ := HC.out (by omega)
        have hx := hcl j (by omega)
        have hd : decide (j < k) = true := by simp [hlt]
        clear hcl HC
        by_cases he : f j = 10
        · have HX := Lib.hid (e10.out j he)
          have HY := Lib.hid (e12.out j he)
          have hq : (f j == 10) = true := by simp [he]
          clear he
          generalize f j = y at *
          generalize ln f j = lj at *
          generalize st f j = sj at *
          go_wp2
          go_round
          case rel => exact ⟨j + 1, by omega, by go_num, by rw [HX.out]; go_num, by rw [HY.out]; go_num⟩
          case measure => simp [intOf]; omega
        · have HX := Lib.hid (e11.out j he)
          have HY := Lib.hid (e13.out j he)
          have hq : (f j == 10) = false := by rw [beq_eq_false_iff_ne]; exact he
          clear he
          generalize f j = y at *
          generalize ln f j = lj at *
          generalize st f j = sj at *
          go_wp2
          go_round
          case rel => exact ⟨j + 1, by omega, by go_num, by rw [HX.out], by rw [HY.out]; go_num⟩
          case measure => simp [intOf]; omega
      · obtain rfl : j = k := by omega
        have hd : decide (j < j) = false := by simp
        go_wp2
        go_ret3
        exact ⟨rfl, Below.refl _ _⟩
  · rw [ofE_out h1]
    clear h
    go_enter Try.func13, Try.ntmps13
    go_wp2
    all_goals first | (exfalso; omega) | (go_ret3; exact ⟨rfl, Below.refl _ _⟩)

def NoPl (f : Nat → Int) (n : Nat) (a b : Int) (k : Nat) : Prop := ∀ p, p < k → ¬ Pl f n a b p
theorem NoPl.succ {f : Nat → Int} {n : Nat} {a b : Int} {k : Nat} (h : NoPl f n a b k) (hk : ¬ Pl f n a b k) : NoPl f n a b (k + 1) := fun p hp => by
  rcases Nat.lt_or_ge p k with h1 | h1
  · exact h p h1
  · obtain rfl : p = k := by omega
    exact hk
set_option maxHeartbeats 1000000 in
set_option maxRecDepth 100000 in
theorem rat_any {A : Option Addr} {n c : Nat} {f : Nat → Int} {w : World} (h : Cells w w.heap.size A n f) (hn : n ≤ 1000000) (L C : Int) :
    Calls Try.prog 19 #[.slice A n c, .int .i64 L, .int .i64 C] w fun e w' => AtR f n L C e ∧ Below w.heap.size w w' := by
  have HC := Lib.hid h
  clear h
  go_enter Try.func19, Try.ntmps19
  go_wp2
  go_loopw [8] (fun t wr => ∃ k : Nat, k ≤ n + 1 ∧ t = .int .i64 (k : Int) ∧ NoPl f n L C k ∧ Below w.heap.size w wr) (fun t _ => n + 1 - (intOf t).toNat)
  case atStart => exact ⟨0, Nat.zero_le _, rfl, fun p hp => by omega, Below.refl _ _⟩
  case round =>
    obtain ⟨k, hk, rfl, hno, hb⟩ := hrel
    have HN := Lib.hid hno
    clear hno
    by_cases hlt : k ≤ n
    · have HO := Lib.hid (rof_any c (HC.out.below hb) hn (k : Int))
      rw [ofE_in hlt] at HO
      have hd : decide (k ≤ n) = true := by simp [hlt]
      have hs := st_le f k
      have hl := ln_le f k
      by_cases h1 : (ln f k : Int) = L
      · by_cases h2 : (k : Int) - (st f k : Nat) + 1 = C
        · have HX := Lib.hid (show AtR f n L C (.returned (.tuple #[.int .i64 (k : Int), .int .i64 0])) from ⟨_, _, rfl, .inl ⟨k, ⟨hlt, h1, h2⟩, rfl, rfl⟩⟩)
          have q1 : ((ln f k : Int) == L) = true := by simp [h1]
          have q2 : ((k : Int) - (st f k : Nat) + 1 == C) = true := by simp [h2]
          clear h1 h2
          go_wp2_with fail
          refine HO.out.mono ?_
          rintro e w1 ⟨rfl, hb1⟩
          clear HO
          generalize ln f k = lj at *
          generalize st f k = sj at *
          go_wp2
          go_ret2
          exact ⟨HX.out, bel_trans hb hb1⟩
        · have HX := Lib.hid (HN.out.succ (fun h => h2 h.2.2))
          have q1 : ((ln f k : Int) == L) = true := by simp [h1]
          have q2 : ((k : Int) - (st f k : Nat) + 1 == C) = false := by rw [beq_eq_false_iff_ne]; exact h2
          clear h1 h2
          go_wp2_with fail
          refine HO.out.mono ?_
          rintro e w1 ⟨rfl, hb1⟩
          clear HO
          generalize ln f k = lj at *
          generalize st f k = sj at *
          go_wp2
          go_roundw
          case rel => exact ⟨k + 1, by omega, by go_num, HX.out, bel_trans hb hb1⟩
          case measure => simp [intOf]; omega
      · have HX := Lib.hid (HN.out.succ (fun h => h1 h.2.1))
        have q1 : ((ln f k : Int) == L) = false := by rw [beq_eq_false_iff_ne]; exact h1
        clear h1
        go_wp2_with fail
        refine HO.out.mono ?_
        rintro e w1 ⟨rfl, hb1⟩
        clear HO
        generalize ln f k = lj at *
        generalize st f k = sj at *
        go_wp2
        go_roundw
        case rel => exact ⟨k + 1, by omega, by go_num, HX.out, bel_trans hb hb1⟩
        case measure => simp [intOf]; omega
    · have HX := Lib.hid (AtR.no (fun p hp => HN.out p (by have := hp.1; omega) hp))
      have hd : decide (k ≤ n) = false := by simp; omega
      go_wp2
      go_ret2
      exact ⟨HX.out, hb⟩
end Go.Proofs.Ytgnlepjpclcnoaa
