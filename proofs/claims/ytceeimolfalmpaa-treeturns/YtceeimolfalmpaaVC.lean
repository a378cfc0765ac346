/-
  What the program says of a node's fields (fits), of how often something may be repeated (isTimes), of a node's kids (kidsOf). Condition: at most 1000000 ranges in its set.
-/
import Derived.Test.YtceeimolfalmpaaVB
namespace Go.Proofs.Ytceeimolfalmpaa
open Go.RowKit ObSets ObTree

set_option maxHeartbeats 1000000 in
theorem times_any (a b : Int) (w : World) : Calls Try.prog 54 #[.int .i64 a, .int .i64 b] w (RetB w (0 ≤ a ∧ a ≤ 255 ∧ (b = -1 ∨ a ≤ b ∧ b ≤ 255))) := by
  by_cases h1 : 0 ≤ a
  · by_cases h2 : a ≤ 255
    · by_cases h3 : b = -1
      · subst h3
        go_enter Try.func54, Try.ntmps54
        go_wp2_with fail
        go_ret
        exact ⟨true, rfl, iff_of_true rfl ⟨h1, h2, .inl trivial⟩, Below.refl _ _⟩
      · have e3 : (b == -1) = false := beq_eq_false_iff_ne.2 h3
        by_cases h4 : a ≤ b
        · by_cases h5 : b ≤ 255
          · go_enter Try.func54, Try.ntmps54
            go_wp2_with fail
            go_ret
            exact ⟨true, rfl, iff_of_true rfl ⟨h1, h2, .inr ⟨h4, h5⟩⟩, Below.refl _ _⟩
          · have e5 : decide (b ≤ 255) = false := decide_eq_false h5
            go_enter Try.func54, Try.ntmps54
            go_wp2_with fail
            go_ret
            exact ⟨false, rfl, iff_of_false Bool.noConfusion (by omega), Below.refl _ _⟩
        · have e4 : decide (a ≤ b) = false := decide_eq_false h4
          go_enter Try.func54, Try.ntmps54
          go_wp2_with fail
          go_ret
          exact ⟨false, rfl, iff_of_false Bool.noConfusion (by omega), Below.refl _ _⟩
    · go_enter Try.func54, Try.ntmps54
      go_wp2_with fail
      go_ret
      exact ⟨false, rfl, iff_of_false Bool.noConfusion (by omega), Below.refl _ _⟩
  · go_enter Try.func54, Try.ntmps54
    go_wp2_with fail
    go_ret
    exact ⟨false, rfl, iff_of_false Bool.noConfusion (by omega), Below.refl _ _⟩
/-- What kidsOf hands back. -/
def kidV (x : Nd) : Int × Int × Int := if x.kind = 5 ∨ x.kind = 6 then (x.a, x.b, 2) else if x.kind = 7 ∨ x.kind = 8 ∨ x.kind = 9 then (x.a, 0, 1) else (0, 0, 0)
set_option maxHeartbeats 1000000 in
theorem kidsof_any (x : Nd) (V : Value) (hV : ∃ A n c, V = .slice A n c) (w : World) : Calls Try.prog 42 #[nv x V] w fun e w' =>
    e = .returned (.tuple #[.agg #[.int .i64 (kidV x).1, .int .i64 (kidV x).2.1], .int .i64 (kidV x).2.2]) ∧ Below w.heap.size w w' := by
  obtain ⟨A, n, c, rfl⟩ := hV
  obtain ⟨kd, a, b, set, mn, mx, nn⟩ := x
  by_cases h2 : kd = 5 ∨ kd = 6
  · rw [show kidV (⟨kd, a, b, set, mn, mx, nn⟩ : Nd) = (a, b, 2) by unfold kidV; rw [if_pos h2]]
    rcases h2 with rfl | rfl
    all_goals (
      go_enter Try.func42, Try.ntmps42
      go_wp2_with fail
      refine bodyPost_ret (v := .tuple #[.agg #[.int .i64 a, .int .i64 b], .int .i64 2]) ?_ rfl ⟨rfl, ?_⟩
      · rw [results_cell_tmp rfl]; go_simp
      · repeat' (first | exact Below.refl _ _ | refine Below.drew ?_ | refine Below.alloc ?_ (by simp <;> omega) _ | refine Below.setCell ?_ (by simp) _))
  · by_cases h1 : kd = 7 ∨ kd = 8 ∨ kd = 9
    · rw [show kidV (⟨kd, a, b, set, mn, mx, nn⟩ : Nd) = (a, 0, 1) by unfold kidV; rw [if_neg h2, if_pos h1]]
      rcases h1 with rfl | rfl | rfl
      all_goals (
        go_enter Try.func42, Try.ntmps42
        go_wp2_with fail
        refine bodyPost_ret (v := .tuple #[.agg #[.int .i64 a, .int .i64 0], .int .i64 1]) ?_ rfl ⟨rfl, ?_⟩
        · rw [results_cell_tmp rfl]; go_simp
        · repeat' (first | exact Below.refl _ _ | refine Below.drew ?_ | refine Below.alloc ?_ (by simp <;> omega) _ | refine Below.setCell ?_ (by simp) _))
    · rw [show kidV (⟨kd, a, b, set, mn, mx, nn⟩ : Nd) = (0, 0, 0) by unfold kidV; rw [if_neg h2, if_neg h1]]
      have d5 : (kd == 5) = false := beq_eq_false_iff_ne.2 (by omega)
      have d6 : (kd == 6) = false := beq_eq_false_iff_ne.2 (by omega)
      have d7 : (kd == 7) = false := beq_eq_false_iff_ne.2 (by omega)
      have d8 : (kd == 8) = false := beq_eq_false_iff_ne.2 (by omega)
      have d9 : (kd == 9) = false := beq_eq_false_iff_ne.2 (by omega)
      go_enter Try.func42, Try.ntmps42
      go_wp2_with fail
      refine bodyPost_ret (v := .tuple #[.agg #[.int .i64 0, .int .i64 0], .int .i64 0]) ?_ rfl ⟨rfl, ?_⟩
      · rw [results_cell_tmp rfl]; go_simp
      · repeat' (first | exact Below.refl _ _ | refine Below.drew ?_ | refine Below.alloc ?_ (by simp <;> omega) _ | refine Below.setCell ?_ (by simp) _)
set_option maxHeartbeats 4000000 in
set_option maxRecDepth 100000 in
theorem fits_1 (kd a b mn mx nn : Int) (set : List R) (As : Option Addr) (ks : Nat) (w : World) (hx : S.Rgs w w.heap.size As set) (hl : set.length ≤ 1000000) (hk : kd = 1 ∨ kd = 3 ∨ kd = 4) :
    Calls Try.prog 41 #[nv ⟨kd, a, b, set, mn, mx, nn⟩ (.slice As set.length ks)] w (RetB w (Fine ⟨kd, a, b, set, mn, mx, nn⟩)) := by
  have HF := Lib.hid (show (⟨kd, a, b, set, mn, mx, nn⟩ : Nd) = ⟨kd, 0, 0, [], 0, 0, 0⟩ ↔ Fine ⟨kd, a, b, set, mn, mx, nn⟩ by unfold Fine; dsimp only; rw [if_pos hk]; simp only [Nd.mk.injEq, List.length_eq_zero_iff]; constructor <;> intro h <;> simp_all)
  have HB := Lib.hid ((Below.refl w.heap.size w).alloc (Nat.le_refl _) (.cells #[.int .i64 kd, .int .i64 a, .int .i64 b, .slice As set.length ks, .int .i64 mn, .int .i64 mx, .int .i64 nn] 35))
  have HSM := Lib.hid (fun (W : World) (hW : Below w.heap.size w W) => same_any ⟨kd, a, b, set, mn, mx, nn⟩ ⟨kd, 0, 0, [], 0, 0, 0⟩ As none ks 0 W (hx.on hW) S.Rgs.nil hl (by simp))
  obtain ⟨m, hm⟩ : ∃ m, set.length = m := ⟨_, rfl⟩
  have HM := Lib.hid hm
  dsimp only [List.length_nil] at HSM
  rw [hm] at HB HSM ⊢
  clear hx hl hm
  rcases hk with rfl | rfl | rfl
  all_goals (
    go_enter Try.func41, Try.ntmps41
    go_wp2_with fail
    refine (HSM.out _ HB.out).mono ?_
    rintro e w9 ⟨q, rfl, hq, hb9⟩
    have HB9 := Lib.hid (HB.out.trans (hb9.mono HB.out.size))
    clear hb9
    go_wp2_with fail
    go_ret
    exact ⟨q, rfl, hq.trans HF.out, HB9.out⟩)
set_option maxHeartbeats 4000000 in
set_option maxRecDepth 100000 in
theorem fits_5 (kd a b mn mx nn : Int) (set : List R) (As : Option Addr) (ks : Nat) (w : World) (hx : S.Rgs w w.heap.size As set) (hl : set.length ≤ 1000000) (hk : kd = 5 ∨ kd = 6) :
    Calls Try.prog 41 #[nv ⟨kd, a, b, set, mn, mx, nn⟩ (.slice As set.length ks)] w (RetB w (Fine ⟨kd, a, b, set, mn, mx, nn⟩)) := by
  have HF := Lib.hid (show (⟨kd, a, b, set, mn, mx, nn⟩ : Nd) = ⟨kd, a, b, [], 0, 0, 0⟩ ↔ Fine ⟨kd, a, b, set, mn, mx, nn⟩ by unfold Fine; dsimp only; rw [if_neg (by omega), if_neg (by omega), if_pos hk]; simp only [Nd.mk.injEq, List.length_eq_zero_iff]; constructor <;> intro h <;> simp_all)
  have HB := Lib.hid ((Below.refl w.heap.size w).alloc (Nat.le_refl _) (.cells #[.int .i64 kd, .int .i64 a, .int .i64 b, .slice As set.length ks, .int .i64 mn, .int .i64 mx, .int .i64 nn] 35))
  have HSM := Lib.hid (fun (W : World) (hW : Below w.heap.size w W) => same_any ⟨kd, a, b, set, mn, mx, nn⟩ ⟨kd, a, b, [], 0, 0, 0⟩ As none ks 0 W (hx.on hW) S.Rgs.nil hl (by simp))
  obtain ⟨m, hm⟩ : ∃ m, set.length = m := ⟨_, rfl⟩
  have HM := Lib.hid hm
  dsimp only [List.length_nil] at HSM
  rw [hm] at HB HSM ⊢
  clear hx hl hm
  rcases hk with rfl | rfl
  all_goals (
    go_enter Try.func41, Try.ntmps41
    go_wp2_with fail
    refine (HSM.out _ HB.out).mono ?_
    rintro e w9 ⟨q, rfl, hq, hb9⟩
    have HB9 := Lib.hid (HB.out.trans (hb9.mono HB.out.size))
    clear hb9
    go_wp2_with fail
    go_ret
    exact ⟨q, rfl, hq.trans HF.out, HB9.out⟩)
set_option maxHeartbeats 4000000 in
set_option maxRecDepth 100000 in
theorem fits_2 (kd a b mn mx nn : Int) (set : List R) (As : Option Addr) (ks : Nat) (w : World) (hx : S.Rgs w w.heap.size As set) (hl : set.length ≤ 1000000) (hk : kd = 2) :
    Calls Try.prog 41 #[nv ⟨kd, a, b, set, mn, mx, nn⟩ (.slice As set.length ks)] w (RetB w (Fine ⟨kd, a, b, set, mn, mx, nn⟩)) := by
  subst hk
  have HF := Lib.hid (show S.normB set = true → ((⟨2, a, b, set, mn, mx, nn⟩ : Nd) = ⟨2, 0, 0, set, 0, 0, 0⟩ ↔ Fine ⟨2, a, b, set, mn, mx, nn⟩) from fun h0 => by unfold Fine; dsimp only; rw [if_neg (by omega), if_pos rfl]; simp only [Nd.mk.injEq]; constructor <;> intro h <;> simp_all)
  have HNF := Lib.hid (show S.normB set = false → ¬ Fine ⟨2, a, b, set, mn, mx, nn⟩ from fun h0 h => by unfold Fine at h; dsimp only at h; rw [if_neg (by omega), if_pos rfl] at h; rw [h0] at h; exact absurd h.2.2.1 Bool.noConfusion)
  have HB := Lib.hid ((Below.refl w.heap.size w).alloc (Nat.le_refl _) (.cells #[.int .i64 2, .int .i64 a, .int .i64 b, .slice As set.length ks, .int .i64 mn, .int .i64 mx, .int .i64 nn] 35))
  have HSM := Lib.hid (fun (W : World) (hW : Below w.heap.size w W) => same_any ⟨2, a, b, set, mn, mx, nn⟩ ⟨2, 0, 0, set, 0, 0, 0⟩ As As ks ks W (hx.on hW) (hx.on hW) hl hl)
  have HG := Lib.hid (fun (W : World) (hW : Below w.heap.size w W) => S.goodl_any As ks set W (hx.on hW) hl)
  obtain ⟨m, hm⟩ : ∃ m, set.length = m := ⟨_, rfl⟩
  have HM := Lib.hid hm
  dsimp only [List.length_nil] at HSM
  rw [hm] at HB HSM HG ⊢
  clear hx hl hm
  cases hn : S.normB set with
  | false =>
    have HN := Lib.hid (HNF.out hn)
    go_enter Try.func41, Try.ntmps41
    go_wp2_with fail
    refine (HG.out _ HB.out).mono ?_
    rintro e w2 ⟨rfl, hb2⟩
    rw [hn]
    have HB2 := Lib.hid (HB.out.trans (hb2.mono HB.out.size))
    obtain ⟨⟨f0, f1, f2, f3, f4, f5, f6⟩, _⟩ := blk7 (keepL (heap_new w (.cells #[.int .i64 2, .int .i64 a, .int .i64 b, .slice As m ks, .int .i64 mn, .int .i64 mx, .int .i64 nn] 35)) hb2)
    clear hb2 hn
    go_wp2_with fail
    go_ret
    exact ⟨false, rfl, iff_of_false Bool.noConfusion (HN.out), HB2.out⟩
  | true =>
    have HFF := Lib.hid (HF.out hn)
    go_enter Try.func41, Try.ntmps41
    go_wp2_with fail
    refine (HG.out _ HB.out).mono ?_
    rintro e w2 ⟨rfl, hb2⟩
    rw [hn]
    have HB2 := Lib.hid (HB.out.trans (hb2.mono HB.out.size))
    obtain ⟨⟨f0, f1, f2, f3, f4, f5, f6⟩, _⟩ := blk7 (keepL (heap_new w (.cells #[.int .i64 2, .int .i64 a, .int .i64 b, .slice As m ks, .int .i64 mn, .int .i64 mx, .int .i64 nn] 35)) hb2)
    clear hb2 hn
    go_wp2_with fail
    refine (HSM.out _ HB2.out).mono ?_
    rintro e w9 ⟨q, rfl, hq, hb9⟩
    have HB9 := Lib.hid (HB2.out.trans (hb9.mono HB2.out.size))
    clear hb9
    go_wp2_with fail
    go_ret
    exact ⟨q, rfl, hq.trans HFF.out, HB9.out⟩
set_option maxHeartbeats 4000000 in
set_option maxRecDepth 100000 in
theorem fits_7 (kd a b mn mx nn : Int) (set : List R) (As : Option Addr) (ks : Nat) (w : World) (hx : S.Rgs w w.heap.size As set) (hl : set.length ≤ 1000000) (hk : kd = 7) :
    Calls Try.prog 41 #[nv ⟨kd, a, b, set, mn, mx, nn⟩ (.slice As set.length ks)] w (RetB w (Fine ⟨kd, a, b, set, mn, mx, nn⟩)) := by
  subst hk
  have HF := Lib.hid (show (0 ≤ mn ∧ mn ≤ 255 ∧ (mx = -1 ∨ mn ≤ mx ∧ mx ≤ 255)) → ((⟨7, a, b, set, mn, mx, nn⟩ : Nd) = ⟨7, a, 0, [], mn, mx, 0⟩ ↔ Fine ⟨7, a, b, set, mn, mx, nn⟩) from fun h0 => by unfold Fine; dsimp only; rw [if_neg (by omega), if_neg (by omega), if_neg (by omega), if_pos rfl]; simp only [Nd.mk.injEq, List.length_eq_zero_iff]; constructor <;> intro h <;> simp_all)
  have HNF := Lib.hid (show ¬ (0 ≤ mn ∧ mn ≤ 255 ∧ (mx = -1 ∨ mn ≤ mx ∧ mx ≤ 255)) → ¬ Fine ⟨7, a, b, set, mn, mx, nn⟩ from fun h0 h => by unfold Fine at h; dsimp only at h; rw [if_neg (by omega), if_neg (by omega), if_neg (by omega), if_pos rfl] at h; exact h0 ⟨h.2.2.2.1, h.2.2.2.2.1, h.2.2.2.2.2⟩)
  have HB := Lib.hid ((Below.refl w.heap.size w).alloc (Nat.le_refl _) (.cells #[.int .i64 7, .int .i64 a, .int .i64 b, .slice As set.length ks, .int .i64 mn, .int .i64 mx, .int .i64 nn] 35))
  have HSM := Lib.hid (fun (W : World) (hW : Below w.heap.size w W) => same_any ⟨7, a, b, set, mn, mx, nn⟩ ⟨7, a, 0, [], mn, mx, 0⟩ As none ks 0 W (hx.on hW) S.Rgs.nil hl (by simp))
  obtain ⟨m, hm⟩ : ∃ m, set.length = m := ⟨_, rfl⟩
  have HM := Lib.hid hm
  dsimp only [List.length_nil] at HSM
  rw [hm] at HB HSM ⊢
  clear hx hl hm
  go_enter Try.func41, Try.ntmps41
  go_wp2_with fail
  refine (times_any _ _ _).mono ?_
  rintro e w2 ⟨q, rfl, hq, hb2⟩
  have HB2 := Lib.hid (HB.out.trans (hb2.mono HB.out.size))
  obtain ⟨⟨f0, f1, f2, f3, f4, f5, f6⟩, _⟩ := blk7 (keepL (heap_new w (.cells #[.int .i64 7, .int .i64 a, .int .i64 b, .slice As m ks, .int .i64 mn, .int .i64 mx, .int .i64 nn] 35)) hb2)
  clear hb2
  cases q with
  | false =>
    have HN := Lib.hid (HNF.out (fun h => by have := hq.2 h; cases this))
    clear hq
    go_wp2_with fail
    go_ret
    exact ⟨false, rfl, iff_of_false Bool.noConfusion (HN.out), HB2.out⟩
  | true =>
    have HFF := Lib.hid (HF.out (hq.1 rfl))
    clear hq
    go_wp2_with fail
    refine (HSM.out _ HB2.out).mono ?_
    rintro e w9 ⟨q, rfl, hq, hb9⟩
    have HB9 := Lib.hid (HB2.out.trans (hb9.mono HB2.out.size))
    clear hb9
    go_wp2_with fail
    go_ret
    exact ⟨q, rfl, hq.trans HFF.out, HB9.out⟩
set_option maxHeartbeats 4000000 in
set_option maxRecDepth 100000 in
theorem fits_8 (kd a b mn mx nn : Int) (set : List R) (As : Option Addr) (ks : Nat) (w : World) (hx : S.Rgs w w.heap.size As set) (hl : set.length ≤ 1000000) (hk : kd = 8) :
    Calls Try.prog 41 #[nv ⟨kd, a, b, set, mn, mx, nn⟩ (.slice As set.length ks)] w (RetB w (Fine ⟨kd, a, b, set, mn, mx, nn⟩)) := by
  subst hk
  have HF := Lib.hid (show (1 ≤ nn ∧ nn ≤ 99) → ((⟨8, a, b, set, mn, mx, nn⟩ : Nd) = ⟨8, a, 0, [], 0, 0, nn⟩ ↔ Fine ⟨8, a, b, set, mn, mx, nn⟩) from fun h0 => by unfold Fine; dsimp only; rw [if_neg (by omega), if_neg (by omega), if_neg (by omega), if_neg (by omega), if_pos rfl]; simp only [Nd.mk.injEq, List.length_eq_zero_iff]; constructor <;> intro h <;> simp_all)
  have HNF := Lib.hid (show ¬ (1 ≤ nn ∧ nn ≤ 99) → ¬ Fine ⟨8, a, b, set, mn, mx, nn⟩ from fun h0 h => by unfold Fine at h; dsimp only at h; rw [if_neg (by omega), if_neg (by omega), if_neg (by omega), if_neg (by omega), if_pos rfl] at h; exact h0 ⟨h.2.2.2.2.1, h.2.2.2.2.2⟩)
  have HB := Lib.hid ((Below.refl w.heap.size w).alloc (Nat.le_refl _) (.cells #[.int .i64 8, .int .i64 a, .int .i64 b, .slice As set.length ks, .int .i64 mn, .int .i64 mx, .int .i64 nn] 35))
  have HSM := Lib.hid (fun (W : World) (hW : Below w.heap.size w W) => same_any ⟨8, a, b, set, mn, mx, nn⟩ ⟨8, a, 0, [], 0, 0, nn⟩ As none ks 0 W (hx.on hW) S.Rgs.nil hl (by simp))
  obtain ⟨m, hm⟩ : ∃ m, set.length = m := ⟨_, rfl⟩
  have HM := Lib.hid hm
  dsimp only [List.length_nil] at HSM
  rw [hm] at HB HSM ⊢
  clear hx hl hm
  by_cases h1 : 1 ≤ nn
  · have e1 : decide (1 ≤ nn) = true := decide_eq_true h1
    by_cases h2 : nn ≤ 99
    · have e2 : decide (nn ≤ 99) = true := decide_eq_true h2
      have HFF := Lib.hid (HF.out ⟨h1, h2⟩)
      go_enter Try.func41, Try.ntmps41
      go_wp2_with fail
      refine (HSM.out _ HB.out).mono ?_
      rintro e w9 ⟨q, rfl, hq, hb9⟩
      have HB9 := Lib.hid (HB.out.trans (hb9.mono HB.out.size))
      clear hb9
      go_wp2_with fail
      go_ret
      exact ⟨q, rfl, hq.trans HFF.out, HB9.out⟩
    · have e2 : decide (nn ≤ 99) = false := decide_eq_false h2
      have HN := Lib.hid (HNF.out (fun h => h2 h.2))
      go_enter Try.func41, Try.ntmps41
      go_wp2_with fail
      go_ret
      exact ⟨false, rfl, iff_of_false Bool.noConfusion (HN.out), HB.out⟩
  · have e1 : decide (1 ≤ nn) = false := decide_eq_false h1
    have HN := Lib.hid (HNF.out (fun h => h1 h.1))
    go_enter Try.func41, Try.ntmps41
    go_wp2_with fail
    go_ret
    exact ⟨false, rfl, iff_of_false Bool.noConfusion (HN.out), HB.out⟩
set_option maxHeartbeats 4000000 in
set_option maxRecDepth 100000 in
theorem fits_9 (kd a b mn mx nn : Int) (set : List R) (As : Option Addr) (ks : Nat) (w : World) (hx : S.Rgs w w.heap.size As set) (hl : set.length ≤ 1000000) (hk : kd = 9) :
    Calls Try.prog 41 #[nv ⟨kd, a, b, set, mn, mx, nn⟩ (.slice As set.length ks)] w (RetB w (Fine ⟨kd, a, b, set, mn, mx, nn⟩)) := by
  subst hk
  have HF := Lib.hid (show (0 ≤ nn ∧ nn ≤ 255) → ((⟨9, a, b, set, mn, mx, nn⟩ : Nd) = ⟨9, a, 0, [], 0, 0, nn⟩ ↔ Fine ⟨9, a, b, set, mn, mx, nn⟩) from fun h0 => by unfold Fine; dsimp only; rw [if_neg (by omega), if_neg (by omega), if_neg (by omega), if_neg (by omega), if_neg (by omega), if_pos rfl]; simp only [Nd.mk.injEq, List.length_eq_zero_iff]; constructor <;> intro h <;> simp_all)
  have HNF := Lib.hid (show ¬ (0 ≤ nn ∧ nn ≤ 255) → ¬ Fine ⟨9, a, b, set, mn, mx, nn⟩ from fun h0 h => by unfold Fine at h; dsimp only at h; rw [if_neg (by omega), if_neg (by omega), if_neg (by omega), if_neg (by omega), if_neg (by omega), if_pos rfl] at h; exact h0 ⟨h.2.2.2.2.1, h.2.2.2.2.2⟩)
  have HB := Lib.hid ((Below.refl w.heap.size w).alloc (Nat.le_refl _) (.cells #[.int .i64 9, .int .i64 a, .int .i64 b, .slice As set.length ks, .int .i64 mn, .int .i64 mx, .int .i64 nn] 35))
  have HSM := Lib.hid (fun (W : World) (hW : Below w.heap.size w W) => same_any ⟨9, a, b, set, mn, mx, nn⟩ ⟨9, a, 0, [], 0, 0, nn⟩ As none ks 0 W (hx.on hW) S.Rgs.nil hl (by simp))
  obtain ⟨m, hm⟩ : ∃ m, set.length = m := ⟨_, rfl⟩
  have HM := Lib.hid hm
  dsimp only [List.length_nil] at HSM
  rw [hm] at HB HSM ⊢
  clear hx hl hm
  by_cases h1 : 0 ≤ nn
  · have e1 : decide (0 ≤ nn) = true := decide_eq_true h1
    by_cases h2 : nn ≤ 255
    · have e2 : decide (nn ≤ 255) = true := decide_eq_true h2
      have HFF := Lib.hid (HF.out ⟨h1, h2⟩)
      go_enter Try.func41, Try.ntmps41
      go_wp2_with fail
      refine (HSM.out _ HB.out).mono ?_
      rintro e w9 ⟨q, rfl, hq, hb9⟩
      have HB9 := Lib.hid (HB.out.trans (hb9.mono HB.out.size))
      clear hb9
      go_wp2_with fail
      go_ret
      exact ⟨q, rfl, hq.trans HFF.out, HB9.out⟩
    · have e2 : decide (nn ≤ 255) = false := decide_eq_false h2
      have HN := Lib.hid (HNF.out (fun h => h2 h.2))
      go_enter Try.func41, Try.ntmps41
      go_wp2_with fail
      go_ret
      exact ⟨false, rfl, iff_of_false Bool.noConfusion (HN.out), HB.out⟩
  · have e1 : decide (0 ≤ nn) = false := decide_eq_false h1
    have HN := Lib.hid (HNF.out (fun h => h1 h.1))
    go_enter Try.func41, Try.ntmps41
    go_wp2_with fail
    go_ret
    exact ⟨false, rfl, iff_of_false Bool.noConfusion (HN.out), HB.out⟩
set_option maxHeartbeats 4000000 in
set_option maxRecDepth 100000 in
theorem fits_0 (kd a b mn mx nn : Int) (set : List R) (As : Option Addr) (ks : Nat) (w : World) (hk : kd < 1 ∨ 9 < kd) :
    Calls Try.prog 41 #[nv ⟨kd, a, b, set, mn, mx, nn⟩ (.slice As set.length ks)] w (RetB w (Fine ⟨kd, a, b, set, mn, mx, nn⟩)) := by
  have HF := Lib.hid (show ¬ Fine ⟨kd, a, b, set, mn, mx, nn⟩ by
    unfold Fine; dsimp only
    rw [if_neg (by omega), if_neg (by omega), if_neg (by omega), if_neg (by omega), if_neg (by omega), if_neg (by omega)]; exact id)
  have HB := Lib.hid ((Below.refl w.heap.size w).alloc (Nat.le_refl _) (.cells #[.int .i64 kd, .int .i64 a, .int .i64 b, .slice As set.length ks, .int .i64 mn, .int .i64 mx, .int .i64 nn] 35))
  have d1 : (kd == 1) = false := beq_eq_false_iff_ne.2 (by omega)
  have d2 : (kd == 2) = false := beq_eq_false_iff_ne.2 (by omega)
  have d3 : (kd == 3) = false := beq_eq_false_iff_ne.2 (by omega)
  have d4 : (kd == 4) = false := beq_eq_false_iff_ne.2 (by omega)
  have d5 : (kd == 5) = false := beq_eq_false_iff_ne.2 (by omega)
  have d6 : (kd == 6) = false := beq_eq_false_iff_ne.2 (by omega)
  have d7 : (kd == 7) = false := beq_eq_false_iff_ne.2 (by omega)
  have d8 : (kd == 8) = false := beq_eq_false_iff_ne.2 (by omega)
  have d9 : (kd == 9) = false := beq_eq_false_iff_ne.2 (by omega)
  obtain ⟨m, hm⟩ : ∃ m, set.length = m := ⟨_, rfl⟩
  rw [hm] at HB ⊢
  clear hm hk
  go_enter Try.func41, Try.ntmps41
  go_wp2_with fail
  go_ret
  exact ⟨false, rfl, iff_of_false Bool.noConfusion (HF.out), HB.out⟩
theorem fits_any (x : Nd) (As : Option Addr) (ks : Nat) (w : World) (hx : S.Rgs w w.heap.size As x.set) (hl : x.set.length ≤ 1000000) : Calls Try.prog 41 #[nv x (.slice As x.set.length ks)] w (RetB w (Fine x)) := by
  obtain ⟨kd, a, b, set, mn, mx, nn⟩ := x
  by_cases h0 : kd < 1 ∨ 9 < kd
  · exact fits_0 kd a b mn mx nn set As ks w h0
  · by_cases h1 : kd = 1 ∨ kd = 3 ∨ kd = 4
    · exact fits_1 kd a b mn mx nn set As ks w hx hl h1
    · by_cases h5 : kd = 5 ∨ kd = 6
      · exact fits_5 kd a b mn mx nn set As ks w hx hl h5
      · by_cases h2 : kd = 2
        · exact fits_2 kd a b mn mx nn set As ks w hx hl h2
        · by_cases h7 : kd = 7
          · exact fits_7 kd a b mn mx nn set As ks w hx hl h7
          · by_cases h8 : kd = 8
            · exact fits_8 kd a b mn mx nn set As ks w hx hl h8
            · exact fits_9 kd a b mn mx nn set As ks w hx hl (by omega)
end Go.Proofs.Ytceeimolfalmpaa
