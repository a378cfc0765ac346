/-
  Whether a node's fields are right but for its kids (fine), of the page's own. Condition: at most 1000000 ranges in its set.
-/
import Derived.Test.YtceeimolfalmpaaTJ
import Derived.Test.YtceeimolfalmpaaTK
namespace Go.Proofs.Ytceeimolfalmpaa
open Go.RowKit ObSets ObTree

/-- Are a node's fields right, but for its kids? -/
def Fine (x : Nd) : Prop :=
  if x.kind = 1 ∨ x.kind = 3 ∨ x.kind = 4 then x.mn = 0 ∧ x.mx = 0 ∧ x.set.length = 0 ∧ x.a = 0 ∧ x.b = 0 ∧ x.n = 0
  else if x.kind = 2 then x.mn = 0 ∧ x.mx = 0 ∧ S.normB x.set = true ∧ x.a = 0 ∧ x.b = 0 ∧ x.n = 0
  else if x.kind = 5 ∨ x.kind = 6 then x.mn = 0 ∧ x.mx = 0 ∧ x.set.length = 0 ∧ x.n = 0
  else if x.kind = 7 then x.set.length = 0 ∧ x.b = 0 ∧ x.n = 0 ∧ 0 ≤ x.mn ∧ x.mn ≤ 255 ∧ (x.mx = -1 ∨ x.mn ≤ x.mx ∧ x.mx ≤ 255)
  else if x.kind = 8 then x.mn = 0 ∧ x.mx = 0 ∧ x.set.length = 0 ∧ x.b = 0 ∧ 1 ≤ x.n ∧ x.n ≤ 99
  else if x.kind = 9 then x.mn = 0 ∧ x.mx = 0 ∧ x.set.length = 0 ∧ x.b = 0 ∧ 0 ≤ x.n ∧ x.n ≤ 255
  else False
/-- What a call hands back: whether it is so; nothing else is touched. -/
def RetB (w : World) (P : Prop) (e : Ending) (w' : World) : Prop := ∃ q : Bool, e = .returned (.bool q) ∧ (q = true ↔ P) ∧ Below w.heap.size w w'
set_option maxHeartbeats 4000000 in
set_option maxRecDepth 100000 in
theorem fine_0 (kd a b mn mx nn : Int) (set : List R) (A : Option Addr) (c : Nat) (w : World) (hk : kd < 1 ∨ 9 < kd) : Calls Try.prog 43 #[nv ⟨kd, a, b, set, mn, mx, nn⟩ (.slice A set.length c)] w (RetB w (Fine ⟨kd, a, b, set, mn, mx, nn⟩)) := by
  have HB := Lib.hid ((Below.refl w.heap.size w).alloc (Nat.le_refl _) (.cells #[.int .i64 kd, .int .i64 a, .int .i64 b, .slice A set.length c, .int .i64 mn, .int .i64 mx, .int .i64 nn] 35))
  have HF := Lib.hid (show ¬ Fine ⟨kd, a, b, set, mn, mx, nn⟩ by
    unfold Fine; dsimp only
    rw [if_neg (by omega), if_neg (by omega), if_neg (by omega), if_neg (by omega), if_neg (by omega), if_neg (by omega)]; exact id)
  have d1 : (kd == 1) = false := beq_eq_false_iff_ne.2 (by omega)
  have d2 : (kd == 2) = false := beq_eq_false_iff_ne.2 (by omega)
  have d3 : (kd == 3) = false := beq_eq_false_iff_ne.2 (by omega)
  have d4 : (kd == 4) = false := beq_eq_false_iff_ne.2 (by omega)
  have d5 : (kd == 5) = false := beq_eq_false_iff_ne.2 (by omega)
  have d6 : (kd == 6) = false := beq_eq_false_iff_ne.2 (by omega)
  have d7 : (kd == 7) = false := beq_eq_false_iff_ne.2 (by omega)
  have d8 : (kd == 8) = false := beq_eq_false_iff_ne.2 (by omega)
  have d9 : (kd == 9) = false := beq_eq_false_iff_ne.2 (by omega)
  obtain ⟨m, hm⟩ : ∃ m, set.length = m := ⟨_, rfl⟩
  rw [hm] at HB ⊢
  clear hm hk
  by_cases h1 : mn = 0
  · subst h1
    by_cases h2 : mx = 0
    · subst h2
      go_enter Try.func43, Try.ntmps43
      go_wp2_with fail
      go_ret
      exact ⟨false, rfl, iff_of_false Bool.noConfusion HF.out, HB.out⟩
    · have e2 : (mx == 0) = false := beq_eq_false_iff_ne.2 h2
      go_enter Try.func43, Try.ntmps43
      go_wp2_with fail
      go_ret
      exact ⟨false, rfl, iff_of_false Bool.noConfusion HF.out, HB.out⟩
  · have e1 : (mn == 0) = false := beq_eq_false_iff_ne.2 h1
    go_enter Try.func43, Try.ntmps43
    go_wp2_with fail
    go_ret
    exact ⟨false, rfl, iff_of_false Bool.noConfusion HF.out, HB.out⟩
set_option maxHeartbeats 4000000 in
set_option maxRecDepth 100000 in
theorem fine_2 (kd a b mn mx nn : Int) (set : List R) (A : Option Addr) (c : Nat) (w : World) (hs : S.Rgs w w.heap.size A set) (hl : set.length ≤ 1000000) (hk : kd = 2) : Calls Try.prog 43 #[nv ⟨kd, a, b, set, mn, mx, nn⟩ (.slice A set.length c)] w (RetB w (Fine ⟨kd, a, b, set, mn, mx, nn⟩)) := by
  have HB := Lib.hid ((Below.refl w.heap.size w).alloc (Nat.le_refl _) (.cells #[.int .i64 kd, .int .i64 a, .int .i64 b, .slice A set.length c, .int .i64 mn, .int .i64 mx, .int .i64 nn] 35))
  have HNORM := Lib.hid (fun (W : World) (hW : Below w.heap.size w W) => S.rgoodl_any A c set W (hs.on hW) hl)
  obtain ⟨m, hm⟩ : ∃ m, set.length = m := ⟨_, rfl⟩
  rw [hm] at HB HNORM ⊢
  clear hs hl hm
  subst hk
  by_cases h3 : mn = 0
  · subst h3
    by_cases h4 : mx = 0
    · subst h4
      cases hq : S.normB set with
      | false =>
        go_enter Try.func43, Try.ntmps43
        go_wp2_with fail
        refine (HNORM.out _ HB.out).mono ?_
        rintro e w2 ⟨rfl, hb2⟩
        rw [hq]
        have HB2 := Lib.hid (HB.out.trans (hb2.mono HB.out.size))
        obtain ⟨⟨f0, f1, f2, f3, f4, f5, f6⟩, _⟩ := blk7 (keepL (heap_new w (.cells #[.int .i64 2, .int .i64 a, .int .i64 b, .slice A m c, .int .i64 0, .int .i64 0, .int .i64 nn] 35)) hb2)
        clear hb2
        go_wp2_with fail
        refine bodyPost_ret (v := .bool false) ?_ ?_ ?_
        · exact results_tmp (fn := Try.f43) (t := 2) rfl _ _ _
        · rfl
        exact ⟨false, rfl, iff_of_false Bool.noConfusion (by unfold Fine; simp_all), HB2.out⟩
      | true =>
        by_cases h5 : a = 0
        · subst h5
          by_cases h6 : b = 0
          · subst h6
            by_cases h7 : nn = 0
            · subst h7
              go_enter Try.func43, Try.ntmps43
              go_wp2_with fail
              refine (HNORM.out _ HB.out).mono ?_
              rintro e w2 ⟨rfl, hb2⟩
              rw [hq]
              have HB2 := Lib.hid (HB.out.trans (hb2.mono HB.out.size))
              obtain ⟨⟨f0, f1, f2, f3, f4, f5, f6⟩, _⟩ := blk7 (keepL (heap_new w (.cells #[.int .i64 2, .int .i64 0, .int .i64 0, .slice A m c, .int .i64 0, .int .i64 0, .int .i64 0] 35)) hb2)
              clear hb2
              go_wp2_with fail
              refine bodyPost_ret (v := .bool true) ?_ ?_ ?_
              · exact results_tmp (fn := Try.f43) (t := 2) rfl _ _ _
              · rfl
              exact ⟨true, rfl, iff_of_true rfl (by unfold Fine; simp_all), HB2.out⟩
            · have e7 : (nn == 0) = false := beq_eq_false_iff_ne.2 h7
              go_enter Try.func43, Try.ntmps43
              go_wp2_with fail
              refine (HNORM.out _ HB.out).mono ?_
              rintro e w2 ⟨rfl, hb2⟩
              rw [hq]
              have HB2 := Lib.hid (HB.out.trans (hb2.mono HB.out.size))
              obtain ⟨⟨f0, f1, f2, f3, f4, f5, f6⟩, _⟩ := blk7 (keepL (heap_new w (.cells #[.int .i64 2, .int .i64 0, .int .i64 0, .slice A m c, .int .i64 0, .int .i64 0, .int .i64 nn] 35)) hb2)
              clear hb2
              go_wp2_with fail
              refine bodyPost_ret (v := .bool false) ?_ ?_ ?_
              · exact results_tmp (fn := Try.f43) (t := 2) rfl _ _ _
              · rfl
              exact ⟨false, rfl, iff_of_false Bool.noConfusion (by unfold Fine; simp_all), HB2.out⟩
          · have e6 : (b == 0) = false := beq_eq_false_iff_ne.2 h6
            go_enter Try.func43, Try.ntmps43
            go_wp2_with fail
            refine (HNORM.out _ HB.out).mono ?_
            rintro e w2 ⟨rfl, hb2⟩
            rw [hq]
            have HB2 := Lib.hid (HB.out.trans (hb2.mono HB.out.size))
            obtain ⟨⟨f0, f1, f2, f3, f4, f5, f6⟩, _⟩ := blk7 (keepL (heap_new w (.cells #[.int .i64 2, .int .i64 0, .int .i64 b, .slice A m c, .int .i64 0, .int .i64 0, .int .i64 nn] 35)) hb2)
            clear hb2
            go_wp2_with fail
            refine bodyPost_ret (v := .bool false) ?_ ?_ ?_
            · exact results_tmp (fn := Try.f43) (t := 2) rfl _ _ _
            · rfl
            exact ⟨false, rfl, iff_of_false Bool.noConfusion (by unfold Fine; simp_all), HB2.out⟩
        · have e5 : (a == 0) = false := beq_eq_false_iff_ne.2 h5
          go_enter Try.func43, Try.ntmps43
          go_wp2_with fail
          refine (HNORM.out _ HB.out).mono ?_
          rintro e w2 ⟨rfl, hb2⟩
          rw [hq]
          have HB2 := Lib.hid (HB.out.trans (hb2.mono HB.out.size))
          obtain ⟨⟨f0, f1, f2, f3, f4, f5, f6⟩, _⟩ := blk7 (keepL (heap_new w (.cells #[.int .i64 2, .int .i64 a, .int .i64 b, .slice A m c, .int .i64 0, .int .i64 0, .int .i64 nn] 35)) hb2)
          clear hb2
          go_wp2_with fail
          refine bodyPost_ret (v := .bool false) ?_ ?_ ?_
          · exact results_tmp (fn := Try.f43) (t := 2) rfl _ _ _
          · rfl
          exact ⟨false, rfl, iff_of_false Bool.noConfusion (by unfold Fine; simp_all), HB2.out⟩
    · have e4 : (mx == 0) = false := beq_eq_false_iff_ne.2 h4
      go_enter Try.func43, Try.ntmps43
      go_wp2_with fail
      go_ret
      exact ⟨false, rfl, iff_of_false Bool.noConfusion (by unfold Fine; simp_all), HB.out⟩
  · have e3 : (mn == 0) = false := beq_eq_false_iff_ne.2 h3
    go_enter Try.func43, Try.ntmps43
    go_wp2_with fail
    go_ret
    exact ⟨false, rfl, iff_of_false Bool.noConfusion (by unfold Fine; simp_all), HB.out⟩
set_option maxHeartbeats 4000000 in
set_option maxRecDepth 100000 in
theorem fine_5 (kd a b mn mx nn : Int) (set : List R) (A : Option Addr) (c : Nat) (w : World) (hk : kd = 5 ∨ kd = 6) : Calls Try.prog 43 #[nv ⟨kd, a, b, set, mn, mx, nn⟩ (.slice A set.length c)] w (RetB w (Fine ⟨kd, a, b, set, mn, mx, nn⟩)) := by
  have HB := Lib.hid ((Below.refl w.heap.size w).alloc (Nat.le_refl _) (.cells #[.int .i64 kd, .int .i64 a, .int .i64 b, .slice A set.length c, .int .i64 mn, .int .i64 mx, .int .i64 nn] 35))
  obtain ⟨m, hm⟩ : ∃ m, set.length = m := ⟨_, rfl⟩
  rw [hm] at HB ⊢
  rcases hk with rfl | rfl
  ·
    by_cases h8 : mn = 0
    · subst h8
      by_cases h9 : mx = 0
      · subst h9
        by_cases h10 : (m : Int) = 0
        · obtain rfl : m = 0 := by omega
          by_cases h11 : nn = 0
          · subst h11
            go_enter Try.func43, Try.ntmps43
            go_wp2_with fail
            go_ret
            exact ⟨true, rfl, iff_of_true rfl (by unfold Fine; simp [hm] <;> omega), HB.out⟩
          · have e11 : (nn == 0) = false := beq_eq_false_iff_ne.2 h11
            go_enter Try.func43, Try.ntmps43
            go_wp2_with fail
            go_ret
            exact ⟨false, rfl, iff_of_false Bool.noConfusion (by unfold Fine; simp [hm] <;> omega), HB.out⟩
        · have e10 : ((m : Int) == 0) = false := beq_eq_false_iff_ne.2 h10
          go_enter Try.func43, Try.ntmps43
          go_wp2_with fail
          go_ret
          exact ⟨false, rfl, iff_of_false Bool.noConfusion (by unfold Fine; simp [hm] <;> omega), HB.out⟩
      · have e9 : (mx == 0) = false := beq_eq_false_iff_ne.2 h9
        go_enter Try.func43, Try.ntmps43
        go_wp2_with fail
        go_ret
        exact ⟨false, rfl, iff_of_false Bool.noConfusion (by unfold Fine; simp [hm] <;> omega), HB.out⟩
    · have e8 : (mn == 0) = false := beq_eq_false_iff_ne.2 h8
      go_enter Try.func43, Try.ntmps43
      go_wp2_with fail
      go_ret
      exact ⟨false, rfl, iff_of_false Bool.noConfusion (by unfold Fine; simp [hm] <;> omega), HB.out⟩
  ·
    by_cases h12 : mn = 0
    · subst h12
      by_cases h13 : mx = 0
      · subst h13
        by_cases h14 : (m : Int) = 0
        · obtain rfl : m = 0 := by omega
          by_cases h15 : nn = 0
          · subst h15
            go_enter Try.func43, Try.ntmps43
            go_wp2_with fail
            go_ret
            exact ⟨true, rfl, iff_of_true rfl (by unfold Fine; simp [hm] <;> omega), HB.out⟩
          · have e15 : (nn == 0) = false := beq_eq_false_iff_ne.2 h15
            go_enter Try.func43, Try.ntmps43
            go_wp2_with fail
            go_ret
            exact ⟨false, rfl, iff_of_false Bool.noConfusion (by unfold Fine; simp [hm] <;> omega), HB.out⟩
        · have e14 : ((m : Int) == 0) = false := beq_eq_false_iff_ne.2 h14
          go_enter Try.func43, Try.ntmps43
          go_wp2_with fail
          go_ret
          exact ⟨false, rfl, iff_of_false Bool.noConfusion (by unfold Fine; simp [hm] <;> omega), HB.out⟩
      · have e13 : (mx == 0) = false := beq_eq_false_iff_ne.2 h13
        go_enter Try.func43, Try.ntmps43
        go_wp2_with fail
        go_ret
        exact ⟨false, rfl, iff_of_false Bool.noConfusion (by unfold Fine; simp [hm] <;> omega), HB.out⟩
    · have e12 : (mn == 0) = false := beq_eq_false_iff_ne.2 h12
      go_enter Try.func43, Try.ntmps43
      go_wp2_with fail
      go_ret
      exact ⟨false, rfl, iff_of_false Bool.noConfusion (by unfold Fine; simp [hm] <;> omega), HB.out⟩
set_option maxHeartbeats 4000000 in
set_option maxRecDepth 100000 in
theorem fine_8 (kd a b mn mx nn : Int) (set : List R) (A : Option Addr) (c : Nat) (w : World) (hk : kd = 8) : Calls Try.prog 43 #[nv ⟨kd, a, b, set, mn, mx, nn⟩ (.slice A set.length c)] w (RetB w (Fine ⟨kd, a, b, set, mn, mx, nn⟩)) := by
  have HB := Lib.hid ((Below.refl w.heap.size w).alloc (Nat.le_refl _) (.cells #[.int .i64 kd, .int .i64 a, .int .i64 b, .slice A set.length c, .int .i64 mn, .int .i64 mx, .int .i64 nn] 35))
  obtain ⟨m, hm⟩ : ∃ m, set.length = m := ⟨_, rfl⟩
  rw [hm] at HB ⊢
  subst hk
  by_cases h16 : mn = 0
  · subst h16
    by_cases h17 : mx = 0
    · subst h17
      by_cases h18 : (m : Int) = 0
      · obtain rfl : m = 0 := by omega
        by_cases h19 : b = 0
        · subst h19
          by_cases h20 : 1 ≤ nn
          · have e20 : decide (1 ≤ nn) = true := decide_eq_true h20
            by_cases h21 : nn ≤ 99
            · have e21 : decide (nn ≤ 99) = true := decide_eq_true h21
              go_enter Try.func43, Try.ntmps43
              go_wp2_with fail
              go_ret
              exact ⟨true, rfl, iff_of_true rfl (by unfold Fine; simp [hm] <;> omega), HB.out⟩
            · have e21 : decide (nn ≤ 99) = false := decide_eq_false h21
              go_enter Try.func43, Try.ntmps43
              go_wp2_with fail
              go_ret
              exact ⟨false, rfl, iff_of_false Bool.noConfusion (by unfold Fine; simp [hm] <;> omega), HB.out⟩
          · have e20 : decide (1 ≤ nn) = false := decide_eq_false h20
            go_enter Try.func43, Try.ntmps43
            go_wp2_with fail
            go_ret
            exact ⟨false, rfl, iff_of_false Bool.noConfusion (by unfold Fine; simp [hm] <;> omega), HB.out⟩
        · have e19 : (b == 0) = false := beq_eq_false_iff_ne.2 h19
          go_enter Try.func43, Try.ntmps43
          go_wp2_with fail
          go_ret
          exact ⟨false, rfl, iff_of_false Bool.noConfusion (by unfold Fine; simp [hm] <;> omega), HB.out⟩
      · have e18 : ((m : Int) == 0) = false := beq_eq_false_iff_ne.2 h18
        go_enter Try.func43, Try.ntmps43
        go_wp2_with fail
        go_ret
        exact ⟨false, rfl, iff_of_false Bool.noConfusion (by unfold Fine; simp [hm] <;> omega), HB.out⟩
    · have e17 : (mx == 0) = false := beq_eq_false_iff_ne.2 h17
      go_enter Try.func43, Try.ntmps43
      go_wp2_with fail
      go_ret
      exact ⟨false, rfl, iff_of_false Bool.noConfusion (by unfold Fine; simp [hm] <;> omega), HB.out⟩
  · have e16 : (mn == 0) = false := beq_eq_false_iff_ne.2 h16
    go_enter Try.func43, Try.ntmps43
    go_wp2_with fail
    go_ret
    exact ⟨false, rfl, iff_of_false Bool.noConfusion (by unfold Fine; simp [hm] <;> omega), HB.out⟩
end Go.Proofs.Ytceeimolfalmpaa
