/-
  Whether a node's fields are right but for its kids (fine), of the page's own: more kinds.
-/
import Derived.Test.YtceeimolfalmpaaTM
namespace Go.Proofs.Ytceeimolfalmpaa
open Go.RowKit ObSets ObTree

set_option maxHeartbeats 4000000 in
set_option maxRecDepth 100000 in
theorem fine_1 (kd a b mn mx nn : Int) (set : List R) (A : Option Addr) (c : Nat) (w : World) (hk : kd = 1 ∨ kd = 3 ∨ kd = 4) : Calls Try.prog 43 #[nv ⟨kd, a, b, set, mn, mx, nn⟩ (.slice A set.length c)] w (RetB w (Fine ⟨kd, a, b, set, mn, mx, nn⟩)) := by
  have HB := Lib.hid ((Below.refl w.heap.size w).alloc (Nat.le_refl _) (.cells #[.int .i64 kd, .int .i64 a, .int .i64 b, .slice A set.length c, .int .i64 mn, .int .i64 mx, .int .i64 nn] 35))
  obtain ⟨m, hm⟩ : ∃ m, set.length = m := ⟨_, rfl⟩
  rw [hm] at HB ⊢
  rcases hk with rfl | rfl | rfl
  ·
    by_cases h1 : mn = 0
    · subst h1
      by_cases h2 : mx = 0
      · subst h2
        by_cases h3 : (m : Int) = 0
        · obtain rfl : m = 0 := by omega
          by_cases h4 : a = 0
          · subst h4
            by_cases h5 : b = 0
            · subst h5
              by_cases h6 : nn = 0
              · subst h6
                go_enter Try.func43, Try.ntmps43
                go_wp2_with fail
                go_ret
                exact ⟨true, rfl, iff_of_true rfl (by unfold Fine; simp [hm] <;> omega), HB.out⟩
              · have e6 : (nn == 0) = false := beq_eq_false_iff_ne.2 h6
                go_enter Try.func43, Try.ntmps43
                go_wp2_with fail
                go_ret
                exact ⟨false, rfl, iff_of_false Bool.noConfusion (by unfold Fine; simp [hm] <;> omega), HB.out⟩
            · have e5 : (b == 0) = false := beq_eq_false_iff_ne.2 h5
              go_enter Try.func43, Try.ntmps43
              go_wp2_with fail
              go_ret
              exact ⟨false, rfl, iff_of_false Bool.noConfusion (by unfold Fine; simp [hm] <;> omega), HB.out⟩
          · have e4 : (a == 0) = false := beq_eq_false_iff_ne.2 h4
            go_enter Try.func43, Try.ntmps43
            go_wp2_with fail
            go_ret
            exact ⟨false, rfl, iff_of_false Bool.noConfusion (by unfold Fine; simp [hm] <;> omega), HB.out⟩
        · have e3 : ((m : Int) == 0) = false := beq_eq_false_iff_ne.2 h3
          go_enter Try.func43, Try.ntmps43
          go_wp2_with fail
          go_ret
          exact ⟨false, rfl, iff_of_false Bool.noConfusion (by unfold Fine; simp [hm] <;> omega), HB.out⟩
      · have e2 : (mx == 0) = false := beq_eq_false_iff_ne.2 h2
        go_enter Try.func43, Try.ntmps43
        go_wp2_with fail
        go_ret
        exact ⟨false, rfl, iff_of_false Bool.noConfusion (by unfold Fine; simp [hm] <;> omega), HB.out⟩
    · have e1 : (mn == 0) = false := beq_eq_false_iff_ne.2 h1
      go_enter Try.func43, Try.ntmps43
      go_wp2_with fail
      go_ret
      exact ⟨false, rfl, iff_of_false Bool.noConfusion (by unfold Fine; simp [hm] <;> omega), HB.out⟩
  ·
    by_cases h7 : mn = 0
    · subst h7
      by_cases h8 : mx = 0
      · subst h8
        by_cases h9 : (m : Int) = 0
        · obtain rfl : m = 0 := by omega
          by_cases h10 : a = 0
          · subst h10
            by_cases h11 : b = 0
            · subst h11
              by_cases h12 : nn = 0
              · subst h12
                go_enter Try.func43, Try.ntmps43
                go_wp2_with fail
                go_ret
                exact ⟨true, rfl, iff_of_true rfl (by unfold Fine; simp [hm] <;> omega), HB.out⟩
              · have e12 : (nn == 0) = false := beq_eq_false_iff_ne.2 h12
                go_enter Try.func43, Try.ntmps43
                go_wp2_with fail
                go_ret
                exact ⟨false, rfl, iff_of_false Bool.noConfusion (by unfold Fine; simp [hm] <;> omega), HB.out⟩
            · have e11 : (b == 0) = false := beq_eq_false_iff_ne.2 h11
              go_enter Try.func43, Try.ntmps43
              go_wp2_with fail
              go_ret
              exact ⟨false, rfl, iff_of_false Bool.noConfusion (by unfold Fine; simp [hm] <;> omega), HB.out⟩
          · have e10 : (a == 0) = false := beq_eq_false_iff_ne.2 h10
            go_enter Try.func43, Try.ntmps43
            go_wp2_with fail
            go_ret
            exact ⟨false, rfl, iff_of_false Bool.noConfusion (by unfold Fine; simp [hm] <;> omega), HB.out⟩
        · have e9 : ((m : Int) == 0) = false := beq_eq_false_iff_ne.2 h9
          go_enter Try.func43, Try.ntmps43
          go_wp2_with fail
          go_ret
          exact ⟨false, rfl, iff_of_false Bool.noConfusion (by unfold Fine; simp [hm] <;> omega), HB.out⟩
      · have e8 : (mx == 0) = false := beq_eq_false_iff_ne.2 h8
        go_enter Try.func43, Try.ntmps43
        go_wp2_with fail
        go_ret
        exact ⟨false, rfl, iff_of_false Bool.noConfusion (by unfold Fine; simp [hm] <;> omega), HB.out⟩
    · have e7 : (mn == 0) = false := beq_eq_false_iff_ne.2 h7
      go_enter Try.func43, Try.ntmps43
      go_wp2_with fail
      go_ret
      exact ⟨false, rfl, iff_of_false Bool.noConfusion (by unfold Fine; simp [hm] <;> omega), HB.out⟩
  ·
    by_cases h13 : mn = 0
    · subst h13
      by_cases h14 : mx = 0
      · subst h14
        by_cases h15 : (m : Int) = 0
        · obtain rfl : m = 0 := by omega
          by_cases h16 : a = 0
          · subst h16
            by_cases h17 : b = 0
            · subst h17
              by_cases h18 : nn = 0
              · subst h18
                go_enter Try.func43, Try.ntmps43
                go_wp2_with fail
                go_ret
                exact ⟨true, rfl, iff_of_true rfl (by unfold Fine; simp [hm] <;> omega), HB.out⟩
              · have e18 : (nn == 0) = false := beq_eq_false_iff_ne.2 h18
                go_enter Try.func43, Try.ntmps43
                go_wp2_with fail
                go_ret
                exact ⟨false, rfl, iff_of_false Bool.noConfusion (by unfold Fine; simp [hm] <;> omega), HB.out⟩
            · have e17 : (b == 0) = false := beq_eq_false_iff_ne.2 h17
              go_enter Try.func43, Try.ntmps43
              go_wp2_with fail
              go_ret
              exact ⟨false, rfl, iff_of_false Bool.noConfusion (by unfold Fine; simp [hm] <;> omega), HB.out⟩
          · have e16 : (a == 0) = false := beq_eq_false_iff_ne.2 h16
            go_enter Try.func43, Try.ntmps43
            go_wp2_with fail
            go_ret
            exact ⟨false, rfl, iff_of_false Bool.noConfusion (by unfold Fine; simp [hm] <;> omega), HB.out⟩
        · have e15 : ((m : Int) == 0) = false := beq_eq_false_iff_ne.2 h15
          go_enter Try.func43, Try.ntmps43
          go_wp2_with fail
          go_ret
          exact ⟨false, rfl, iff_of_false Bool.noConfusion (by unfold Fine; simp [hm] <;> omega), HB.out⟩
      · have e14 : (mx == 0) = false := beq_eq_false_iff_ne.2 h14
        go_enter Try.func43, Try.ntmps43
        go_wp2_with fail
        go_ret
        exact ⟨false, rfl, iff_of_false Bool.noConfusion (by unfold Fine; simp [hm] <;> omega), HB.out⟩
    · have e13 : (mn == 0) = false := beq_eq_false_iff_ne.2 h13
      go_enter Try.func43, Try.ntmps43
      go_wp2_with fail
      go_ret
      exact ⟨false, rfl, iff_of_false Bool.noConfusion (by unfold Fine; simp [hm] <;> omega), HB.out⟩
set_option maxHeartbeats 4000000 in
set_option maxRecDepth 100000 in
theorem fine_7 (kd a b mn mx nn : Int) (set : List R) (A : Option Addr) (c : Nat) (w : World) (hk : kd = 7) : Calls Try.prog 43 #[nv ⟨kd, a, b, set, mn, mx, nn⟩ (.slice A set.length c)] w (RetB w (Fine ⟨kd, a, b, set, mn, mx, nn⟩)) := by
  have HB := Lib.hid ((Below.refl w.heap.size w).alloc (Nat.le_refl _) (.cells #[.int .i64 kd, .int .i64 a, .int .i64 b, .slice A set.length c, .int .i64 mn, .int .i64 mx, .int .i64 nn] 35))
  obtain ⟨m, hm⟩ : ∃ m, set.length = m := ⟨_, rfl⟩
  rw [hm] at HB ⊢
  subst hk
  by_cases h19 : mn = 0
  · subst h19
    by_cases h20 : mx = 0
    · subst h20
      by_cases h21 : (m : Int) = 0
      · obtain rfl : m = 0 := by omega
        by_cases h22 : b = 0
        · subst h22
          by_cases h23 : nn = 0
          · subst h23
            go_enter Try.func43, Try.ntmps43
            go_wp2_with fail
            go_ret
            exact ⟨true, rfl, iff_of_true rfl (by unfold Fine; simp [hm] <;> omega), HB.out⟩
          · have e23 : (nn == 0) = false := beq_eq_false_iff_ne.2 h23
            go_enter Try.func43, Try.ntmps43
            go_wp2_with fail
            go_ret
            exact ⟨false, rfl, iff_of_false Bool.noConfusion (by unfold Fine; simp [hm] <;> omega), HB.out⟩
        · have e22 : (b == 0) = false := beq_eq_false_iff_ne.2 h22
          go_enter Try.func43, Try.ntmps43
          go_wp2_with fail
          go_ret
          exact ⟨false, rfl, iff_of_false Bool.noConfusion (by unfold Fine; simp [hm] <;> omega), HB.out⟩
      · have e21 : ((m : Int) == 0) = false := beq_eq_false_iff_ne.2 h21
        go_enter Try.func43, Try.ntmps43
        go_wp2_with fail
        go_ret
        exact ⟨false, rfl, iff_of_false Bool.noConfusion (by unfold Fine; simp [hm] <;> omega), HB.out⟩
    · have e20 : (mx == 0) = false := beq_eq_false_iff_ne.2 h20
      by_cases h24 : (m : Int) = 0
      · obtain rfl : m = 0 := by omega
        by_cases h25 : b = 0
        · subst h25
          by_cases h26 : nn = 0
          · subst h26
            by_cases h27 : mx = -1
            · subst h27
              go_enter Try.func43, Try.ntmps43
              go_wp2_with fail
              go_ret
              exact ⟨true, rfl, iff_of_true rfl (by unfold Fine; simp [hm] <;> omega), HB.out⟩
            · have e27 : (mx == -1) = false := beq_eq_false_iff_ne.2 h27
              by_cases h28 : 0 ≤ mx
              · have e28 : decide (0 ≤ mx) = true := decide_eq_true h28
                by_cases h29 : mx ≤ 255
                · have e29 : decide (mx ≤ 255) = true := decide_eq_true h29
                  go_enter Try.func43, Try.ntmps43
                  go_wp2_with fail
                  go_ret
                  exact ⟨true, rfl, iff_of_true rfl (by unfold Fine; simp [hm] <;> omega), HB.out⟩
                · have e29 : decide (mx ≤ 255) = false := decide_eq_false h29
                  go_enter Try.func43, Try.ntmps43
                  go_wp2_with fail
                  go_ret
                  exact ⟨false, rfl, iff_of_false Bool.noConfusion (by unfold Fine; simp [hm] <;> omega), HB.out⟩
              · have e28 : decide (0 ≤ mx) = false := decide_eq_false h28
                go_enter Try.func43, Try.ntmps43
                go_wp2_with fail
                go_ret
                exact ⟨false, rfl, iff_of_false Bool.noConfusion (by unfold Fine; simp [hm] <;> omega), HB.out⟩
          · have e26 : (nn == 0) = false := beq_eq_false_iff_ne.2 h26
            go_enter Try.func43, Try.ntmps43
            go_wp2_with fail
            go_ret
            exact ⟨false, rfl, iff_of_false Bool.noConfusion (by unfold Fine; simp [hm] <;> omega), HB.out⟩
        · have e25 : (b == 0) = false := beq_eq_false_iff_ne.2 h25
          go_enter Try.func43, Try.ntmps43
          go_wp2_with fail
          go_ret
          exact ⟨false, rfl, iff_of_false Bool.noConfusion (by unfold Fine; simp [hm] <;> omega), HB.out⟩
      · have e24 : ((m : Int) == 0) = false := beq_eq_false_iff_ne.2 h24
        go_enter Try.func43, Try.ntmps43
        go_wp2_with fail
        go_ret
        exact ⟨false, rfl, iff_of_false Bool.noConfusion (by unfold Fine; simp [hm] <;> omega), HB.out⟩
  · have e19 : (mn == 0) = false := beq_eq_false_iff_ne.2 h19
    by_cases h30 : (m : Int) = 0
    · obtain rfl : m = 0 := by omega
      by_cases h31 : b = 0
      · subst h31
        by_cases h32 : nn = 0
        · subst h32
          by_cases h33 : 0 ≤ mn
          · have e33 : decide (0 ≤ mn) = true := decide_eq_true h33
            by_cases h34 : mn ≤ 255
            · have e34 : decide (mn ≤ 255) = true := decide_eq_true h34
              by_cases h35 : mx = -1
              · subst h35
                go_enter Try.func43, Try.ntmps43
                go_wp2_with fail
                go_ret
                exact ⟨true, rfl, iff_of_true rfl (by unfold Fine; simp [hm] <;> omega), HB.out⟩
              · have e35 : (mx == -1) = false := beq_eq_false_iff_ne.2 h35
                by_cases h36 : mn ≤ mx
                · have e36 : decide (mn ≤ mx) = true := decide_eq_true h36
                  by_cases h37 : mx ≤ 255
                  · have e37 : decide (mx ≤ 255) = true := decide_eq_true h37
                    go_enter Try.func43, Try.ntmps43
                    go_wp2_with fail
                    go_ret
                    exact ⟨true, rfl, iff_of_true rfl (by unfold Fine; simp [hm] <;> omega), HB.out⟩
                  · have e37 : decide (mx ≤ 255) = false := decide_eq_false h37
                    go_enter Try.func43, Try.ntmps43
                    go_wp2_with fail
                    go_ret
                    exact ⟨false, rfl, iff_of_false Bool.noConfusion (by unfold Fine; simp [hm] <;> omega), HB.out⟩
                · have e36 : decide (mn ≤ mx) = false := decide_eq_false h36
                  go_enter Try.func43, Try.ntmps43
                  go_wp2_with fail
                  go_ret
                  exact ⟨false, rfl, iff_of_false Bool.noConfusion (by unfold Fine; simp [hm] <;> omega), HB.out⟩
            · have e34 : decide (mn ≤ 255) = false := decide_eq_false h34
              go_enter Try.func43, Try.ntmps43
              go_wp2_with fail
              go_ret
              exact ⟨false, rfl, iff_of_false Bool.noConfusion (by unfold Fine; simp [hm] <;> omega), HB.out⟩
          · have e33 : decide (0 ≤ mn) = false := decide_eq_false h33
            go_enter Try.func43, Try.ntmps43
            go_wp2_with fail
            go_ret
            exact ⟨false, rfl, iff_of_false Bool.noConfusion (by unfold Fine; simp [hm] <;> omega), HB.out⟩
        · have e32 : (nn == 0) = false := beq_eq_false_iff_ne.2 h32
          go_enter Try.func43, Try.ntmps43
          go_wp2_with fail
          go_ret
          exact ⟨false, rfl, iff_of_false Bool.noConfusion (by unfold Fine; simp [hm] <;> omega), HB.out⟩
      · have e31 : (b == 0) = false := beq_eq_false_iff_ne.2 h31
        go_enter Try.func43, Try.ntmps43
        go_wp2_with fail
        go_ret
        exact ⟨false, rfl, iff_of_false Bool.noConfusion (by unfold Fine; simp [hm] <;> omega), HB.out⟩
    · have e30 : ((m : Int) == 0) = false := beq_eq_false_iff_ne.2 h30
      go_enter Try.func43, Try.ntmps43
      go_wp2_with fail
      go_ret
      exact ⟨false, rfl, iff_of_false Bool.noConfusion (by unfold Fine; simp [hm] <;> omega), HB.out⟩
set_option maxHeartbeats 4000000 in
set_option maxRecDepth 100000 in
theorem fine_9 (kd a b mn mx nn : Int) (set : List R) (A : Option Addr) (c : Nat) (w : World) (hk : kd = 9) : Calls Try.prog 43 #[nv ⟨kd, a, b, set, mn, mx, nn⟩ (.slice A set.length c)] w (RetB w (Fine ⟨kd, a, b, set, mn, mx, nn⟩)) := by
  have HB := Lib.hid ((Below.refl w.heap.size w).alloc (Nat.le_refl _) (.cells #[.int .i64 kd, .int .i64 a, .int .i64 b, .slice A set.length c, .int .i64 mn, .int .i64 mx, .int .i64 nn] 35))
  obtain ⟨m, hm⟩ : ∃ m, set.length = m := ⟨_, rfl⟩
  rw [hm] at HB ⊢
  subst hk
  by_cases h38 : mn = 0
  · subst h38
    by_cases h39 : mx = 0
    · subst h39
      by_cases h40 : (m : Int) = 0
      · obtain rfl : m = 0 := by omega
        by_cases h41 : b = 0
        · subst h41
          by_cases h42 : 0 ≤ nn
          · have e42 : decide (0 ≤ nn) = true := decide_eq_true h42
            by_cases h43 : nn ≤ 255
            · have e43 : decide (nn ≤ 255) = true := decide_eq_true h43
              go_enter Try.func43, Try.ntmps43
              go_wp2_with fail
              go_ret
              exact ⟨true, rfl, iff_of_true rfl (by unfold Fine; simp [hm] <;> omega), HB.out⟩
            · have e43 : decide (nn ≤ 255) = false := decide_eq_false h43
              go_enter Try.func43, Try.ntmps43
              go_wp2_with fail
              go_ret
              exact ⟨false, rfl, iff_of_false Bool.noConfusion (by unfold Fine; simp [hm] <;> omega), HB.out⟩
          · have e42 : decide (0 ≤ nn) = false := decide_eq_false h42
            go_enter Try.func43, Try.ntmps43
            go_wp2_with fail
            go_ret
            exact ⟨false, rfl, iff_of_false Bool.noConfusion (by unfold Fine; simp [hm] <;> omega), HB.out⟩
        · have e41 : (b == 0) = false := beq_eq_false_iff_ne.2 h41
          go_enter Try.func43, Try.ntmps43
          go_wp2_with fail
          go_ret
          exact ⟨false, rfl, iff_of_false Bool.noConfusion (by unfold Fine; simp [hm] <;> omega), HB.out⟩
      · have e40 : ((m : Int) == 0) = false := beq_eq_false_iff_ne.2 h40
        go_enter Try.func43, Try.ntmps43
        go_wp2_with fail
        go_ret
        exact ⟨false, rfl, iff_of_false Bool.noConfusion (by unfold Fine; simp [hm] <;> omega), HB.out⟩
    · have e39 : (mx == 0) = false := beq_eq_false_iff_ne.2 h39
      go_enter Try.func43, Try.ntmps43
      go_wp2_with fail
      go_ret
      exact ⟨false, rfl, iff_of_false Bool.noConfusion (by unfold Fine; simp [hm] <;> omega), HB.out⟩
  · have e38 : (mn == 0) = false := beq_eq_false_iff_ne.2 h38
    go_enter Try.func43, Try.ntmps43
    go_wp2_with fail
    go_ret
    exact ⟨false, rfl, iff_of_false Bool.noConfusion (by unfold Fine; simp [hm] <;> omega), HB.out⟩
theorem fine_any (x : Nd) (A : Option Addr) (c : Nat) (w : World) (hs : S.Rgs w w.heap.size A x.set) (hl : x.set.length ≤ 1000000) : Calls Try.prog 43 #[nv x (.slice A x.set.length c)] w (RetB w (Fine x)) := by
  obtain ⟨kd, a, b, set, mn, mx, nn⟩ := x
  by_cases h1 : kd = 1 ∨ kd = 3 ∨ kd = 4
  · exact fine_1 kd a b mn mx nn set A c w h1
  by_cases h2 : kd = 2
  · exact fine_2 kd a b mn mx nn set A c w hs hl h2
  by_cases h5 : kd = 5 ∨ kd = 6
  · exact fine_5 kd a b mn mx nn set A c w h5
  by_cases h7 : kd = 7
  · exact fine_7 kd a b mn mx nn set A c w h7
  by_cases h8 : kd = 8
  · exact fine_8 kd a b mn mx nn set A c w h8
  by_cases h9 : kd = 9
  · exact fine_9 kd a b mn mx nn set A c w h9
  exact fine_0 kd a b mn mx nn set A c w (by omega)
end Go.Proofs.Ytceeimolfalmpaa
