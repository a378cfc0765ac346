/-
  What Or, And and Fold of the page's own, Set and Within answer. Condition: at most 300000 ranges each.
-/
import Derived.Test.YtfjcljhodnkieaaW15
import Derived.Test.YtfjcljhodnkieaaW5
namespace Go.Proofs.Ytfjcljhodnkieaa
open Go.RowKit ObSets

/-- A new slice of nothing, by a literal. -/
theorem made_none (w : World) : Ow (w.alloc (.cells #[] 32)) w.heap.size (.slice (some ⟨w.heap.size, 0, none⟩) 0 0) [] :=
  World.ownsRow_made w #[] 0 (Nat.le_refl _) (by unfold maxLen; omega) (by simp)
/-- What is appended to a row that was made. -/
theorem cat_rel {w0 w w2 : World} {v v' : Value} {l m : List R} (hB : Below w0.heap.size w0 w) (hown : Ow w w0.heap.size v l) (hg : w.grownBy w2 v.ownBlock) (hown' : Ow w2 w0.heap.size v' (l ++ m)) : Ow w2 w0.heap.size v' (l ++ m) ∧ Below w0.heap.size w0 w2 :=
  ⟨hown', hB.grown hg hB.size (fun k hk => (hown.lt k hk).1)⟩

set_option maxHeartbeats 1000000 in
theorem ror_any (A1 A2 : Option Addr) (c1 c2 : Nat) (a b : List R) (w : World) (h1 : Rgs w w.heap.size A1 a) (h2 : Rgs w w.heap.size A2 b) (hl : a.length + b.length ≤ 1000000) :
    Calls Try.prog 22 #[.slice A1 a.length c1, .slice A2 b.length c2] w (RetR (orL a b) w) := by
  have hb0 := (Below.refl w.heap.size w).alloc (Nat.le_refl _) (.cells #[] 32)
  obtain ⟨v1, w1, hrun1, hown1, hg1⟩ := append_src (c := c1) 22 (made_none w) (h1.on hb0) (rgs_none h1) (by simp; omega) (by simp)
  obtain ⟨o1, hb1⟩ := cat_rel hb0 (made_none w) hg1 hown1
  rw [List.nil_append] at o1
  obtain ⟨v2, w2, hrun2, hown2, hg2⟩ := append_src (c := c2) 22 o1 (h2.on hb1) (rgs_none h2) (by omega) hb1.size
  obtain ⟨o2, hb2⟩ := cat_rel hb1 o1 hg2 hown2
  obtain ⟨A3, cap, rfl, hc1, hc2, hr, _⟩ := o2.shape
  have HN := Lib.hid (rnorm_any A3 cap (a ++ b) w2 hr (by simpa using hl))
  have HR1 := Lib.hid hrun1; have HR2 := Lib.hid hrun2
  rw [show nrm (a ++ b) = orL a b from rfl] at HN
  generalize orL a b = res at *
  generalize a.length = n1 at *
  generalize b.length = n2 at *
  generalize (a ++ b).length = n3 at *
  clear hrun1 hrun2 hown1 hown2 hg1 hg2 o1 o2 h1 h2 hr
  go_enter Try.func22, Try.ntmps22
  go_wp2_with (first | (at_builtin; refine Lib.wpList_append_run _ rfl _ _ _ _ rfl _ _ rfl rfl _ _ HR1.out ?_) | (at_builtin; refine Lib.wpList_append_run _ rfl _ _ _ _ rfl _ _ rfl rfl _ _ HR2.out ?_) | (go_at_call 15; refine HN.out.mono ?_; rintro e w3 ⟨v3, rfl, hown3, hb3⟩))
  go_ret
  exact ⟨_, rfl, hown3.less hb2.size, bel_trans hb2 hb3⟩

set_option maxHeartbeats 1000000 in
theorem rand_any (A1 A2 : Option Addr) (c1 c2 : Nat) (a b : List R) (w : World) (h1 : Rgs w w.heap.size A1 a) (h2 : Rgs w w.heap.size A2 b) (hl1 : a.length ≤ 300000) (hl2 : b.length ≤ 300000) :
    Calls Try.prog 24 #[.slice A1 a.length c1, .slice A2 b.length c2] w (RetR (notL (orL (notL a) (notL b))) w) := by
  have hla := notL_len a; have hlb := notL_len b; have hlo := orL_len (notL a) (notL b)
  have H1 := Lib.hid (rnot_any A1 c1 a w h1 (by omega))
  have H2 := Lib.hid (show ∀ w1, Below w.heap.size w w1 → Calls Try.prog 26 #[.slice A2 b.length c2] w1 (RetR (notL b) w1) from fun w1 hb => rnot_any A2 c2 b w1 (h2.on hb) (by omega))
  have H3 := Lib.hid (show ∀ (w1 : World) (B1 B2 : Option Addr) (d1 d2 : Nat), Rgs w1 w1.heap.size B1 (notL a) → Rgs w1 w1.heap.size B2 (notL b) → Calls Try.prog 22 #[.slice B1 (notL a).length d1, .slice B2 (notL b).length d2] w1 (RetR (orL (notL a) (notL b)) w1) from fun w1 B1 B2 d1 d2 g1 g2 => ror_any B1 B2 d1 d2 _ _ w1 g1 g2 (by omega))
  have H4 := Lib.hid (show ∀ (w1 : World) (B1 : Option Addr) (d1 : Nat), Rgs w1 w1.heap.size B1 (orL (notL a) (notL b)) → Calls Try.prog 26 #[.slice B1 (orL (notL a) (notL b)).length d1] w1 (RetR (notL (orL (notL a) (notL b))) w1) from fun w1 B1 d1 g1 => rnot_any B1 d1 _ w1 g1 (by omega))
  generalize notL (orL (notL a) (notL b)) = res at *
  generalize orL (notL a) (notL b) = oo at *
  generalize notL a = na at *
  generalize notL b = nb at *
  generalize a.length = n1 at *
  generalize b.length = n2 at *
  clear h1 h2 hl1 hl2 hla hlb hlo
  go_enter Try.func24, Try.ntmps24
  go_wp2_with (first
    | (go_at_call_of 26 A1; refine H1.out.mono ?_; rintro e w1 ⟨v1, rfl, hown1, hb1⟩)
    | (go_at_call_of 26 A2; refine (H2.out _ hb1).mono ?_; rintro e w2 ⟨v2, rfl, hown2, hb2⟩; obtain ⟨B1, d1, rfl, _, _, r1, _⟩ := hown1.shape; obtain ⟨B2, d2, rfl, _, _, r2, _⟩ := hown2.shape; have R1 := Lib.hid (r1.on hb2); have R2 := Lib.hid r2; clear r1 r2 hown1 hown2)
    | (go_at_call 22; refine (H3.out _ _ _ _ _ R1.out R2.out).mono ?_; rintro e w3 ⟨v3, rfl, hown3, hb3⟩; obtain ⟨B3, d3, rfl, _, _, r3, _⟩ := hown3.shape; have R3 := Lib.hid r3; clear r3 hown3)
    | (go_at_call_of 26 B3; refine (H4.out _ _ _ R3.out).mono ?_; rintro e w4 ⟨v4, rfl, hown4, hb4⟩))
  go_ret
  exact ⟨_, rfl, hown4.less (bel_trans (bel_trans hb1 hb2) hb3).size, bel_trans (bel_trans (bel_trans hb1 hb2) hb3) hb4⟩

set_option maxHeartbeats 1000000 in
theorem within_any (x : Int) (n : Nat) (w : World) (hn : 0 < n) (hn2 : n ≤ 1000000000) :
    Calls Try.prog 29 #[.int .i64 x, .int .i64 n] w fun e w' => e = .returned (.int .i64 (x % n)) ∧ w = w' := by
  have h0 : ((n : Int) == 0) = false := by simp; omega
  have h0' : (n : Int) ≠ 0 := by omega
  have b1 := Int.tmod_lt_of_pos x (show (0 : Int) < n by omega)
  have b2 : -(n : Int) < Int.tmod x n := by
    have := Int.lt_tmod_of_pos x (show (0 : Int) < n by omega)
    omega
  have e1 : Int.tmod x n = x % n ∨ Int.tmod x n + n = x % n ∧ Int.tmod x n < 0 := by
    rcases Int.le_total 0 x with hx | hx
    · exact Or.inl (Int.tmod_eq_emod_of_nonneg hx)
    · have hh := Int.tmod_eq_emod (a := x) (b := n)
      have hp := Int.emod_nonneg x h0'
      have hq := Int.emod_lt_of_pos x (show (0 : Int) < n by omega)
      split at hh
      · left; omega
      · right
        simp at hh
        omega
  have hp := Int.emod_nonneg x h0'
  have hw : IntKind.i64.wrap (Int.tmod x n) = Int.tmod x n := IntWalk.i64_in _ (by omega)
  generalize hr : x % n = r at *
  generalize ht : Int.tmod x n = t at *
  by_cases hneg : t < 0
  · have hd : decide (t < 0) = true := by simp; omega
    have hw2 : IntKind.i64.wrap (t + n) = t + n := IntWalk.i64_in _ (by omega)
    have E := Lib.hid (show t + n = r by omega)
    clear e1
    go_enter Try.func29, Try.ntmps29
    go_wp2
    go_ret
    exact ⟨ret_int E.out, rfl⟩
  · have hd : decide (t < 0) = false := by simp; omega
    have E := Lib.hid (show t = r by omega)
    clear e1
    go_enter Try.func29, Try.ntmps29
    go_wp2
    go_ret
    exact ⟨ret_int E.out, rfl⟩
end Go.Proofs.Ytfjcljhodnkieaa
