/-
  What Has answers, of the program and of the page's own: whether a list of ranges has a symbol. Condition: at most 1000000 ranges.
-/
import Derived.Test.YtfjcljhodnkieaaMem
namespace Go.Proofs.Ytfjcljhodnkieaa
open Go.RowKit ObSets

def NoneTo (l : List R) (x : Int) (k : Nat) : Prop := ∀ j r, j < k → l[j]? = some r → inR r x = false
theorem NoneTo.succ {l : List R} {x : Int} {k : Nat} {r : R} (h : NoneTo l x k) (h1 : l[k]? = some r) (h2 : inR r x = false) : NoneTo l x (k + 1) := by
  intro j q hj hq
  rcases Nat.lt_or_ge j k with h3 | h3
  · exact h j q h3 hq
  · obtain rfl : j = k := by omega
    rw [h1] at hq; injection hq with hq; rw [← hq]; exact h2
theorem any_none {l : List R} {x : Int} {k : Nat} (h : NoneTo l x k) (hk : l.length ≤ k) : (l.any fun r => inR r x) = false := by
  rw [Bool.eq_false_iff]; intro h1
  obtain ⟨r, hr, h2⟩ := List.any_eq_true.1 h1
  obtain ⟨j, hj, rfl⟩ := List.mem_iff_getElem.1 hr
  have := h j _ (by omega) (List.getElem?_eq_getElem hj)
  rw [this] at h2; cases h2
theorem any_some {l : List R} {x : Int} {k : Nat} {r : R} (h1 : l[k]? = some r) (h2 : inR r x = true) : (l.any fun r => inR r x) = true :=
  List.any_eq_true.2 ⟨r, List.mem_of_getElem? h1, h2⟩
theorem has_not_sym {l : List R} {x : Int} (h : sym x = false) : has l x = false := by unfold has; rw [h]; rfl
theorem has_of_sym {l : List R} {x : Int} (h : sym x = true) : has l x = l.any fun r => inR r x := by unfold has; rw [h]; rfl

def NoneIf (l : List R) (x : Int) (k : Nat) : Prop := sym x = true → NoneTo l x k
set_option maxHeartbeats 1000000 in
set_option maxRecDepth 100000 in
theorem rhas_any (A : Option Addr) (c : Nat) (l : List R) (x : Int) (w : World) (h : Rgs w w.heap.size A l) (hl : l.length ≤ 1000000) :
    Calls Try.prog 17 #[.slice A l.length c, .int .i64 x] w fun e w' => e = .returned (.bool (has l x)) ∧ Below w.heap.size w w' := by
  generalize hn : l.length = n at *
  have HN := Lib.hid hn
  clear hn
  go_enter Try.func17, Try.ntmps17
  go_wp2
  go_loopw [5] (fun t wr => ∃ k : Nat, k ≤ n ∧ t = .int .i64 k ∧ NoneIf l x k ∧ Below w.heap.size w wr) (fun t _ => n - (intOf t).toNat)
  case atStart => exact ⟨0, by omega, rfl, fun _ j r hj => by omega, Below.refl _ _⟩
  case round =>
    obtain ⟨k, hk, rfl, hs, hb2⟩ := hrel
    have HS := Lib.hid hs
    clear hs
    by_cases hkn : k < n
    · obtain ⟨b, off, a, d, rfl, hbl, e1, f1, f2⟩ := (h.below hb2).at_ (k := k) (by rw [HN.out]; exact hkn)
      have E1 := Lib.hid e1
      clear e1
      have hk1 : (k : Int) < (n : Int) := by omega
      cases hx : sym x with
      | false =>
        go_wp2_with (go_at_call 30; refine (rgood_any _ _).mono ?_; rintro e w' ⟨rfl, rfl⟩)
        go_roundw
        case rel => exact ⟨k + 1, by omega, by go_num, fun g => by (rw [hx] at g; cases g), hb2⟩
        case measure => simp [intOf]; omega
      | true =>
        rcases (show x < a ∨ (a ≤ x ∧ d < x) ∨ (a ≤ x ∧ x ≤ d) by omega) with g | ⟨g1, g2⟩ | ⟨g1, g2⟩
        · have hd : decide (a ≤ x) = false := by simp; omega
          have HI := Lib.hid (show inR (a, d) x = false by unfold inR; simp; omega)
          go_wp2_with (go_at_call 30; refine (rgood_any _ _).mono ?_; rintro e w' ⟨rfl, rfl⟩)
          go_roundw
          case rel => exact ⟨k + 1, by omega, by go_num, fun g => (HS.out g).succ E1.out HI.out, hb2⟩
          case measure => simp [intOf]; omega
        · have hd : decide (a ≤ x) = true := by simp; omega
          have hd2 : decide (x ≤ d) = false := by simp; omega
          have HI := Lib.hid (show inR (a, d) x = false by unfold inR; simp; omega)
          go_wp2_with (go_at_call 30; refine (rgood_any _ _).mono ?_; rintro e w' ⟨rfl, rfl⟩)
          go_roundw
          case rel => exact ⟨k + 1, by omega, by go_num, fun g => (HS.out g).succ E1.out HI.out, hb2⟩
          case measure => simp [intOf]; omega
        · have hd : decide (a ≤ x) = true := by simp; omega
          have hd2 : decide (x ≤ d) = true := by simp; omega
          have HI := Lib.hid (show has l x = true by rw [has_of_sym hx]; exact any_some E1.out (by unfold inR; simp; omega))
          go_wp2_with (go_at_call 30; refine (rgood_any _ _).mono ?_; rintro e w' ⟨rfl, rfl⟩)
          go_ret
          exact ⟨ret_bool HI.out.symm, hb2⟩
    · have hk1 : decide (k < n) = false := by simp; omega
      obtain rfl : k = n := by omega
      have HF := Lib.hid (show has l x = false by
        cases hx : sym x with
        | false => exact has_not_sym hx
        | true => rw [has_of_sym hx]; exact any_none (HS.out hx) (by rw [HN.out]; exact Nat.le_refl _))
      go_wp2
      go_ret
      exact ⟨ret_bool HF.out.symm, hb2⟩

set_option maxHeartbeats 400000 in
theorem hasfn_any (r : R) (x : Int) (B : Nat) (w : World) (hB : B < w.heap.size) (hc : w.cell? ⟨B, 0, none⟩ = some (.int .i64 x)) :
    Calls Try.prog 41 #[rv r, .pointer (some ⟨B, 0, none⟩)] w fun e w' => e = .returned (.bool (inR r x)) ∧ Below w.heap.size w w' := by
  obtain ⟨a, d⟩ := r
  have hc' : ∀ o, (w.alloc o).cell? ⟨B, 0, none⟩ = some (.int .i64 x) := fun o => (World.cell?_alloc_lt w o ⟨B, 0, none⟩ hB).trans hc
  unfold rv
  rcases (show x < a ∨ (a ≤ x ∧ d < x) ∨ (a ≤ x ∧ x ≤ d) by omega) with g | ⟨g1, g2⟩ | ⟨g1, g2⟩
  · have hd : decide (a ≤ x) = false := by simp; omega
    have HI := Lib.hid (show inR (a, d) x = false by unfold inR; simp; omega)
    go_enter Try.func41, Try.ntmps41
    go_wp2
    go_ret
    exact ⟨ret_bool HI.out.symm, (Below.refl _ _).alloc (Nat.le_refl _) _⟩
  · have hd : decide (a ≤ x) = true := by simp; omega
    have hd2 : decide (x ≤ d) = false := by simp; omega
    have HI := Lib.hid (show inR (a, d) x = false by unfold inR; simp; omega)
    go_enter Try.func41, Try.ntmps41
    go_wp2
    go_ret
    exact ⟨ret_bool HI.out.symm, (Below.refl _ _).alloc (Nat.le_refl _) _⟩
  · have hd : decide (a ≤ x) = true := by simp; omega
    have hd2 : decide (x ≤ d) = true := by simp; omega
    have HI := Lib.hid (show inR (a, d) x = true by unfold inR; simp; omega)
    go_enter Try.func41, Try.ntmps41
    go_wp2
    go_ret
    exact ⟨ret_bool HI.out.symm, (Below.refl _ _).alloc (Nat.le_refl _) _⟩

set_option maxHeartbeats 1000000 in
set_option maxRecDepth 100000 in
theorem index_any (A : Option Addr) (c : Nat) (l : List R) (x : Int) (B : Nat) (w : World) (h : Rgs w w.heap.size A l) (hl : l.length ≤ 1000000) (hB : B < w.heap.size) (hc : w.cell? ⟨B, 0, none⟩ = some (.int .i64 x)) :
    Calls Try.prog 53 #[.slice A l.length c, .func (.func 41) #[] #[.pointer (some ⟨B, 0, none⟩)]] w fun e w' => (∃ i : Int, e = .returned (.int .i64 i) ∧ decide (0 ≤ i) = l.any fun r => inR r x) ∧ Below w.heap.size w w' := by
  generalize hn : l.length = n at *
  have HN := Lib.hid hn
  clear hn
  go_enter Try.func53, Try.ntmps53
  go_wp2
  go_loopw [8] (fun t wr => ∃ k : Nat, k ≤ n ∧ t = .int .i64 k ∧ NoneTo l x k ∧ Below w.heap.size w wr) (fun t _ => n - (intOf t).toNat)
  case atStart => exact ⟨0, by omega, rfl, fun j r hj => by omega, Below.refl _ _⟩
  case round =>
    obtain ⟨k, hk, rfl, hs, hb2⟩ := hrel
    have HS := Lib.hid hs
    clear hs
    by_cases hkn : k < n
    · obtain ⟨b, off, a, d, rfl, hbl, e1, f1, f2⟩ := (h.below hb2).at_ (k := k) (by rw [HN.out]; exact hkn)
      have E1 := Lib.hid e1
      clear e1
      have hk1 : (k : Int) < (n : Int) := by omega
      have HC := Lib.hid (hasfn_any (a, d) x B wr (by have := hb2.size; omega) ((hb2.cell (p := ⟨B, 0, none⟩) hB).trans hc))
      cases hi : inR (a, d) x with
      | false =>
        have HI := Lib.hid hi
        rw [hi] at HC
        go_wp2_with (go_at_call 41; refine HC.out.mono ?_; rintro e w' ⟨rfl, hb3⟩)
        go_roundw
        case rel => exact ⟨k + 1, by omega, by go_num, HS.out.succ E1.out HI.out, bel_trans hb2 hb3⟩
        case measure => simp [intOf]; omega
      | true =>
        have HI := Lib.hid hi
        rw [hi] at HC
        go_wp2_with (go_at_call 41; refine HC.out.mono ?_; rintro e w' ⟨rfl, hb3⟩)
        go_ret
        exact ⟨⟨_, rfl, by rw [any_some E1.out HI.out]; simp⟩, bel_trans hb2 hb3⟩
    · have hk1 : decide (k < n) = false := by simp; omega
      obtain rfl : k = n := by omega
      go_wp2
      go_ret
      exact ⟨⟨_, rfl, by rw [any_none HS.out (by rw [HN.out]; exact Nat.le_refl _)]; rfl⟩, hb2⟩

set_option maxHeartbeats 400000 in
theorem contains_any (A : Option Addr) (c : Nat) (l : List R) (x : Int) (B : Nat) (w : World) (h : Rgs w w.heap.size A l) (hl : l.length ≤ 1000000) (hB : B < w.heap.size) (hc : w.cell? ⟨B, 0, none⟩ = some (.int .i64 x)) :
    Calls Try.prog 40 #[.slice A l.length c, .func (.func 41) #[] #[.pointer (some ⟨B, 0, none⟩)]] w fun e w' => e = .returned (.bool (l.any fun r => inR r x)) ∧ Below w.heap.size w w' := by
  have HC := Lib.hid (index_any A c l x B w h hl hB hc)
  generalize (l.any fun r => inR r x) = v at *
  generalize l.length = n at *
  clear h hc
  go_enter Try.func40, Try.ntmps40
  go_wp2_with (go_at_call 53; refine HC.out.mono ?_; rintro e w' ⟨⟨i, rfl, hi⟩, hb⟩)
  go_ret
  exact ⟨rfl, hb⟩

set_option maxHeartbeats 400000 in
theorem has_any (A : Option Addr) (c : Nat) (l : List R) (x : Int) (w : World) (h : Rgs w w.heap.size A l) (hl : l.length ≤ 1000000) :
    Calls Try.prog 16 #[.slice A l.length c, .int .i64 x] w fun e w' => e = .returned (.bool (has l x)) ∧ Below w.heap.size w w' := by
  have hb := (Below.refl w.heap.size w).alloc (Nat.le_refl _) (.cells #[.int .i64 x] 3)
  have HC := Lib.hid (contains_any A c l x w.heap.size (w.alloc (.cells #[.int .i64 x] 3)) (h.on hb) hl (by simp) (by simp))
  cases hx : sym x with
  | false =>
    rw [has_not_sym hx]
    generalize l.length = n at *
    clear h
    go_enter Try.func16, Try.ntmps16
    go_wp2_with (go_at_call 32; refine (good_any _ _).mono ?_; rintro e w' ⟨rfl, rfl⟩)
    go_ret
    exact ⟨rfl, hb⟩
  | true =>
    rw [has_of_sym hx]
    generalize (l.any fun r => inR r x) = v at *
    generalize l.length = n at *
    clear h
    go_enter Try.func16, Try.ntmps16
    go_wp2_with (first | (go_at_call 32; refine (good_any _ _).mono ?_; rintro e w' ⟨rfl, rfl⟩) | (go_at_call 40; refine HC.out.mono ?_; rintro e w' ⟨rfl, hb2⟩))
    go_ret
    exact ⟨rfl, bel_trans hb hb2⟩
end Go.Proofs.Ytfjcljhodnkieaa
