/-
  What slices.Index (for 10), endFrom, startOf and At of line answer. Condition: at most 1000000 numbers.
-/
import Derived.Test.YtgnlepjpclcnoaaW1
namespace Go.Proofs.Ytgnlepjpclcnoaa
open Go.RowKit ObLine

/-- The first 10, or -1. -/
def IdxR (f : Nat → Int) (n : Nat) (r : Int) : Prop := (∃ i : Nat, i < n ∧ (∀ j, j < i → f j ≠ 10) ∧ f i = 10 ∧ r = i) ∨ ((∀ j, j < n → f j ≠ 10) ∧ r = -1)
def NoTo (f : Nat → Int) (k : Nat) : Prop := ∀ j, j < k → f j ≠ 10
theorem NoTo.succ {f : Nat → Int} {k : Nat} (h : NoTo f k) (hk : f k ≠ 10) : NoTo f (k + 1) := fun j hj => by
  rcases Nat.lt_or_ge j k with h1 | h1
  · exact h j h1
  · obtain rfl : j = k := by omega
    exact hk
set_option maxHeartbeats 1000000 in
set_option maxRecDepth 100000 in
theorem index_any {A : Option Addr} {n B : Nat} {f : Nat → Int} {w : World} (c : Nat) (h : Cells w B A n f) (hn : n ≤ 1000000) :
    Calls Try.prog 26 #[.slice A n c, .int .i64 10] w fun e w' => ∃ r, e = .returned (.int .i64 r) ∧ IdxR f n r ∧ Below w.heap.size w w' := by
  have HC := Lib.hid h; clear h
  go_enter Try.func26, Try.ntmps26
  go_wp2
  go_loopw [8] (fun t wr => ∃ k : Nat, k ≤ n ∧ t = .int .i64 k ∧ NoTo f k ∧ ∃ q, wr = w.drewN q) (fun t _ => n - (intOf t).toNat)
  case atStart => exact ⟨0, Nat.zero_le _, rfl, fun c h => by omega, 0, rfl⟩
  case round =>
    obtain ⟨k, hk, rfl, hno, q, rfl⟩ := hrel
    have HN := Lib.hid hno
    clear hno
    by_cases hlt : k < n
    · obtain ⟨b, off, rfl, _, hcl⟩ := HC.out (by omega)
      have hx := hcl k hlt
      have hd : decide (k < n) = true := by simp [hlt]
      clear hcl HC
      by_cases he : f k = 10
      · have HX := Lib.hid (show IdxR f n k from .inl ⟨k, hlt, HN.out, he, rfl⟩)
        have hq : ((10 : Int) == f k) = true := by simp [he]
        clear he
        generalize f k = y at *
        go_wp2
        go_ret
        exact ⟨_, rfl, HX.out, below_drews (Below.refl _ _) _⟩
      · have HX := Lib.hid (HN.out.succ he)
        have hq : ((10 : Int) == f k) = false := by rw [beq_eq_false_iff_ne]; exact fun e => he e.symm
        clear he
        generalize f k = y at *
        go_wp2
        go_roundw
        case rel => exact ⟨k + 1, by omega, by go_num, HX.out, ⟨_, rfl⟩⟩
        case measure => simp [intOf]; omega
    · have hd : decide (k < n) = false := by simp; omega
      have HX := Lib.hid (show IdxR f n (-1) from .inr ⟨fun j hj => HN.out j (by omega), rfl⟩)
      go_wp2
      go_ret
      exact ⟨_, rfl, HX.out, below_drews (Below.refl _ _) _⟩
/-- Where the line that begins at s ends. -/
theorem end_of {f : Nat → Int} {n s : Nat} {r : Int} (hs : s ≤ n) (h : IdxR (fun j => f (s + j)) (n - s) r) : (∃ i : Nat, r = i ∧ s + i < n ∧ EndOf f n s (s + i)) ∨ (r = -1 ∧ EndOf f n s n) := by
  rcases h with ⟨i, h1, h2, h3, rfl⟩ | ⟨h1, rfl⟩
  · left; exact ⟨i, rfl, by omega, by omega, by omega, fun j hj => h2 j (by omega), .inr h3⟩
  · right; exact ⟨rfl, hs, Nat.le_refl _, h1, .inl rfl⟩
set_option maxHeartbeats 1000000 in
set_option maxRecDepth 100000 in
theorem endFrom_any {A : Option Addr} {n c B : Nat} {f : Nat → Int} {w : World} (h : Cells w B A n f) (hn : n ≤ 1000000) (hc : n ≤ c) {s : Nat} (hs : s ≤ n) :
    Calls Try.prog 25 #[.slice A n c, .int .i64 (s : Int)] w fun e w' => ∃ m : Nat, e = .returned (.int .i64 (m : Int)) ∧ EndOf f n s m ∧ Below w.heap.size w w' := by
  obtain ⟨A', c', hr, _, hcc, hk⟩ := cut_tail A n c s hs hc
  have HI := Lib.hid (index_any c' (hk _ _ _ h) (by omega))
  have HE := Lib.hid (fun r => @end_of f n s r hs)
  clear h hk hcc
  generalize hd : n - s = d at *
  clear hd
  go_enter Try.func25, Try.ntmps25
  go_wp2_with (with_reducible refine wpList_slice_run rfl 22 (.tmp 6) (some (.tmp 7)) none none rfl _ (hr _) ?_)
  refine HI.out.mono ?_
  rintro e w1 ⟨r, rfl, hx, hb⟩
  rcases HE.out r hx with ⟨i, rfl, hlt, hE⟩ | ⟨rfl, hE⟩
  · have HX := Lib.hid hE
    clear hE hx
    go_wp2
    go_ret
    exact ⟨s + i, ret_int (by omega), HX.out, hb⟩
  · have HX := Lib.hid hE
    clear hE hx
    go_wp2
    go_ret
    exact ⟨n, rfl, HX.out, hb⟩
/-- What startOf answers. -/
def StR (f : Nat → Int) (n : Nat) (L : Int) (e : Ending) : Prop :=
  (∃ a s : Nat, e = .returned (.tuple #[.int .i64 (s : Int), .bool true]) ∧ s ≤ n ∧ Beg f a s ∧ L = a) ∨ (e = .returned (.tuple #[.int .i64 0, .bool false]) ∧ ∀ b p, ¬ Pl f n L b p)
theorem next_of {f : Nat → Int} {n s a : Nat} {r : Int} (hs : s ≤ n) (hB : Beg f a s) (h : IdxR (fun j => f (s + j)) (n - s) r) :
    (∃ i : Nat, r = i ∧ s + (i + 1) ≤ n ∧ Beg f (a + 1) (s + (i + 1))) ∨ (r = -1 ∧ ∀ L : Int, (a : Int) < L → ∀ b p, ¬ Pl f n L b p) := by
  rcases h with ⟨i, h1, h2, h3, rfl⟩ | ⟨h1, rfl⟩
  · left; exact ⟨i, rfl, by omega, hB.next h2 h3⟩
  · right; exact ⟨rfl, fun L hL b => none_of_last hB hs h1 hL⟩
set_option maxHeartbeats 1000000 in
set_option maxRecDepth 100000 in
theorem startOf_any {A : Option Addr} {n c B : Nat} {f : Nat → Int} {w : World} (h : Cells w B A n f) (hn : n ≤ 1000000) (hc : n ≤ c) (hB : B ≤ w.heap.size) (L : Int) (hL : L ≤ 9223372036854775807) :
    Calls Try.prog 24 #[.slice A n c, .int .i64 L] w fun e w' => StR f n L e ∧ Below w.heap.size w w' := by
  by_cases h1 : L < 1
  · have HX := Lib.hid (show StR f n L (.returned (.tuple #[.int .i64 0, .bool false])) from .inr ⟨rfl, fun b => none_of_less h1⟩)
    clear h
    go_enter Try.func24, Try.ntmps24
    go_wp2
    go_ret2
    exact ⟨HX.out, Below.refl _ _⟩
  · have HC := Lib.hid h
    have HT := Lib.hid (fun s hs => cut_tail A n c s hs hc)
    have HN := Lib.hid (fun s a r => @next_of f n s a r)
    clear h
    go_enter Try.func24, Try.ntmps24
    go_wp2
    go_loopw [1, 6] (fun t v wr => ∃ (a s : Nat) (u : Int), t = .int .i64 u ∧ v = .int .i64 (s : Int) ∧ u = L - a + 1 ∧ 1 ≤ u ∧ 1 ≤ a ∧ s ≤ n ∧ Beg f a s ∧ Below w.heap.size w wr) (fun _ v _ => n - (intOf v).toNat)
    case atStart => exact ⟨1, 0, L, rfl, rfl, by omega, by omega, by omega, by omega, Beg.zero f, Below.refl _ _⟩
    case round =>
      obtain ⟨a, s, u, rfl, rfl, hu, hu1, ha, hs, hbeg, hb⟩ := hrel
      have HB := Lib.hid hbeg
      have HU := Lib.hid hu
      have hu2 : u ≤ 9223372036854775807 := by omega
      clear hbeg hu
      by_cases hlt : 1 < u
      · obtain ⟨A', c', hr, _, hcc, hk⟩ := HT.out s hs
        have HI := Lib.hid (index_any c' ((hk _ _ _ HC.out).below (hb.mono hB)) (by omega))
        have HE := Lib.hid (fun r => HN.out s a r hs HB.out)
        clear hcc hk HC HT HN
        generalize hd : n - s = d at *
        have HD := Lib.hid hd
        clear hd
        go_wp2_with (with_reducible refine wpList_slice_run rfl 22 (.tmp 14) (some (.tmp 15)) none none rfl _ (hr _) ?_)
        refine HI.out.mono ?_
        rintro e w1 ⟨r, rfl, hx, hb1⟩
        rcases HE.out r hx with ⟨i, rfl, hle, hE⟩ | ⟨rfl, hE⟩
        · have HX := Lib.hid hE
          clear hE hx HE
          go_wp2
          go_roundw
          case rel => exact ⟨a + 1, s + (i + 1), u - 1, by go_num, by go_num, by have := HU.out; omega, by omega, by omega, hle, HX.out, bel_trans hb hb1⟩
          case measure => simp [intOf]; omega
        · have HX := Lib.hid (show StR f n L (.returned (.tuple #[.int .i64 0, .bool false])) from .inr ⟨rfl, hE L (by have := HU.out; omega)⟩)
          clear hE hx HE
          go_wp2
          go_ret2
          exact ⟨HX.out, bel_trans hb hb1⟩
      · have HX := Lib.hid (show StR f n L (.returned (.tuple #[.int .i64 (s : Int), .bool true])) from .inl ⟨a, s, rfl, hs, HB.out, by have := HU.out; omega⟩)
        clear HC HT HN
        go_wp2
        go_ret2
        exact ⟨HX.out, hb⟩
end Go.Proofs.Ytgnlepjpclcnoaa
