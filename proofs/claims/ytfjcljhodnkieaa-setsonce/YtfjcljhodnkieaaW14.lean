/-
  What slices.Concat of slices of ranges, and Or, of the program and of the page's own, answer. Condition: at most 1000000 ranges together.
-/
import Derived.Test.YtfjcljhodnkieaaW13
namespace Go.Proofs.Ytfjcljhodnkieaa
open Go.RowKit ObSets

/-- One list behind the other. -/
def catTo (L : Nat → List R) : Nat → List R
  | 0 => []
  | k + 1 => catTo L k ++ L k
theorem catTo_succ (L : Nat → List R) (k : Nat) : catTo L (k + 1) = catTo L k ++ L k := rfl
theorem catTo_len (L : Nat → List R) (k : Nat) : (catTo L (k + 1)).length = (catTo L k).length + (L k).length := by rw [catTo_succ, List.length_append]
theorem catTo_le (L : Nat → List R) {k n : Nat} (h : k ≤ n) : (catTo L k).length ≤ (catTo L n).length := by
  induction n with
  | zero => obtain rfl : k = 0 := by omega
            exact Nat.le_refl _
  | succ n ih =>
    rcases Nat.lt_or_ge k (n + 1) with h1 | h1
    · have := ih (by omega); rw [catTo_len]; omega
    · obtain rfl : k = n + 1 := by omega
      exact Nat.le_refl _

set_option maxHeartbeats 1000000 in
set_option maxRecDepth 100000 in
theorem concat_any (b n : Nat) (L : Nat → List R) (A : Nat → Option Addr) (C : Nat → Nat) (w : World) (hb : b < w.heap.size) (hn : n ≤ 1000) (hlen : (catTo L n).length ≤ 1000000)
    (hc : ∀ j, j < n → w.cell? ⟨b, 0 + j, none⟩ = some (.slice (A j) (L j).length (C j))) (hr : ∀ j, j < n → Rgs w w.heap.size (A j) (L j)) :
    Calls Try.prog 44 #[.slice (some ⟨b, 0, none⟩) n n] w (RetR (catTo L n) w) := by
  have HC := Lib.hid hc; have HR := Lib.hid hr
  clear hc hr
  go_enter Try.func44, Try.ntmps44
  go_wp2
  go_loopw [3, 11] (fun s t wr => ∃ k : Nat, k ≤ n ∧ t = .int .i64 k ∧ s = .int .i64 (catTo L k).length ∧ Below w.heap.size w wr) (fun _ t _ => n - (intOf t).toNat)
  case atStart => exact ⟨0, by omega, rfl, rfl, Below.refl _ _⟩
  case round =>
    obtain ⟨k, hk, rfl, rfl, hb2⟩ := hrel
    by_cases hkn : k < n
    · have f1 : wr.cell? ⟨b, 0 + k, none⟩ = some (.slice (A k) (L k).length (C k)) := (hb2.cell (p := ⟨b, 0 + k, none⟩) hb).trans (HC.out k hkn)
      rw [Nat.zero_add] at f1
      have hk1 : (k : Int) < (n : Int) := by omega
      have HT := Lib.hid (catTo_len L k)
      have hle := Lib.hid (catTo_le L (show k + 1 ≤ n from hkn))
      have h1 := hle.out; have h2 := HT.out
      rw [h2] at h1
      clear h2
      generalize (catTo L k).length = s at *
      generalize (L k).length = m at *
      generalize (catTo L n).length = tt at *
      clear hle
      have w1 : IntKind.i64.wrap ((s : Int) + (m : Int)) = (s : Int) + m := IntWalk.i64_in _ (by omega)
      have hneg : decide ((s : Int) + (m : Int) < 0) = false := by simp; omega
      go_wp2
      go_roundw
      case rel => exact ⟨k + 1, by omega, by go_num, congrArg (Value.int .i64) (by rw [HT.out]; omega), hb2⟩
      case measure => simp [intOf]; omega
    · have hk1 : decide (k < n) = false := by simp; omega
      obtain rfl : k = n := by omega
      have HG := Lib.hid (grow_any (catTo L k).length wr hlen)
      have HLEN := Lib.hid hlen
      generalize hs : (catTo L k).length = s at HG hlen
      clear hs
      go_wp2_with (go_at_call 54; refine HG.out.mono ?_; rintro e w1 ⟨v, rfl, hown, hb3⟩)
      have HO := Lib.hid (hown.less hb2.size)
      have hb4 := bel_trans hb2 hb3
      clear hown hb3 HG
      rename World => w1'
      go_wp2
      go_loopw [6, 27] (fun v t wr => ∃ j : Nat, j ≤ k ∧ t = .int .i64 j ∧ Ow wr w.heap.size v (catTo L j) ∧ Below w.heap.size w wr) (fun _ t _ => k - (intOf t).toNat)
      case atStart => exact ⟨0, by omega, rfl, HO.out, hb4⟩
      case round =>
        obtain ⟨j, hj, rfl, hown, hb5⟩ := hrel
        by_cases hjk : j < k
        · have f1 : wr.cell? ⟨b, 0 + j, none⟩ = some (.slice (A j) (L j).length (C j)) := (hb5.cell (p := ⟨b, 0 + j, none⟩) hb).trans (HC.out j hjk)
          rw [Nat.zero_add] at f1
          have hj1 : (j : Int) < (k : Int) := by omega
          obtain ⟨v', w', hrun, hown', hg⟩ := append_src (c := C j) 22 hown (((HR.out j hjk).below hb5).more hb5.size) (rgs_none (HR.out j hjk)) (by
            have h1 := catTo_le L (show j + 1 ≤ k from hjk)
            rw [catTo_len] at h1
            have := HLEN.out
            omega) hb5.size
          have R2 := hb5.grown hg hb5.size (fun k hk => (hown.lt k hk).1)
          have R1 := Lib.hid hown'
          have HRUN := Lib.hid hrun
          clear hown' hrun hown hg
          generalize (L j).length = m at *
          go_wp2_with (at_builtin; refine Lib.wpList_append_run _ rfl _ _ _ _ rfl _ _ rfl rfl _ _ HRUN.out ?_)
          go_roundw
          case rel => exact ⟨j + 1, by omega, by go_num, R1.out, R2⟩
          case measure => simp [intOf]; omega
        · have hj1 : decide (j < k) = false := by simp; omega
          obtain rfl : j = k := by omega
          have HO2 := Lib.hid hown
          clear hown
          go_wp2
          go_ret
          exact ⟨_, rfl, HO2.out, hb5⟩

theorem two_slices (w : World) (a b : Value) : ∀ j, j < 2 → (w.alloc (.cells #[a, b] 22)).cell? ⟨w.heap.size, 0 + j, none⟩ = some (if j = 0 then a else b) := by
  intro j hj
  rcases (show j = 0 ∨ j = 1 by omega) with rfl | rfl <;> simp
theorem three_slices (w : World) (a b c : Value) : ∀ j, j < 3 → (w.alloc (.cells #[a, b, c] 22)).cell? ⟨w.heap.size, 0 + j, none⟩ = some (if j = 0 then a else if j = 1 then b else c) := by
  intro j hj
  rcases (show j = 0 ∨ j = 1 ∨ j = 2 by omega) with rfl | rfl | rfl <;> simp
theorem concat2_any (A1 A2 : Option Addr) (c1 c2 : Nat) (a b : List R) (w : World) (h1 : Rgs w w.heap.size A1 a) (h2 : Rgs w w.heap.size A2 b) (hl : a.length + b.length ≤ 1000000) :
    Calls Try.prog 44 #[.slice (some ⟨w.heap.size, 0, none⟩) 2 2] (w.alloc (.cells #[.slice A1 a.length c1, .slice A2 b.length c2] 22)) (RetR (a ++ b) (w.alloc (.cells #[.slice A1 a.length c1, .slice A2 b.length c2] 22))) := by
  have hb := (Below.refl w.heap.size w).alloc (Nat.le_refl _) (.cells #[.slice A1 a.length c1, .slice A2 b.length c2] 22)
  have h := concat_any w.heap.size 2 (fun j => if j = 0 then a else b) (fun j => if j = 0 then A1 else A2) (fun j => if j = 0 then c1 else c2) (w.alloc (.cells #[.slice A1 a.length c1, .slice A2 b.length c2] 22)) (by simp) (by omega) (by simpa [catTo] using hl)
    (fun j hj => by
      rw [two_slices w _ _ j hj]
      rcases (show j = 0 ∨ j = 1 by omega) with rfl | rfl <;> simp)
    (fun j hj => by
      rcases (show j = 0 ∨ j = 1 by omega) with rfl | rfl
      · exact h1.on hb
      · exact h2.on hb)
  simpa [catTo] using h
theorem concat3_any (A1 A2 A3 : Option Addr) (c1 c2 c3 : Nat) (a b d : List R) (w : World) (h1 : Rgs w w.heap.size A1 a) (h2 : Rgs w w.heap.size A2 b) (h3 : Rgs w w.heap.size A3 d) (hl : a.length + (b.length + d.length) ≤ 1000000) :
    Calls Try.prog 44 #[.slice (some ⟨w.heap.size, 0, none⟩) 3 3] (w.alloc (.cells #[.slice A1 a.length c1, .slice A2 b.length c2, .slice A3 d.length c3] 22)) (RetR (a ++ (b ++ d)) (w.alloc (.cells #[.slice A1 a.length c1, .slice A2 b.length c2, .slice A3 d.length c3] 22))) := by
  have hb := (Below.refl w.heap.size w).alloc (Nat.le_refl _) (.cells #[.slice A1 a.length c1, .slice A2 b.length c2, .slice A3 d.length c3] 22)
  have h := concat_any w.heap.size 3 (fun j => if j = 0 then a else if j = 1 then b else d) (fun j => if j = 0 then A1 else if j = 1 then A2 else A3) (fun j => if j = 0 then c1 else if j = 1 then c2 else c3) (w.alloc (.cells #[.slice A1 a.length c1, .slice A2 b.length c2, .slice A3 d.length c3] 22)) (by simp) (by omega) (by simp [catTo]; omega)
    (fun j hj => by
      rw [three_slices w _ _ _ j hj]
      rcases (show j = 0 ∨ j = 1 ∨ j = 2 by omega) with rfl | rfl | rfl <;> simp)
    (fun j hj => by
      rcases (show j = 0 ∨ j = 1 ∨ j = 2 by omega) with rfl | rfl | rfl
      · exact h1.on hb
      · exact h2.on hb
      · exact h3.on hb)
  simpa [catTo] using h

set_option maxHeartbeats 1000000 in
theorem or_any (A1 A2 : Option Addr) (c1 c2 : Nat) (a b : List R) (w : World) (h1 : Rgs w w.heap.size A1 a) (h2 : Rgs w w.heap.size A2 b) (hl : a.length + b.length ≤ 1000000) :
    Calls Try.prog 21 #[.slice A1 a.length c1, .slice A2 b.length c2] w (RetR (orL a b) w) := by
  have HC := Lib.hid (concat2_any A1 A2 c1 c2 a b w h1 h2 hl)
  have hb := (Below.refl w.heap.size w).alloc (Nat.le_refl _) (.cells #[.slice A1 a.length c1, .slice A2 b.length c2] 22)
  have HN := Lib.hid (show ∀ (A : Option Addr) (c : Nat) (w' : World), Rgs w' w'.heap.size A (a ++ b) → Calls Try.prog 14 #[.slice A (a ++ b).length c] w' (RetR (orL a b) w') from fun A c w' h => norm_any A c (a ++ b) w' h (by simpa using hl))
  generalize orL a b = o at *
  generalize a ++ b = ab at *
  generalize a.length = n1 at *
  generalize b.length = n2 at *
  clear h1 h2
  have HB := Lib.hid hb
  go_enter Try.func21, Try.ntmps21
  go_wp2_with (first | (go_at_call 44; refine HC.out.mono ?_; rintro e w1 ⟨v, rfl, hown, hb2⟩; obtain ⟨Av, cap, rfl, hcp1, hcp2, hr, _⟩ := hown.shape; have HR := Lib.hid hr; clear hr hown hcp1 hcp2) | (go_at_call 14; refine (HN.out _ _ _ HR.out).mono ?_; rintro e w2 ⟨v2, rfl, hown2, hb3⟩))
  go_ret
  exact ⟨_, rfl, hown2.less (bel_trans HB.out hb2).size, bel_trans (bel_trans HB.out hb2) hb3⟩
end Go.Proofs.Ytfjcljhodnkieaa
