/-
  Plain: the words of the four texts that the statements fix. No program, no conditions.
-/
import Derived.Test.YtekpliookdihlaaDoorJ5
namespace Go.Proofs.YtekpliookdihlaaDoor
open ObUtf ObSets ObLex

abbrev k1 : ByteArray := ⟨#[97, 123, 126, 50, 125, 91, 94, 98, 93]⟩
abbrev k2 : ByteArray := ⟨#[97, 92, 49]⟩
abbrev k3 : ByteArray := ⟨#[97, 123, 51, 44, 50, 125]⟩
abbrev k4 : ByteArray := ⟨#[91, 97]⟩
theorem dg_y {s : ByteArray} {i : Nat} (h1 : 48 ≤ bt s i) (h2 : bt s i ≤ 57) : dg s i = dg s (i + 1) + 1 := by rw [dg, dif_pos (bt_in (by omega)), if_pos ⟨h1, h2⟩]
theorem dg_n {s : ByteArray} {i : Nat} (h : bt s i < 48 ∨ 57 < bt s i) : dg s i = 0 := by
  rw [dg]
  split
  · first | rfl | rw [if_neg (by omega)]
  · rfl
theorem k1_a : word k1 0 = .ok (⟨1, 0, [(97, 97)], 0, 0⟩, 1) := by rfl
theorem k1_b : word k1 1 = .ok (⟨7, 1, [], 2, 0⟩, 5) := by
  refine word_br (by decide) ?_
  have e : dg k1 3 = 1 := by rw [dg_y (by decide) (by decide), dg_n (by decide)]
  unfold braces num
  dsimp only
  rw [if_pos (by decide), e, if_neg (by decide), if_neg (by decide)]
  rfl
theorem k1_c : word k1 5 = .ok (⟨1, 5, notL [(98, 98)], 0, 0⟩, 9) := by
  have c8 : cend k1 8 = some 8 := cend_end (by decide)
  have c7 : cend k1 7 = some 8 := by rw [cend_low (by decide) (by decide) (by decide) (by decide)]; exact c8
  have c6 : cend k1 6 = some 8 := by rw [cend_low (by decide) (by decide) (by decide) (by decide)]; exact c7
  have it : item k1 7 = .ok ([(98, 98)], 8) := by rfl
  have its : items k1 8 7 = .ok [(98, 98)] := by rw [items_ok (by decide) it (by decide), items_end (Nat.le_refl _)]; rfl
  exact word_cls (by decide) (cls_not (i := 5) c6 (by decide) (by decide) its)
theorem k2_a : word k2 0 = .ok (⟨1, 0, [(97, 97)], 0, 0⟩, 1) := by rfl
theorem k2_b : word k2 1 = .error (5, 1) := by rfl
theorem k3_a : word k3 0 = .ok (⟨1, 0, [(97, 97)], 0, 0⟩, 1) := by rfl
theorem k3_b : word k3 1 = .error (7, 4) := by
  refine word_br_bad (by decide) ?_
  have e : dg k3 2 = 1 := by rw [dg_y (by decide) (by decide), dg_n (by decide)]
  have e2 : dg k3 4 = 1 := by rw [dg_y (by decide) (by decide), dg_n (by decide)]
  unfold braces num
  dsimp only
  rw [if_neg (by decide), e, if_neg (by decide), if_pos (by decide), e2, if_neg (by decide), if_neg (by decide), if_neg (by decide), if_pos (by decide)]
theorem k4_a : word k4 0 = .error (4, 0) := by
  refine word_cls_bad (by decide) ?_
  unfold cls
  rw [cend_low (k := 0 + 1) (by decide) (by decide) (by decide) (by decide), cend_out (by decide)]
end Go.Proofs.YtekpliookdihlaaDoor
