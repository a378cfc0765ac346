/-
  Plain: classes of a range of two symbols as they are written with escapes; the words of the four fixed texts. No program, no conditions but those written.
-/
import Derived.Test.YtekpliookdihlaaDoorJA
import Derived.Test.YtekpliookdihlaaDoorUB
namespace Go.Proofs.YtekpliookdihlaaDoor
open ObUtf ObSets ObLex

theorem unit_cend {s : ByteArray} {p : Nat} {x : Int} {n : Nat} (hp : p < s.size) (hu : unit s p = .one x n) : cend s p = cend s (p + n) := by
  unfold unit at hu
  by_cases h92 : bt s p = 92
  · rw [if_pos h92] at hu
    rw [cend_two h92, esc_one_wd hu, Nat.add_assoc]
  · rw [if_neg h92] at hu
    by_cases h2 : bt s p = 45 ∨ bt s p = 93
    · rw [if_pos h2] at hu; cases hu
    · rw [if_neg h2] at hu
      injection hu with _ hn
      rw [cend_step hp (by omega) h92, hn]
/-- A symbol as it stands in a class. -/
def o92 : ByteArray := ⟨#[92]⟩
def needs (x : Int) : Bool := decide (x = 92 ∨ x = 93 ∨ x = 45 ∨ x = 94)
def eb (x : Int) : ByteArray := if needs x = true then o92 ++ U.bytesB x else U.bytesB x
theorem eb_unit {x : Int} (h : U.goodB x = true) : unit (eb x) 0 = .one x (eb x).size ∧ 0 < (eb x).size ∧ bt (eb x) 0 ≠ 94 ∧ (bt (eb x) 0 = 92 → 0 + 1 < (eb x).size) := by
  obtain ⟨e1, e2, e3⟩ := U.enc_at x h
  by_cases hn : needs x = true
  · have ee : eb x = o92 ++ U.bytesB x := by unfold eb; rw [if_pos hn]
    rw [ee]
    have hs : (o92 ++ U.bytesB x).size = 1 + (U.bytesB x).size := size_cat _ _
    have b0 : bt (o92 ++ U.bytesB x) 0 = 92 := bt_left (show 0 < o92.size by decide)
    have s1 : sy (o92 ++ U.bytesB x) (0 + 1) = x := (sy_right o92 (U.bytesB x) 0).trans e1
    have w1 : wd (o92 ++ U.bytesB x) (0 + 1) = (U.bytesB x).size := (wd_right o92 (U.bytesB x) 0).trans e2
    refine ⟨?_, by omega, by omega, fun _ => by omega⟩
    unfold unit
    rw [if_pos b0]
    unfold esc
    rw [s1, w1, hs]
    have hx : x = 92 ∨ x = 93 ∨ x = 45 ∨ x = 94 := by simpa [needs] using hn
    rcases hx with rfl | rfl | rfl | rfl <;> rfl
  · have ee : eb x = U.bytesB x := by unfold eb; rw [if_neg hn]
    rw [ee]
    have hx : ¬ (x = 92 ∨ x = 93 ∨ x = 45 ∨ x = 94) := by simpa [needs] using hn
    have h0 : 0 < (U.bytesB x).size := by omega
    have q1 : bt (U.bytesB x) 0 ≠ 92 := fun e => by have := (is h0 (c := 92) (by omega)).2 e; omega
    have q2 : bt (U.bytesB x) 0 ≠ 93 := fun e => by have := (is h0 (c := 93) (by omega)).2 e; omega
    have q3 : bt (U.bytesB x) 0 ≠ 45 := fun e => by have := (is h0 (c := 45) (by omega)).2 e; omega
    have q4 : bt (U.bytesB x) 0 ≠ 94 := fun e => by have := (is h0 (c := 94) (by omega)).2 e; omega
    refine ⟨?_, h0, q4, fun e => absurd e q1⟩
    unfold unit
    rw [if_neg q1, if_neg (by omega), e1, e2]
def o45 : ByteArray := ⟨#[45]⟩
def o91 : ByteArray := ⟨#[91]⟩
def o93 : ByteArray := ⟨#[93]⟩
def o94 : ByteArray := ⟨#[94]⟩
/-- A range as it stands in a class, with the class's end. -/
def rg (lo hi : Int) : ByteArray := eb lo ++ (o45 ++ (eb hi ++ o93))
theorem fresh_45 (r : ByteArray) : Fresh (o45 ++ r) := fun _ => by
  left
  have : bt (o45 ++ r) 0 = 45 := bt_left (show 0 < o45.size by decide)
  omega
theorem fresh_93 : Fresh o93 := fun _ => by left; decide
section
variable {lo hi : Int} (h1 : U.goodB lo = true) (h2 : U.goodB hi = true)
include h1 h2
theorem rg_facts : cend (rg lo hi) 0 = some ((eb lo).size + (1 + (eb hi).size)) ∧ unit (rg lo hi) 0 = .one lo (eb lo).size ∧ bt (rg lo hi) (eb lo).size = 45 ∧ unit (rg lo hi) ((eb lo).size + 1) = .one hi (eb hi).size ∧ bt (rg lo hi) 0 ≠ 94 := by
  obtain ⟨a1, a2, a3, a4⟩ := eb_unit h1
  obtain ⟨b1, b2, b3, b4⟩ := eb_unit h2
  have u1 : unit (rg lo hi) 0 = .one lo (eb lo).size := (unit_left (fresh_45 _) a2 a4).trans a1
  have d1 : bt (rg lo hi) (eb lo).size = 45 := (bt_right (eb lo) _ 0).trans (bt_left (show 0 < o45.size by decide))
  have u2 : unit (rg lo hi) ((eb lo).size + 1) = .one hi (eb hi).size := (unit_right (eb lo) _ 1).trans ((unit_right o45 (eb hi ++ o93) 0).trans ((unit_left fresh_93 b2 b4).trans b1))
  have s1 : (rg lo hi).size = (eb lo).size + (1 + ((eb hi).size + 1)) := by
    unfold rg; rw [size_cat, size_cat, size_cat]; rfl
  refine ⟨?_, u1, d1, u2, ?_⟩
  · rw [unit_cend (by omega) u1, Nat.zero_add, cend_low (by omega) (by omega) (by omega) (by omega), unit_cend (by omega) u2]
    have d2 : bt (rg lo hi) ((eb lo).size + (1 + ((eb hi).size + 0))) = 93 := (bt_right (eb lo) _ _).trans ((bt_right o45 _ _).trans ((bt_right (eb hi) _ 0).trans rfl))
    rw [show (eb lo).size + 1 + (eb hi).size = (eb lo).size + (1 + ((eb hi).size + 0)) by omega, cend_end d2]
    rfl
  · rw [show bt (rg lo hi) 0 = bt (eb lo) 0 from bt_left a2]; exact a3
theorem rg_items (h : lo ≤ hi) : items (rg lo hi) ((eb lo).size + (1 + (eb hi).size)) 0 = .ok [(lo, hi)] := by
  obtain ⟨c1, u1, d1, u2, _⟩ := rg_facts h1 h2
  have hi' : item (rg lo hi) 0 = .ok ([(lo, hi)], (eb lo).size + (1 + (eb hi).size)) := by
    unfold item
    rw [u1]
    dsimp only
    rw [Nat.zero_add, if_pos d1, u2]
    dsimp only
    rw [if_neg (by omega), Nat.add_assoc]
  rw [items_ok (by omega) hi' (by omega), items_end (Nat.le_refl _)]
  rfl
theorem rg_items_bad (h : hi < lo) : items (rg lo hi) ((eb lo).size + (1 + (eb hi).size)) 0 = .error (4, 0) := by
  obtain ⟨c1, u1, d1, u2, _⟩ := rg_facts h1 h2
  refine items_bad (by omega) ?_
  unfold item
  rw [u1]
  dsimp only
  rw [Nat.zero_add, if_pos d1, u2]
  dsimp only
  rw [if_pos h]
end
theorem cls_of {s : ByteArray} {i to : Nat} {l : List R} (hc : cend s (i + 1) = some to) (hn : bt s (i + 1) ≠ 94) (ht : to ≠ i + 1) (hi : items s to (i + 1) = .ok l) : cls s i = .ok (nrm l, to + 1) := by
  unfold cls
  rw [hc]
  dsimp only
  rw [if_neg hn, if_neg ht, hi]
  dsimp only
  rw [if_neg hn]
theorem cls_of_bad {s : ByteArray} {i to : Nat} {f : F} (hc : cend s (i + 1) = some to) (hn : bt s (i + 1) ≠ 94) (ht : to ≠ i + 1) (hi : items s to (i + 1) = .error f) : cls s i = .error f := by
  unfold cls
  rw [hc]
  dsimp only
  rw [if_neg hn, if_neg ht, hi]
theorem cls_not {s : ByteArray} {i to : Nat} {l : List R} (hc : cend s (i + 1) = some to) (hn : bt s (i + 1) = 94) (ht : to ≠ i + 2) (hi : items s to (i + 2) = .ok l) : cls s i = .ok (notL l, to + 1) := by
  unfold cls
  rw [hc]
  dsimp only
  rw [if_pos hn, if_neg ht, hi]
  dsimp only
  rw [if_pos hn]
theorem word_cls {s : ByteArray} {i : Nat} {l : List R} {j : Nat} (h : bt s i = 91) (hc : cls s i = .ok (l, j)) : word s i = .ok (⟨1, i, l, 0, 0⟩, j) := by
  unfold word
  dsimp only
  rw [if_neg (by omega), if_pos h, hc]
theorem word_cls_bad {s : ByteArray} {i : Nat} {f : F} (h : bt s i = 91) (hc : cls s i = .error f) : word s i = .error f := by
  unfold word
  dsimp only
  rw [if_neg (by omega), if_pos h, hc]
theorem word_br {s : ByteArray} {i : Nat} {k m n : Int} {j : Nat} (h : bt s i = 123) (hc : braces s i = .ok (k, m, n, j)) : word s i = .ok (⟨k, i, [], m, n⟩, j) := by
  unfold word
  dsimp only
  rw [if_neg (by omega), if_neg (by omega), if_pos h, hc]
theorem word_br_bad {s : ByteArray} {i : Nat} {f : F} (h : bt s i = 123) (hc : braces s i = .error f) : word s i = .error f := by
  unfold word
  dsimp only
  rw [if_neg (by omega), if_neg (by omega), if_pos h, hc]
section
variable {lo hi : Int} (h1 : U.goodB lo = true) (h2 : U.goodB hi = true)
include h1 h2
/-- [lo-hi] -/
theorem cls_rg (h : lo ≤ hi) : word (o91 ++ rg lo hi) 0 = .ok (⟨1, 0, nrm [(lo, hi)], 0, 0⟩, (o91 ++ rg lo hi).size) := by
  obtain ⟨c1, _, _, _, n1⟩ := rg_facts h1 h2
  have s1 : (o91 ++ rg lo hi).size = 1 + ((eb lo).size + (1 + ((eb hi).size + 1))) := by
    unfold rg; rw [size_cat, size_cat, size_cat, size_cat]; rfl
  have c2 : cend (o91 ++ rg lo hi) (0 + 1) = some (1 + ((eb lo).size + (1 + (eb hi).size))) := by
    have := cend_right o91 (rg lo hi) _ 0 (Nat.le_refl _)
    rw [c1] at this; exact this
  have n2 : bt (o91 ++ rg lo hi) (0 + 1) ≠ 94 := by
    have : bt (o91 ++ rg lo hi) (0 + 1) = bt (rg lo hi) 0 := bt_right o91 (rg lo hi) 0
    rw [this]; exact n1
  have i2 : items (o91 ++ rg lo hi) (1 + ((eb lo).size + (1 + (eb hi).size))) (0 + 1) = .ok [(lo, hi)] := by
    have := items_right o91 (rg lo hi) (to := (eb lo).size + (1 + (eb hi).size)) _ 0 (Nat.le_refl _) c1
    rw [rg_items h1 h2 h] at this; exact this
  have hc := cls_of c2 n2 (by omega) i2
  rw [word_cls (bt_left (show 0 < o91.size by decide)) hc, s1]
  rfl
/-- [^lo-hi] -/
theorem cls_not_rg (h : lo ≤ hi) : word (o91 ++ (o94 ++ rg lo hi)) 0 = .ok (⟨1, 0, notL [(lo, hi)], 0, 0⟩, (o91 ++ (o94 ++ rg lo hi)).size) := by
  obtain ⟨c1, _, _, _, n1⟩ := rg_facts h1 h2
  have s1 : (o91 ++ (o94 ++ rg lo hi)).size = 1 + (1 + ((eb lo).size + (1 + ((eb hi).size + 1)))) := by
    unfold rg; rw [size_cat, size_cat, size_cat, size_cat, size_cat]; rfl
  have b1 : bt (o94 ++ rg lo hi) 0 = 94 := bt_left (show 0 < o94.size by decide)
  have c2 : cend (o94 ++ rg lo hi) 0 = some (1 + ((eb lo).size + (1 + (eb hi).size))) := by
    rw [cend_low (by omega) (by omega) (by omega) (by omega)]
    have := cend_right o94 (rg lo hi) _ 0 (Nat.le_refl _)
    rw [c1] at this; exact this
  have c3 : cend (o91 ++ (o94 ++ rg lo hi)) (0 + 1) = some (1 + (1 + ((eb lo).size + (1 + (eb hi).size)))) := by
    have := cend_right o91 (o94 ++ rg lo hi) _ 0 (Nat.le_refl _)
    rw [c2] at this; exact this
  have n2 : bt (o91 ++ (o94 ++ rg lo hi)) (0 + 1) = 94 := (bt_right o91 (o94 ++ rg lo hi) 0).trans b1
  have c4 : cend (o94 ++ rg lo hi) 1 = some (1 + ((eb lo).size + (1 + (eb hi).size))) := by
    have := cend_right o94 (rg lo hi) _ 0 (Nat.le_refl _)
    rw [c1] at this; exact this
  have i1 : items (o94 ++ rg lo hi) (1 + ((eb lo).size + (1 + (eb hi).size))) 1 = .ok [(lo, hi)] := by
    have := items_right o94 (rg lo hi) (to := (eb lo).size + (1 + (eb hi).size)) _ 0 (Nat.le_refl _) c1
    rw [rg_items h1 h2 h] at this; exact this
  have i2 : items (o91 ++ (o94 ++ rg lo hi)) (1 + (1 + ((eb lo).size + (1 + (eb hi).size)))) (0 + 2) = .ok [(lo, hi)] := by
    have := items_right o91 (o94 ++ rg lo hi) _ 1 (Nat.le_refl _) c4
    rw [i1] at this; exact this
  have hc := cls_not c3 n2 (by omega) i2
  rw [word_cls (bt_left (show 0 < o91.size by decide)) hc, s1]
  rfl
/-- [hi-lo], turned about -/
theorem cls_rg_bad (h : hi < lo) : word (o91 ++ rg lo hi) 0 = .error (4, 1) := by
  obtain ⟨c1, _, _, _, n1⟩ := rg_facts h1 h2
  have c2 : cend (o91 ++ rg lo hi) (0 + 1) = some (1 + ((eb lo).size + (1 + (eb hi).size))) := by
    have := cend_right o91 (rg lo hi) _ 0 (Nat.le_refl _)
    rw [c1] at this; exact this
  have n2 : bt (o91 ++ rg lo hi) (0 + 1) ≠ 94 := by
    have : bt (o91 ++ rg lo hi) (0 + 1) = bt (rg lo hi) 0 := bt_right o91 (rg lo hi) 0
    rw [this]; exact n1
  have i2 : items (o91 ++ rg lo hi) (1 + ((eb lo).size + (1 + (eb hi).size))) (0 + 1) = .error (4, 1) := by
    have := items_right o91 (rg lo hi) (to := (eb lo).size + (1 + (eb hi).size)) _ 0 (Nat.le_refl _) c1
    rw [rg_items_bad h1 h2 h] at this; exact this
  exact word_cls_bad (bt_left (show 0 < o91.size by decide)) (cls_of_bad c2 n2 (by omega) i2)
end
end Go.Proofs.YtekpliookdihlaaDoor
