/-
  What the page's own Words and Tokens answer: a text's words, or its first fault. Conditions: the text has at most 100000 bytes.
-/
import Derived.Test.YtceeimolfalmpaaDoorL17
namespace Go.Proofs.YtceeimolfalmpaaDoor
open Go.RowKit ObUtf ObSets ObLex

theorem braces_fit {s : ByteArray} {i : Nat} {k a b : Int} {j : Nat} (h : braces s i = .ok (k, a, b, j)) : j ≤ s.size := by
  revert h
  unfold braces
  dsimp only
  intro h
  have fin : ∀ {x : Int × Int × Int × Nat}, x.2.2.2 ≤ s.size → (Except.ok x : Res _) = .ok (k, a, b, j) → j ≤ s.size := fun hx e => by injection e with e; subst e; exact hx
  by_cases h1 : bt s (i + 1) = 126
  · rw [if_pos h1] at h
    by_cases h2 : dg s (i + 2) = 0 ∨ bt s (i + 2 + dg s (i + 2)) ≠ 125
    · rw [if_pos h2] at h; cases h
    · rw [if_neg h2] at h
      have hl : i + 2 + dg s (i + 2) < s.size := bt_in (by omega)
      by_cases h3 : 255 < num s (i + 2)
      · rw [if_pos h3] at h; cases h
      · rw [if_neg h3] at h; exact fin (by dsimp only; omega) h
  · rw [if_neg h1] at h
    by_cases h2 : dg s (i + 1) = 0
    · rw [if_pos h2] at h; cases h
    · rw [if_neg h2] at h
      by_cases h3 : bt s (i + 1 + dg s (i + 1)) = 44
      · rw [if_pos h3] at h
        by_cases h4 : bt s (i + 1 + dg s (i + 1) + 1 + dg s (i + 1 + dg s (i + 1) + 1)) ≠ 125
        · rw [if_pos h4] at h; cases h
        · rw [if_neg h4] at h
          have hl : i + 1 + dg s (i + 1) + 1 + dg s (i + 1 + dg s (i + 1) + 1) < s.size := bt_in (by omega)
          by_cases h5 : 255 < num s (i + 1)
          · rw [if_pos h5] at h; cases h
          · rw [if_neg h5] at h
            by_cases h6 : dg s (i + 1 + dg s (i + 1) + 1) = 0
            · rw [if_pos h6] at h; exact fin (by dsimp only; omega) h
            · rw [if_neg h6] at h
              by_cases h7 : 255 < num s (i + 1 + dg s (i + 1) + 1) ∨ num s (i + 1 + dg s (i + 1) + 1) < num s (i + 1)
              · rw [if_pos h7] at h; cases h
              · rw [if_neg h7] at h; exact fin (by dsimp only; omega) h
      · rw [if_neg h3] at h
        by_cases h4 : bt s (i + 1 + dg s (i + 1)) = 125
        · rw [if_pos h4] at h
          have hl : i + 1 + dg s (i + 1) < s.size := bt_in (by omega)
          by_cases h5 : 255 < num s (i + 1)
          · rw [if_pos h5] at h; cases h
          · rw [if_neg h5] at h; exact fin (by dsimp only; omega) h
        · rw [if_neg h4] at h; cases h
theorem cls_fit {s : ByteArray} {i : Nat} {l : List R} {j : Nat} (h : cls s i = .ok (l, j)) : j ≤ s.size := by
  revert h
  unfold cls
  cases hc : cend s (i + 1) with
  | none => intro h; cases h
  | some to =>
    have := cend_some hc
    dsimp only
    generalize (if bt s (i + 1) = 94 then i + 2 else i + 1) = f
    intro h
    by_cases ht : to = f
    · rw [if_pos ht] at h; cases h
    · rw [if_neg ht] at h
      cases hr : items s to f with
      | error e => rw [hr] at h; cases h
      | ok m => rw [hr] at h; injection h with h; injection h with _ h; omega
theorem word_fit {s : ByteArray} {i : Nat} {t : T} {j : Nat} (hi : i < s.size) (h : word s i = .ok (t, j)) : j ≤ s.size := by
  have hw : i + wd s i ≤ s.size := wd_fit (by omega)
  have hw1 : i + 1 + wd s (i + 1) ≤ s.size := wd_fit (by omega)
  have fin : ∀ {x : T × Nat}, x.2 ≤ s.size → (Except.ok x : Res _) = .ok (t, j) → j ≤ s.size := fun hx e => by injection e with e; subst e; exact hx
  revert h
  unfold word
  dsimp only
  intro h
  by_cases h1 : bt s i = 92
  · rw [if_pos h1] at h
    cases he : esc s i with
    | bad e => rw [he] at h; cases h
    | one x n => rw [he] at h; have := esc_one_wd he; exact fin (by dsimp only; omega) h
    | many l => rw [he] at h; have := esc_many_wd he; exact fin (by dsimp only; omega) h
  · rw [if_neg h1] at h
    by_cases h2 : bt s i = 91
    · rw [if_pos h2] at h
      cases hc : cls s i with
      | error f => rw [hc] at h; cases h
      | ok y => obtain ⟨l, q⟩ := y; rw [hc] at h; exact fin (cls_fit hc) h
    · rw [if_neg h2] at h
      by_cases h3 : bt s i = 123
      · rw [if_pos h3] at h
        cases hb : braces s i with
        | error f => rw [hb] at h; cases h
        | ok y => obtain ⟨k, a, b, q⟩ := y; rw [hb] at h; exact fin (braces_fit hb) h
      · rw [if_neg h3] at h
        by_cases h4 : bt s i = 93 ∨ bt s i = 125
        · rw [if_pos h4] at h; cases h
        · rw [if_neg h4] at h
          by_cases h5 : bt s i = 46
          · rw [if_pos h5] at h; exact fin (by dsimp only; omega) h
          · rw [if_neg h5] at h
            by_cases h6 : bt s i = 40
            · rw [if_pos h6] at h
              by_cases h7 : bt s (i + 1) = 63 ∧ bt s (i + 2) = 58
              · rw [if_pos h7] at h
                have : i + 2 < s.size := bt_in (by omega)
                exact fin (by dsimp only; omega) h
              · rw [if_neg h7] at h; exact fin (by dsimp only; omega) h
            · rw [if_neg h6] at h
              revert h
              repeat' split
              all_goals exact fin (by dsimp only; omega)
theorem Tk.drew1 {w : World} {B : Nat} {v : Value} {l : List T} (h : Tk w B v l) : Tk w.drew B v l := h.below (Below.refl _ _).drew
theorem Tk.new1 {w : World} {B : Nat} {v : Value} {l : List T} (h : Tk w B v l) (o : Obj) : Tk (w.alloc o) B v l := h.below ((Below.refl _ w).alloc (Nat.le_refl _) o)
theorem Tk.set1 {w : World} {B r : Nat} {v : Value} {l : List T} (h : Tk w B v l) (hr : r < B) (k : Nat) (u : Value) : Tk (w.setCell ⟨r, k, none⟩ u) B v l := h.ex (Ex.one r w k u) hr
/-- What Words hands back. -/
def RetV (r : Res (List T)) (w : World) (e : Ending) (w' : World) : Prop :=
  match r with
  | .error (er, a) => (∃ A n k, e = .returned (.tuple #[.slice A n k, fv er (a : Int)])) ∧ Below w.heap.size w w' ∧ (er = 4 ∨ er = 5 ∨ er = 7)
  | .ok l => ∃ A k, e = .returned (.tuple #[.slice A l.length k, fv 0 0]) ∧ Tk w' w.heap.size (.slice A l.length k) l ∧ Below w.heap.size w w'
end Go.Proofs.YtceeimolfalmpaaDoor
