/-
  Plain: where the first fault of a text's words stands at most, and where its words stand. No program, no conditions but those written.
-/
import Derived.Test.YtekpliookdihlaaDoorJ7
namespace Go.Proofs.YtekpliookdihlaaDoor
open ObUtf ObSets ObLex

theorem err_at {α : Type} {e f : Int} {p q : Nat} (h : (Except.error (e, p) : Res α) = .error (f, q)) : p = q := by injection h with h; injection h
theorem unit_n {s : ByteArray} {p : Nat} {x : Int} {n : Nat} (h : unit s p = .one x n) : n ≤ 5 := by
  have hw := wd_le s (p + 1)
  have hw0 := wd_le s p
  unfold unit at h
  split at h
  · have := esc_one_wd h; omega
  · split at h
    · cases h
    · injection h with _ h; omega
theorem item_err {s : ByteArray} {p : Nat} {e : Int} {q : Nat} (h : item s p = .error (e, q)) : q ≤ p + 5 := by
  unfold item at h
  split at h
  · have := err_at h; omega
  · cases h
  · rename_i x n hu
    have hn := unit_n hu
    split at h
    · split at h
      · split at h
        · have := err_at h; omega
        · cases h
      · have := err_at h; omega
    · cases h
theorem items_err {s : ByteArray} {to : Nat} : ∀ (n p : Nat) (e : Int) (q : Nat), to - p ≤ n → items s to p = .error (e, q) → q ≤ to + 5
  | 0, p, e, q, hn, h => by rw [items_end (by omega)] at h; cases h
  | n + 1, p, e, q, hn, h => by
    by_cases hp : p < to
    · cases hi : item s p with
      | error f =>
        obtain ⟨e', q'⟩ := f
        rw [items_bad hp hi] at h
        have := err_at h
        have := item_err hi
        omega
      | ok y =>
        obtain ⟨m, q'⟩ := y
        by_cases hq : p < q'
        · rw [items_ok hp hi hq] at h
          cases hr : items s to q' with
          | error f =>
            obtain ⟨e2, q2⟩ := f
            rw [hr] at h
            have h1 := err_at (α := List R) h
            have h2 := items_err n q' e2 q2 (by omega) hr
            omega
          | ok l2 => rw [hr] at h; cases h
        · rw [items, dif_pos hp, hi] at h
          dsimp only at h
          rw [dif_neg hq] at h
          have := err_at h
          omega
    · rw [items_end (by omega)] at h; cases h
theorem cls_err {s : ByteArray} {i : Nat} {e : Int} {q : Nat} (hi : i < s.size) (h : cls s i = .error (e, q)) : q ≤ s.size + 5 := by
  revert h
  unfold cls
  cases hc : cend s (i + 1) with
  | none => intro h; have := err_at h; omega
  | some to =>
    have := cend_some hc
    dsimp only
    generalize (if bt s (i + 1) = 94 then i + 2 else i + 1) = f
    intro h
    by_cases ht : to = f
    · rw [if_pos ht] at h; have := err_at h; omega
    · rw [if_neg ht] at h
      cases hr : items s to f with
      | error g =>
        obtain ⟨e2, q2⟩ := g
        rw [hr] at h
        have h1 := err_at h
        have h2 := items_err _ f e2 q2 (Nat.le_refl _) hr
        omega
      | ok m => rw [hr] at h; cases h
theorem braces_err {s : ByteArray} {i : Nat} {e : Int} {q : Nat} (hi : i < s.size) (h : braces s i = .error (e, q)) : q ≤ s.size + 5 := by
  revert h
  unfold braces
  dsimp only
  intro h
  by_cases h1 : bt s (i + 1) = 126
  · rw [if_pos h1] at h
    by_cases h2 : dg s (i + 2) = 0 ∨ bt s (i + 2 + dg s (i + 2)) ≠ 125
    · rw [if_pos h2] at h; have := err_at h; omega
    · rw [if_neg h2] at h
      by_cases h3 : 255 < num s (i + 2)
      · rw [if_pos h3] at h; have := err_at h; omega
      · rw [if_neg h3] at h; cases h
  · rw [if_neg h1] at h
    by_cases h2 : dg s (i + 1) = 0
    · rw [if_pos h2] at h; have := err_at h; omega
    · rw [if_neg h2] at h
      by_cases h3 : bt s (i + 1 + dg s (i + 1)) = 44
      · rw [if_pos h3] at h
        have hl : i + 1 + dg s (i + 1) < s.size := bt_in (by omega)
        by_cases h4 : bt s (i + 1 + dg s (i + 1) + 1 + dg s (i + 1 + dg s (i + 1) + 1)) ≠ 125
        · rw [if_pos h4] at h; have := err_at h; omega
        · rw [if_neg h4] at h
          by_cases h5 : 255 < num s (i + 1)
          · rw [if_pos h5] at h; have := err_at h; omega
          · rw [if_neg h5] at h
            by_cases h6 : dg s (i + 1 + dg s (i + 1) + 1) = 0
            · rw [if_pos h6] at h; cases h
            · rw [if_neg h6] at h
              by_cases h7 : 255 < num s (i + 1 + dg s (i + 1) + 1) ∨ num s (i + 1 + dg s (i + 1) + 1) < num s (i + 1)
              · rw [if_pos h7] at h; have := err_at h; omega
              · rw [if_neg h7] at h; cases h
      · rw [if_neg h3] at h
        by_cases h4 : bt s (i + 1 + dg s (i + 1)) = 125
        · rw [if_pos h4] at h
          by_cases h5 : 255 < num s (i + 1)
          · rw [if_pos h5] at h; have := err_at h; omega
          · rw [if_neg h5] at h; cases h
        · rw [if_neg h4] at h; have := err_at h; omega
theorem word_err {s : ByteArray} {i : Nat} {e : Int} {q : Nat} (hi : i < s.size) (h : word s i = .error (e, q)) : q ≤ s.size + 5 := by
  revert h
  unfold word
  dsimp only
  intro h
  by_cases h1 : bt s i = 92
  · rw [if_pos h1] at h
    cases he : esc s i with
    | bad e => rw [he] at h; have := err_at h; omega
    | one x n => rw [he] at h; cases h
    | many l => rw [he] at h; cases h
  · rw [if_neg h1] at h
    by_cases h2 : bt s i = 91
    · rw [if_pos h2] at h
      cases hc : cls s i with
      | error f =>
        obtain ⟨e2, q2⟩ := f
        rw [hc] at h
        have h1 := err_at h
        have h2 := cls_err hi hc
        omega
      | ok y => obtain ⟨l, j⟩ := y; rw [hc] at h; cases h
    · rw [if_neg h2] at h
      by_cases h3 : bt s i = 123
      · rw [if_pos h3] at h
        cases hc : braces s i with
        | error f =>
          obtain ⟨e2, q2⟩ := f
          rw [hc] at h
          have h1 := err_at h
          have h2 := braces_err hi hc
          omega
        | ok y => obtain ⟨k, a, b, j⟩ := y; rw [hc] at h; cases h
      · rw [if_neg h3] at h
        by_cases h4 : bt s i = 93 ∨ bt s i = 125
        · rw [if_pos h4] at h; have := err_at h; omega
        · rw [if_neg h4] at h
          revert h
          repeat' split
          all_goals (intro h; cases h)
theorem toks_err {s : ByteArray} : ∀ (n i : Nat) (e : Int) (q : Nat), s.size - i ≤ n → toks s i = .error (e, q) → q ≤ s.size + 5
  | 0, i, e, q, hn, h => by rw [toks_end (by omega)] at h; cases h
  | n + 1, i, e, q, hn, h => by
    by_cases hi : i < s.size
    · cases hw : word s i with
      | error f =>
        obtain ⟨e2, q2⟩ := f
        rw [toks_bad hi hw] at h
        have h1 := err_at h
        have h2 := word_err hi hw
        omega
      | ok y =>
        obtain ⟨t, j⟩ := y
        have hij := (word_next hi hw).1
        rw [toks_ok hi hw] at h
        cases hr : toks s j with
        | error f =>
          obtain ⟨e2, q2⟩ := f
          rw [hr] at h
          have h1 := err_at (α := List T) h
          have h2 := toks_err n j e2 q2 (by omega) hr
          omega
        | ok l2 => rw [hr] at h; cases h
    · rw [toks_end (by omega)] at h; cases h
/-- Where a word stands. -/
theorem toks_at {s : ByteArray} : ∀ (n i : Nat) (l : List T), s.size - i ≤ n → toks s i = .ok l → ∀ t ∈ l, 0 ≤ t.at_ ∧ t.at_ < (s.size : Int)
  | 0, i, l, hn, h => by
    rw [toks_end (by omega)] at h
    injection h with h; subst h; simp
  | n + 1, i, l, hn, h => by
    by_cases hi : i < s.size
    · cases hw : word s i with
      | error f => rw [toks_bad hi hw] at h; cases h
      | ok y =>
        obtain ⟨t, j⟩ := y
        obtain ⟨hij, hat⟩ := word_next hi hw
        rw [toks_ok hi hw] at h
        cases hr : toks s j with
        | error f => rw [hr] at h; cases h
        | ok l2 =>
          rw [hr] at h
          have h2 := toks_at n j l2 (by omega) hr
          injection h with h
          subst h
          intro u hu
          simp at hu
          rcases hu with rfl | hu
          · rw [hat]; omega
          · exact h2 u hu
    · rw [toks_end (by omega)] at h
      injection h with h; subst h; simp
end Go.Proofs.YtekpliookdihlaaDoor
