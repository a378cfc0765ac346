/-
  What the statements' own asks answers: a text's words are the document's. Conditions: the text has at most 100000 bytes, its words' sets at most 1000000 ranges; the two tables of unicode/utf8 lie as their text lays them.
  Plain: how many words a text has at most, and how many ranges their sets have; so asks answers true for every text of at most 100000 bytes. Condition: the two tables of unicode/utf8 lie as their text lays them.
-/
import Derived.Test.YtceeimolfalmpaaDoorE1
import Derived.Test.YtceeimolfalmpaaDoorR12
namespace Go.Proofs.YtceeimolfalmpaaDoor
open Go.RowKit ObUtf ObSets ObLex

theorem eqf (a b : Int) (w : World) : (Op.equalIn 10000 28 (fv a b) (fv a b)).run Tryd.prog w = .ok true w := by
  have u3 := Tryd.underlying3
  have u30 := Tryd.underlying26
  have a3 := Tryd.isAgg3
  have a30 := Tryd.isAgg26
  have z3 := Tryd.sizeOf3
  have z30 := Tryd.sizeOf26
  have hS : Tryd.prog.underlying 28 = some (.struct (Tryd.prog.fieldsOf 28)) := by kernel_rfl
  have hp : Tryd.prog.stoodInHeld 28 = false := by kernel_rfl
  rw [show (10000 : Nat) = 9999 + 1 from rfl, run_equalIn_agg w 9999 28 _ _ hS hp]
  simp only [Program.fieldsOf, Tryd.underlying28]
  go_simp
end Go.Proofs.YtceeimolfalmpaaDoor

namespace Go.Proofs.YtceeimolfalmpaaDoor
open Go.RowKit ObUtf ObSets ObLex

theorem items_many {s : ByteArray} {to : Nat} : ∀ (n p : Nat) (l : List R), to - p ≤ n → items s to p = .ok l → l.length ≤ 5 * (to - p)
  | 0, p, l, hn, h => by
    rw [items_end (by omega)] at h
    injection h with h; subst h; simp
  | n + 1, p, l, hn, h => by
    by_cases hp : p < to
    · cases hi : item s p with
      | error f => rw [items_bad hp hi] at h; cases h
      | ok y =>
        obtain ⟨m, q⟩ := y
        have hm := item_len hi
        by_cases hq : p < q
        · rw [items_ok hp hi hq] at h
          cases hr : items s to q with
          | error f => rw [hr] at h; cases h
          | ok l2 =>
            rw [hr] at h
            have h2 := items_many n q l2 (by omega) hr
            injection h with h
            rw [← h, List.length_append]
            omega
        · rw [items, dif_pos hp, hi] at h
          dsimp only at h
          rw [dif_neg hq] at h
          cases h
    · rw [items_end (by omega)] at h
      injection h with h; subst h; simp
theorem word_set {s : ByteArray} {i : Nat} {t : T} {j : Nat} (h : word s i = .ok (t, j)) : t.set.length ≤ 5 * s.size + 6 := by
  have fin : ∀ {x : T × Nat}, x.1.set.length ≤ 5 * s.size + 6 → (Except.ok x : Res _) = .ok (t, j) → t.set.length ≤ 5 * s.size + 6 := fun hx e => by injection e with e; subst e; exact hx
  have hdot : (notL [((10 : Int), (10 : Int))]).length ≤ 6 := Nat.le_trans (notL_len _) (by decide)
  revert h
  unfold word
  dsimp only
  intro h
  by_cases h1 : bt s i = 92
  · rw [if_pos h1] at h
    cases he : esc s i with
    | bad e => rw [he] at h; cases h
    | one x n => rw [he] at h; exact fin (by simp) h
    | many l => rw [he] at h; have := kind_len (sy s (i + 1)); rw [← esc_many_kind he] at this; exact fin (by dsimp only; omega) h
  · rw [if_neg h1] at h
    by_cases h2 : bt s i = 91
    · rw [if_pos h2] at h
      cases hc : cls s i with
      | error f => rw [hc] at h; cases h
      | ok y =>
        obtain ⟨l, q⟩ := y
        rw [hc] at h
        refine fin ?_ h
        dsimp only
        revert hc
        unfold cls
        cases hce : cend s (i + 1) with
        | none => intro hc; cases hc
        | some to =>
          have hto := cend_some hce
          dsimp only
          generalize (if bt s (i + 1) = 94 then i + 2 else i + 1) = f
          intro hc
          by_cases ht : to = f
          · rw [if_pos ht] at hc; cases hc
          · rw [if_neg ht] at hc
            cases hr : items s to f with
            | error e => rw [hr] at hc; cases hc
            | ok m =>
              rw [hr] at hc
              have hm := items_many _ f m (Nat.le_refl _) hr
              injection hc with hc
              injection hc with hc _
              have g1 := notL_len m
              have g2 := nrm_len m
              rw [← hc]
              split <;> omega
    · rw [if_neg h2] at h
      by_cases h3 : bt s i = 123
      · rw [if_pos h3] at h
        cases hb : braces s i with
        | error f => rw [hb] at h; cases h
        | ok y => obtain ⟨k, a, b, q⟩ := y; rw [hb] at h; exact fin (by simp) h
      · rw [if_neg h3] at h
        by_cases h4 : bt s i = 93 ∨ bt s i = 125
        · rw [if_pos h4] at h; cases h
        · rw [if_neg h4] at h
          by_cases h5 : bt s i = 46
          · rw [if_pos h5] at h; exact fin (by dsimp only; omega) h
          · rw [if_neg h5] at h
            revert h
            repeat' split
            all_goals exact fin (by simp)
theorem toks_few {s : ByteArray} : ∀ (n i : Nat) (l : List T), s.size - i ≤ n → toks s i = .ok l → l.length ≤ s.size - i ∧ ∀ t ∈ l, t.set.length ≤ 5 * s.size + 6
  | 0, i, l, hn, h => by
    rw [toks_end (by omega)] at h
    injection h with h; subst h; simp
  | n + 1, i, l, hn, h => by
    by_cases hi : i < s.size
    · cases hw : word s i with
      | error f => rw [toks_bad hi hw] at h; cases h
      | ok y =>
        obtain ⟨t, j⟩ := y
        have hij := (word_next hi hw).1
        rw [toks_ok hi hw] at h
        cases hr : toks s j with
        | error f => rw [hr] at h; cases h
        | ok l2 =>
          rw [hr] at h
          obtain ⟨h2, h3⟩ := toks_few n j l2 (by omega) hr
          injection h with h
          subst h
          refine ⟨by simp; omega, fun u hu => ?_⟩
          simp at hu
          rcases hu with rfl | hu
          · exact word_set hw
          · exact h3 u hu
    · rw [toks_end (by omega)] at h
      injection h with h; subst h; simp
end Go.Proofs.YtceeimolfalmpaaDoor
