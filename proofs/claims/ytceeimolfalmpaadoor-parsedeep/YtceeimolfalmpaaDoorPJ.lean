/-
  The words ahead of a text's first fault: how many, of which kinds, where they stand, how many ranges their sets have. No program, no conditions.
-/
import Derived.Test.YtceeimolfalmpaaDoorPY
import Derived.Test.YtceeimolfalmpaaDoorEB
namespace ObLex
open ObUtf ObSets Go.Lib
open Go.Proofs.YtceeimolfalmpaaDoor (toks_bad toks_ok toks_end word_next word_set)

theorem Run.places {s : ByteArray} : ∀ {l : List T} {i p : Nat}, Run s i l p → ∀ t ∈ l, t.set.length ≤ 5 * s.size + 6 ∧ ∃ k : Nat, t.at_ = (k : Int) ∧ k < s.size ∧ i ≤ k
  | [], i, p, h, t, ht => by cases ht
  | x :: l, i, p, h, t, ht => by
    obtain ⟨hi, j, hv, hij, hr⟩ := h
    rcases List.mem_cons.1 ht with rfl | ht
    · exact ⟨word_set hv, i, (word_next hi hv).2, hi, Nat.le_refl _⟩
    · obtain ⟨h1, k, h2, h3, h4⟩ := Run.places hr t ht
      exact ⟨h1, k, h2, h3, by omega⟩
theorem toks_run {s : ByteArray} : ∀ (n i : Nat) (l : List T), s.size - i ≤ n → i ≤ s.size → toks s i = .ok l → ∃ p, Run s i l p
  | n, i, l, hn, hi0, h => by
    rcases Nat.lt_or_ge i s.size with hi | hi
    · cases hv : word s i with
      | error g => rw [toks_bad hi hv] at h; cases h
      | ok p =>
        obtain ⟨x, j⟩ := p
        have hij := (word_next hi hv).1
        have hjs := Go.Proofs.YtceeimolfalmpaaDoor.word_fit hi hv
        rw [toks_ok hi hv] at h
        cases n with
        | zero => omega
        | succ n =>
          cases hj : toks s j with
          | error g => rw [hj] at h; cases h
          | ok m =>
            rw [hj] at h
            have hl : [x] ++ m = l := by injection h
            subst hl
            obtain ⟨p, hp⟩ := toks_run n j m (by omega) hjs hj
            exact ⟨p, hi, j, hv, hij, hp⟩
    · rw [toks_end hi] at h
      have hl : [] = l := by injection h
      subst hl
      exact ⟨i, rfl⟩
theorem Ahead.few {s : ByteArray} {l : List T} (h : Ahead s l) : ∀ t ∈ l, t.set.length ≤ 5 * s.size + 6 ∧ ∃ k : Nat, t.at_ = (k : Int) ∧ k < s.size := by
  have key : ∃ p, Run s 0 l p := by
    rcases h with h | ⟨e, q, p, _, h2, _, _, _⟩
    · exact toks_run _ 0 l (Nat.le_refl _) (Nat.zero_le _) h
    · exact ⟨p, h2⟩
  obtain ⟨p, hp⟩ := key
  exact fun t ht => by obtain ⟨h1, k, h2, h3, _⟩ := hp.places t ht; exact ⟨h1, k, h2, h3⟩
/-- One text has one row of words ahead of its first fault. -/
theorem Run.one {s : ByteArray} : ∀ {l m : List T} {i p q : Nat}, Run s i l p → Run s i m q → (s.size ≤ p ∨ ∃ f, word s p = .error f) → (s.size ≤ q ∨ ∃ f, word s q = .error f) → l = m
  | [], [], _, _, _, _, _, _, _ => rfl
  | [], y :: m, i, p, q, h, k, hp, _ => by
    have h : p = i := h
    subst h
    obtain ⟨hi, j, hv, _⟩ := k
    rcases hp with hp | ⟨f, hp⟩
    · omega
    · rw [hp] at hv; cases hv
  | x :: l, [], i, p, q, h, k, _, hq => by
    have k : q = i := k
    subst k
    obtain ⟨hi, j, hv, _⟩ := h
    rcases hq with hq | ⟨f, hq⟩
    · omega
    · rw [hq] at hv; cases hv
  | x :: l, y :: m, i, p, q, h, k, hp, hq => by
    obtain ⟨hi, j, hv, _, hr⟩ := h
    obtain ⟨_, j2, hv2, _, hr2⟩ := k
    rw [hv] at hv2
    injection hv2 with hv2
    injection hv2 with h1 h2
    subst h1 h2
    rw [Run.one hr hr2 hp hq]
theorem Run.stop {s : ByteArray} : ∀ {l : List T} {i p : Nat}, Run s i l p → ObLex.toks s i = .ok l → s.size ≤ p
  | [], i, p, h, ht => by
    have h : p = i := h
    subst h
    rcases Nat.lt_or_ge p s.size with hi | hi
    · cases hv : word s p with
      | error g => rw [toks_bad hi hv] at ht; cases ht
      | ok y =>
        obtain ⟨x, j⟩ := y
        rw [toks_ok hi hv] at ht
        cases hj : ObLex.toks s j with
        | error g => rw [hj] at ht; cases ht
        | ok m => rw [hj] at ht; injection ht with ht; cases ht
    · exact hi
  | x :: l, i, p, h, ht => by
    obtain ⟨hi, j, hv, _, hr⟩ := h
    rw [toks_ok hi hv] at ht
    cases hj : ObLex.toks s j with
    | error g => rw [hj] at ht; cases ht
    | ok m =>
      rw [hj] at ht
      have e : [x] ++ m = x :: l := by injection ht
      have e2 : m = l := by injection e
      subst e2
      exact Run.stop hr hj
theorem Ahead.ends {s : ByteArray} {l : List T} (h : Ahead s l) : ∃ p, Run s 0 l p ∧ (s.size ≤ p ∨ ∃ f, word s p = .error f) := by
  rcases h with h | ⟨e, q, p, _, h2, _, _, h5⟩
  · obtain ⟨p, hp⟩ := toks_run _ 0 l (Nat.le_refl _) (Nat.zero_le _) h
    exact ⟨p, hp, .inl (hp.stop h)⟩
  · exact ⟨p, h2, .inr ⟨_, h5⟩⟩
theorem Ahead.one {s : ByteArray} {l m : List T} (h : Ahead s l) (k : Ahead s m) : l = m := by
  obtain ⟨p, hp, hp2⟩ := h.ends
  obtain ⟨q, hq, hq2⟩ := k.ends
  exact Run.one hp hq hp2 hq2
end ObLex
