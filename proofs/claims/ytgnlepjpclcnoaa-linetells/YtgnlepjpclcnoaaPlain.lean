/-
  Plain: lines of a list of numbers, without any program: the line of a place, where it begins, which places begin and end lines. No conditions.
-/
import Derived.Lib.Hide
namespace ObLine

/-- The number of the line that has the place. -/
def ln (f : Nat → Int) : Nat → Nat
  | 0 => 1
  | p + 1 => if f p = 10 then ln f p + 1 else ln f p
/-- Where the line that has the place begins. -/
def st (f : Nat → Int) : Nat → Nat
  | 0 => 0
  | p + 1 => if f p = 10 then p + 1 else st f p
theorem ln_10 {f : Nat → Int} {p : Nat} (h : f p = 10) : ln f (p + 1) = ln f p + 1 := by show (if _ then _ else _) = _; rw [if_pos h]
theorem ln_no {f : Nat → Int} {p : Nat} (h : f p ≠ 10) : ln f (p + 1) = ln f p := by show (if _ then _ else _) = _; rw [if_neg h]
theorem st_10 {f : Nat → Int} {p : Nat} (h : f p = 10) : st f (p + 1) = p + 1 := by show (if _ then _ else _) = _; rw [if_pos h]
theorem st_no {f : Nat → Int} {p : Nat} (h : f p ≠ 10) : st f (p + 1) = st f p := by show (if _ then _ else _) = _; rw [if_neg h]
theorem st_le (f : Nat → Int) : ∀ p, st f p ≤ p
  | 0 => Nat.le_refl _
  | p + 1 => by
    by_cases h : f p = 10
    · rw [st_10 h]; omega
    · rw [st_no h]; have := st_le f p; omega
theorem ln_pos (f : Nat → Int) : ∀ p, 1 ≤ ln f p
  | 0 => Nat.le_refl _
  | p + 1 => by
    have := ln_pos f p
    by_cases h : f p = 10
    · rw [ln_10 h]; omega
    · rw [ln_no h]; omega
theorem ln_le (f : Nat → Int) : ∀ p, ln f p ≤ p + 1
  | 0 => Nat.le_refl _
  | p + 1 => by
    have := ln_le f p
    by_cases h : f p = 10
    · rw [ln_10 h]; omega
    · rw [ln_no h]; omega
theorem ln_add (f : Nat → Int) (p : Nat) : ∀ k, ln f p ≤ ln f (p + k)
  | 0 => Nat.le_refl _
  | k + 1 => by
    have := ln_add f p k
    by_cases h : f (p + k) = 10
    · rw [show p + (k + 1) = p + k + 1 by omega, ln_10 h]; omega
    · rw [show p + (k + 1) = p + k + 1 by omega, ln_no h]; omega
theorem ln_mono {f : Nat → Int} {p q : Nat} (h : p ≤ q) : ln f p ≤ ln f q := by
  have := ln_add f p (q - p)
  rwa [show p + (q - p) = q by omega] at this
theorem flat {f : Nat → Int} {p : Nat} : ∀ {k : Nat}, (∀ j, j < k → f (p + j) ≠ 10) → ln f (p + k) = ln f p ∧ st f (p + k) = st f p
  | 0, _ => ⟨rfl, rfl⟩
  | k + 1, h => by
    have h1 := flat (f := f) (p := p) (k := k) fun j hj => h j (by omega)
    have h2 := h k (by omega)
    rw [show p + (k + 1) = p + k + 1 by omega, ln_no h2, st_no h2]
    exact h1
theorem same_add {f : Nat → Int} {p : Nat} : ∀ {k : Nat}, ln f (p + k) = ln f p → st f (p + k) = st f p
  | 0, _ => rfl
  | k + 1, h => by
    have hm := ln_add f p k
    rw [show p + (k + 1) = p + k + 1 by omega] at h ⊢
    by_cases h2 : f (p + k) = 10
    · rw [ln_10 h2] at h; omega
    · rw [ln_no h2] at h; rw [st_no h2]; exact same_add h
theorem same {f : Nat → Int} {p q : Nat} (h : ln f p = ln f q) : st f p = st f q := by
  rcases Nat.le_total p q with h1 | h1
  · have := same_add (f := f) (p := p) (k := q - p) (by rw [show p + (q - p) = q by omega]; exact h.symm)
    rw [show p + (q - p) = q by omega] at this
    exact this.symm
  · have := same_add (f := f) (p := q) (k := p - q) (by rw [show q + (p - q) = p by omega]; exact h)
    rwa [show q + (p - q) = p by omega] at this

/-- The place of a line and a column. -/
def Pl (f : Nat → Int) (n : Nat) (a b : Int) (p : Nat) : Prop := p ≤ n ∧ (ln f p : Int) = a ∧ ((p : Int) - (st f p : Int) + 1) = b
theorem Pl.uniq {f : Nat → Int} {n : Nat} {a b : Int} {p q : Nat} (h : Pl f n a b p) (h' : Pl f n a b q) : p = q := by
  obtain ⟨_, h1, h2⟩ := h
  obtain ⟨_, k1, k2⟩ := h'
  have := same (f := f) (p := p) (q := q) (by omega)
  omega
/-- What At answers. -/
def IsAt (f : Nat → Int) (n : Nat) (a b P E : Int) : Prop := (∃ p : Nat, Pl f n a b p ∧ P = p ∧ E = 0) ∨ ((∀ p, ¬ Pl f n a b p) ∧ P = 0 ∧ E = 2)
theorem IsAt.uniq {f : Nat → Int} {n : Nat} {a b P E P' E' : Int} (h : IsAt f n a b P E) (h' : IsAt f n a b P' E') : P = P' ∧ E = E' := by
  rcases h with ⟨p, h1, rfl, rfl⟩ | ⟨h1, rfl, rfl⟩ <;> rcases h' with ⟨q, k1, rfl, rfl⟩ | ⟨k1, rfl, rfl⟩
  · rw [h1.uniq k1]; exact ⟨rfl, rfl⟩
  · exact absurd h1 (k1 p)
  · exact absurd k1 (h1 q)
  · exact ⟨rfl, rfl⟩
/-- Place s begins line number a. -/
def Beg (f : Nat → Int) (a s : Nat) : Prop := ln f s = a ∧ st f s = s
theorem Beg.zero (f : Nat → Int) : Beg f 1 0 := ⟨rfl, rfl⟩
theorem Beg.next {f : Nat → Int} {a s i : Nat} (h : Beg f a s) (h1 : ∀ j, j < i → f (s + j) ≠ 10) (h2 : f (s + i) = 10) : Beg f (a + 1) (s + (i + 1)) := by
  have := flat h1
  unfold Beg
  rw [show s + (i + 1) = s + i + 1 by omega, ln_10 h2, st_10 h2, this.1, h.1]
  exact ⟨rfl, rfl⟩
theorem none_of_last {f : Nat → Int} {n a s : Nat} {L b : Int} (h : Beg f a s) (hs : s ≤ n) (h1 : ∀ j, j < n - s → f (s + j) ≠ 10) (hL : (a : Int) < L) : ∀ p, ¬ Pl f n L b p := fun p ⟨hp, h2, _⟩ => by
  have h3 := ln_mono (f := f) hp
  have h4 := (flat h1).1
  rw [show s + (n - s) = n by omega, h.1] at h4
  omega
theorem none_of_less {f : Nat → Int} {n : Nat} {L b : Int} (hL : L < 1) : ∀ p, ¬ Pl f n L b p := fun p ⟨_, h2, _⟩ => by
  have := ln_pos f p
  omega
theorem none_of_col {f : Nat → Int} {n : Nat} {L b : Int} (hb : b < 1) : ∀ p, ¬ Pl f n L b p := fun p ⟨_, _, h2⟩ => by
  have := st_le f p
  omega
/-- The line that begins at s ends at e. -/
def EndOf (f : Nat → Int) (n s e : Nat) : Prop := s ≤ e ∧ e ≤ n ∧ (∀ j, j < e - s → f (s + j) ≠ 10) ∧ (e = n ∨ f e = 10)
theorem none_of_far {f : Nat → Int} {n s e a : Nat} {b : Int} (h : Beg f a s) (he : EndOf f n s e) (hb : (e : Int) - s < b - 1) : ∀ p, ¬ Pl f n a b p := fun p ⟨h0, h2, h3⟩ => by
  obtain ⟨e1, e2, e3, e4⟩ := he
  have h4 := same (f := f) (p := p) (q := s) (by have := h.1; omega)
  rw [h.2] at h4
  rcases e4 with e4 | e4
  · omega
  · have h5 := (flat e3).1
    rw [show s + (e - s) = e by omega] at h5
    have h6 := ln_10 e4
    have h7 := ln_mono (f := f) (p := e + 1) (q := p) (by omega)
    have := h.1
    omega
theorem at_of_near {f : Nat → Int} {n s e a : Nat} {b : Int} (h : Beg f a s) (he : EndOf f n s e) (h1 : 1 ≤ b) (hb : b - 1 ≤ (e : Int) - s) : ∃ p : Nat, Pl f n a b p ∧ (s : Int) + b - 1 = p := by
  obtain ⟨e1, e2, e3, e4⟩ := he
  have h5 := flat (f := f) (p := s) (k := (b - 1).toNat) fun j hj => e3 j (by omega)
  refine ⟨s + (b - 1).toNat, ⟨by omega, ?_, ?_⟩, by omega⟩
  · rw [h5.1, h.1]
  · rw [h5.2, h.2]; omega

/-- Does a line begin, end there? -/
def bol (f : Nat → Int) (n : Nat) (p : Int) : Bool := decide (p = 0 ∨ (0 < p ∧ p ≤ n ∧ f (p - 1).toNat = 10))
def eol (f : Nat → Int) (n : Nat) (p : Int) : Bool := decide (p = n ∨ (0 ≤ p ∧ p < n ∧ f p.toNat = 10))
theorem bol_zero (f : Nat → Int) (n : Nat) : bol f n 0 = true := by unfold bol; simp
theorem bol_succ {f : Nat → Int} {n p : Nat} (h : p < n) : bol f n ((p + 1 : Nat) : Int) = decide (f p = 10) := by
  unfold bol
  rw [show ((p + 1 : Nat) : Int) - 1 = (p : Int) by omega, Int.toNat_natCast]
  rw [Bool.eq_iff_iff]
  simp only [decide_eq_true_eq]
  constructor
  · rintro (h1 | ⟨_, _, h1⟩)
    · omega
    · exact h1
  · intro h1; exact .inr ⟨by omega, by omega, h1⟩
theorem eol_end (f : Nat → Int) (n : Nat) : eol f n (n : Int) = true := by unfold eol; simp
theorem eol_at {f : Nat → Int} {n p : Nat} (h : p < n) : eol f n (p : Int) = decide (f p = 10) := by
  unfold eol
  rw [Int.toNat_natCast, Bool.eq_iff_iff]
  simp only [decide_eq_true_eq]
  constructor
  · rintro (h1 | ⟨_, _, h1⟩)
    · omega
    · exact h1
  · intro h1; exact .inr ⟨by omega, by omega, h1⟩
theorem turned {f g : Nat → Int} {n : Nat} (h : ∀ j, j < n → g j = f (n - 1 - j)) {p : Nat} (hp : p ≤ n) : bol g n (p : Int) = eol f n ((n - p : Nat) : Int) ∧ eol g n (p : Int) = bol f n ((n - p : Nat) : Int) := by
  constructor
  · match p, hp with
    | 0, _ => rw [Nat.sub_zero, eol_end]; exact bol_zero g n
    | p + 1, hp => rw [bol_succ (by omega), eol_at (by omega), h p (by omega), show n - (p + 1) = n - 1 - p by omega]
  · rcases Nat.lt_or_ge p n with h1 | h1
    · rw [eol_at h1, show n - p = n - 1 - p + 1 by omega, bol_succ (by omega), h p h1]
    · obtain rfl : p = n := by omega
      rw [eol_end, Nat.sub_self]; exact (bol_zero f p).symm
/-- Where lines begin, ahead of a place. -/
def starts (f : Nat → Int) : Nat → List Int
  | 0 => [0]
  | k + 1 => if f k = 10 then starts f k ++ [((k + 1 : Nat) : Int)] else starts f k
theorem starts_10 {f : Nat → Int} {p : Nat} (h : f p = 10) : starts f (p + 1) = starts f p ++ [((p + 1 : Nat) : Int)] := by show (if _ then _ else _) = _; rw [if_pos h]
theorem starts_no {f : Nat → Int} {p : Nat} (h : f p ≠ 10) : starts f (p + 1) = starts f p := by show (if _ then _ else _) = _; rw [if_neg h]
theorem starts_len (f : Nat → Int) : ∀ k, (starts f k).length = ln f k
  | 0 => rfl
  | k + 1 => by
    by_cases h : f k = 10
    · rw [starts_10 h, ln_10 h, List.length_append, starts_len f k]; rfl
    · rw [starts_no h, ln_no h, starts_len f k]
theorem starts_mem (f : Nat → Int) : ∀ k (x : Nat), (x : Int) ∈ starts f k ↔ x ≤ k ∧ (x = 0 ∨ f (x - 1) = 10)
  | 0, x => by simp [starts]; omega
  | k + 1, x => by
    by_cases h : f k = 10
    · rw [starts_10 h, List.mem_append, starts_mem f k x]
      simp only [List.mem_singleton]
      constructor
      · rintro (h1 | h1)
        · exact ⟨by omega, h1.2⟩
        · obtain rfl : x = k + 1 := by omega
          exact ⟨Nat.le_refl _, .inr (by simpa using h)⟩
      · rintro ⟨h1, h2⟩
        rcases Nat.lt_or_ge k x with h3 | h3
        · right; omega
        · left; exact ⟨h3, h2⟩
    · rw [starts_no h, starts_mem f k x]
      constructor
      · rintro ⟨h1, h2⟩; exact ⟨by omega, h2⟩
      · rintro ⟨h1, h2⟩
        refine ⟨?_, h2⟩
        rcases Nat.lt_or_ge k x with h3 | h3
        · obtain rfl : x = k + 1 := by omega
          rcases h2 with h2 | h2
          · omega
          · exact absurd (by simpa using h2) h
        · exact h3
theorem starts_bol {f : Nat → Int} {n p : Nat} (hp : p ≤ n) : bol f n (p : Int) = decide ((p : Int) ∈ starts f n) := by
  rw [Bool.eq_iff_iff, decide_eq_true_eq, starts_mem]
  match p, hp with
  | 0, _ => simp [bol]
  | p + 1, hp => rw [bol_succ (by omega), decide_eq_true_eq]; simp; intro _; omega
/-- How many begin ahead of a place; how many end. -/
def begs (f : Nat → Int) : Nat → Nat
  | 0 => 0
  | p + 1 => ln f p
def ends (f : Nat → Int) (n p : Nat) : Nat := if p ≤ n then ln f p - 1 else ln f n
theorem begs_next {f : Nat → Int} {n p : Nat} (hp : p ≤ n) : begs f (p + 1) = begs f p + (if bol f n (p : Int) = true then 1 else 0) := by
  match p, hp with
  | 0, _ =>
    have e : bol f n ((0 : Nat) : Int) = true := bol_zero f n
    rw [if_pos e]; rfl
  | p + 1, hp =>
    rw [bol_succ (by omega)]
    show ln f (p + 1) = ln f p + _
    by_cases h : f p = 10
    · rw [ln_10 h, if_pos (by simpa using h)]
    · rw [ln_no h, if_neg (by simpa using h)]; rfl
theorem ends_next {f : Nat → Int} {n p : Nat} (hp : p ≤ n) : ends f n (p + 1) = ends f n p + (if eol f n (p : Int) = true then 1 else 0) := by
  unfold ends
  rw [if_pos hp]
  have h1 := ln_pos f p
  rcases Nat.lt_or_ge p n with h | h
  · rw [if_pos (by omega), eol_at h]
    by_cases h2 : f p = 10
    · rw [ln_10 h2, if_pos (by simpa using h2)]; omega
    · rw [ln_no h2, if_neg (by simpa using h2)]; omega
  · obtain rfl : p = n := by omega
    rw [if_neg (by omega), eol_end, if_pos rfl]; omega
end ObLine
