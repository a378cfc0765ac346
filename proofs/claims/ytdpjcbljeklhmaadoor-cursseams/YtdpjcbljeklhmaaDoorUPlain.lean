/-
  Plain arithmetic of bytes and symbols, without any program: where symbols of a text begin (its boundaries), and how they are told from the bytes ahead of a place. No conditions.
-/
import Derived.Lib.DecodeN
namespace ObUtf
open Go.Lib

def bt (s : ByteArray) (i : Nat) : Nat := (s.get! i).toNat
theorem bt_lt (s : ByteArray) (i : Nat) : bt s i < 256 := UInt8.toNat_lt _
/-- The width of the symbol at a place; 0 outside. -/
def wd (s : ByteArray) (i : Nat) : Nat := if i < s.size then (decodeN (s.size - i) (bt s i) (bt s (i + 1)) (bt s (i + 2)) (bt s (i + 3))).2 else 0
/-- The symbol at a place; -1 outside. -/
def sy (s : ByteArray) (i : Nat) : Int :=
  if i < s.size then
    (if wd s i = 1 then (if bt s i < 128 then (bt s i : Int) else 1114112 + (bt s i : Int)) else ((decodeN (s.size - i) (bt s i) (bt s (i + 1)) (bt s (i + 2)) (bt s (i + 3))).1 : Int))
  else -1

theorem wd_out {s : ByteArray} {i : Nat} (h : s.size ≤ i) : wd s i = 0 := by unfold wd; rw [if_neg (by omega)]
theorem wd_cases (s : ByteArray) (i : Nat) (h : i < s.size) :
    (wd s i = 1) ∨
    (wd s i = 2 ∧ i + 2 ≤ s.size ∧ 192 ≤ bt s i ∧ 128 ≤ bt s (i + 1) ∧ bt s (i + 1) < 192) ∨
    (wd s i = 3 ∧ i + 3 ≤ s.size ∧ 192 ≤ bt s i ∧ 128 ≤ bt s (i + 1) ∧ bt s (i + 1) < 192 ∧ 128 ≤ bt s (i + 2) ∧ bt s (i + 2) < 192) ∨
    (wd s i = 4 ∧ i + 4 ≤ s.size ∧ 192 ≤ bt s i ∧ 128 ≤ bt s (i + 1) ∧ bt s (i + 1) < 192 ∧ 128 ≤ bt s (i + 2) ∧ bt s (i + 2) < 192 ∧ 128 ≤ bt s (i + 3) ∧ bt s (i + 3) < 192) := by
  unfold wd
  rw [if_pos h]
  have h0 := bt_lt s i; have h1 := bt_lt s (i + 1); have h2 := bt_lt s (i + 2); have h3 := bt_lt s (i + 3)
  generalize bt s i = b0 at *
  generalize bt s (i + 1) = b1 at *
  generalize bt s (i + 2) = b2 at *
  generalize bt s (i + 3) = b3 at *
  unfold decodeN
  split
  · left; rfl
  · split
    · split
      · right; left; refine ⟨rfl, ?_⟩; omega
      · left; rfl
    · split
      · split
        · right; right; left; refine ⟨rfl, ?_⟩; omega
        · left; rfl
      · split
        · split
          · right; right; right; refine ⟨rfl, ?_⟩; omega
          · left; rfl
        · left; rfl
theorem wd_pos {s : ByteArray} {i : Nat} (h : i < s.size) : 1 ≤ wd s i := by rcases wd_cases s i h with h | h | h | h <;> omega
theorem wd_le (s : ByteArray) (i : Nat) : wd s i ≤ 4 := by
  rcases Nat.lt_or_ge i s.size with h | h
  · rcases wd_cases s i h with h | h | h | h <;> omega
  · rw [wd_out h]; omega
theorem wd_fit {s : ByteArray} {i : Nat} (h : i ≤ s.size) : i + wd s i ≤ s.size := by
  rcases Nat.lt_or_ge i s.size with h | h'
  · rcases wd_cases s i h with h | h | h | h <;> omega
  · rw [wd_out h']; omega
theorem wd_lead {s : ByteArray} {i : Nat} (h : 2 ≤ wd s i) : 192 ≤ bt s i := by
  rcases Nat.lt_or_ge i s.size with h' | h'
  · rcases wd_cases s i h' with h | h | h | h <;> omega
  · rw [wd_out h'] at h; omega
theorem wd_cont {s : ByteArray} {i k : Nat} (h0 : 0 < k) (h : k < wd s i) : 128 ≤ bt s (i + k) ∧ bt s (i + k) < 192 := by
  rcases Nat.lt_or_ge i s.size with h' | h'
  · rcases wd_cases s i h' with h1 | h1 | h1 | h1
    · omega
    · obtain rfl : k = 1 := by omega
      omega
    · rcases (show k = 1 ∨ k = 2 by omega) with rfl | rfl <;> omega
    · rcases (show k = 1 ∨ k = 2 ∨ k = 3 by omega) with rfl | rfl | rfl <;> omega
  · rw [wd_out h'] at h; omega

/-- The k-th boundary. -/
def bd (s : ByteArray) : Nat → Nat
  | 0 => 0
  | k + 1 => bd s k + wd s (bd s k)
theorem bd_le (s : ByteArray) (k : Nat) : bd s k ≤ s.size := by
  induction k with
  | zero => exact Nat.zero_le _
  | succ k ih => exact wd_fit ih
theorem bd_mono (s : ByteArray) {j k : Nat} (h : j ≤ k) : bd s j ≤ bd s k := by
  induction k with
  | zero => obtain rfl : j = 0 := by omega
            exact Nat.le_refl _
  | succ k ih =>
    rcases Nat.lt_or_ge k j with h1 | h1
    · obtain rfl : j = k + 1 := by omega
      exact Nat.le_refl _
    · exact Nat.le_trans (ih h1) (Nat.le_add_right _ _)
/-- Each place lies in a symbol, or is the end. -/
theorem cover (s : ByteArray) (i : Nat) (h : i < s.size) : ∃ k, bd s k ≤ i ∧ i < bd s k + wd s (bd s k) := by
  have key : ∀ n, (∃ k, bd s k ≤ i ∧ i < bd s k + wd s (bd s k)) ∨ (n ≤ bd s n ∧ bd s n ≤ i) := by
    intro n
    induction n with
    | zero => right; exact ⟨Nat.le_refl _, Nat.zero_le _⟩
    | succ n ih =>
      rcases ih with ih | ⟨h1, h2⟩
      · exact Or.inl ih
      · rcases Nat.lt_or_ge i (bd s n + wd s (bd s n)) with h3 | h3
        · exact Or.inl ⟨n, h2, h3⟩
        · right
          have hp := wd_pos (s := s) (i := bd s n) (by omega)
          exact ⟨by show n + 1 ≤ bd s n + wd s (bd s n); omega, h3⟩
  rcases key (i + 1) with h1 | h1
  · exact h1
  · omega
theorem bd_end (s : ByteArray) : ∃ k, bd s k = s.size := by
  have key : ∀ n, bd s n = s.size ∨ n ≤ bd s n := by
    intro n
    induction n with
    | zero => right; exact Nat.le_refl _
    | succ n ih =>
      rcases ih with ih | ih
      · left; show bd s n + wd s (bd s n) = s.size; rw [ih, wd_out (Nat.le_refl _)]; omega
      · rcases Nat.lt_or_ge (bd s n) s.size with h | h
        · have hp := wd_pos h
          right; show n + 1 ≤ bd s n + wd s (bd s n); omega
        · left; show bd s n + wd s (bd s n) = s.size
          have := bd_le s n
          rw [wd_out h]; omega
  rcases key (s.size + 1) with h | h
  · exact ⟨_, h⟩
  · have := bd_le s (s.size + 1); omega
def IsB (s : ByteArray) (i : Nat) : Prop := ∃ k, bd s k = i
theorem IsB.le {s : ByteArray} {i : Nat} (h : IsB s i) : i ≤ s.size := by obtain ⟨k, rfl⟩ := h; exact bd_le s k
theorem IsB.zero (s : ByteArray) : IsB s 0 := ⟨0, rfl⟩
theorem IsB.size (s : ByteArray) : IsB s s.size := bd_end s
theorem IsB.next {s : ByteArray} {i : Nat} (h : IsB s i) : IsB s (i + wd s i) := by obtain ⟨k, rfl⟩ := h; exact ⟨k + 1, rfl⟩
theorem lead_bd {s : ByteArray} {j : Nat} (h : 2 ≤ wd s j) : IsB s j := by
  have hj : j < s.size := by
    rcases Nat.lt_or_ge j s.size with h' | h'
    · exact h'
    · rw [wd_out h'] at h; omega
  obtain ⟨k, h1, h2⟩ := cover s j hj
  rcases Nat.eq_or_lt_of_le h1 with h3 | h3
  · exact ⟨k, h3⟩
  · have hc := wd_cont (s := s) (i := bd s k) (k := j - bd s k) (by omega) (by omega)
    rw [show bd s k + (j - bd s k) = j by omega] at hc
    have := wd_lead h
    omega
/-- No boundary lies strictly within a symbol that begins at a boundary. -/
theorem IsB.gap {s : ByteArray} {i j : Nat} (hj : IsB s j) (hi : IsB s i) (h : j < i) : j + wd s j ≤ i := by
  obtain ⟨a, rfl⟩ := hj
  obtain ⟨b, rfl⟩ := hi
  rcases Nat.lt_or_ge a b with h1 | h1
  · exact bd_mono s (j := a + 1) (k := b) h1
  · have := bd_mono s h1; omega
theorem local_bd {s : ByteArray} {i : Nat} (hi : i ≤ s.size) : IsB s i ↔ ∀ k, 1 ≤ k → k ≤ 3 → k ≤ i → wd s (i - k) ≤ k := by
  constructor
  · intro h k h1 h2 h3
    rcases Nat.lt_or_ge k (wd s (i - k)) with h4 | h4
    · have := IsB.gap (lead_bd (s := s) (j := i - k) (by omega)) h (by omega); omega
    · exact h4
  · intro h
    rcases Nat.lt_or_ge i s.size with h1 | h1
    · obtain ⟨k, h2, h3⟩ := cover s i h1
      rcases Nat.eq_or_lt_of_le h2 with h4 | h4
      · exact ⟨k, h4⟩
      · have := wd_le s (bd s k)
        have h5 := h (i - bd s k) (by omega) (by omega) (by omega)
        rw [show i - (i - bd s k) = bd s k by omega] at h5
        omega
    · obtain rfl : i = s.size := by omega
      exact IsB.size s
/-- Of a boundary above 0: the place at which the symbol that ends there begins. -/
theorem IsB.prev {s : ByteArray} {i : Nat} (h : IsB s i) (h0 : 0 < i) : ∃ j, IsB s j ∧ j < i ∧ j + wd s j = i := by
  have hi := h.le
  obtain ⟨k, h1, h2⟩ := cover s (i - 1) (by omega)
  have hg := IsB.gap (s := s) (i := i) (j := bd s k) ⟨k, rfl⟩ h (by omega)
  exact ⟨bd s k, ⟨k, rfl⟩, by omega, by omega⟩
/-- A symbol of k bytes, k from 2 to 4, that ends at a boundary is the one that ends there. -/
theorem ends_bd {s : ByteArray} {i j k : Nat} (hj : IsB s j) (hji : j < i) (hje : j + wd s j = i) (hk : 2 ≤ k) (hki : k ≤ i) (hw : wd s (i - k) = k) : i - k = j := by
  have hb : IsB s (i - k) := lead_bd (by omega)
  rcases Nat.lt_trichotomy (i - k) j with h | h | h
  · have := hb.gap hj h; omega
  · exact h
  · have := hj.gap hb h; omega
/-- How many symbols a text has. -/
def cntF (s : ByteArray) : Nat → Nat → Nat
  | 0, k => k
  | f + 1, k => if bd s k < s.size then cntF s f (k + 1) else k
def cnt (s : ByteArray) : Nat := cntF s s.size 0
theorem cntF_spec (s : ByteArray) : ∀ f k, s.size ≤ bd s k + f → (∀ c, c < k → bd s c < s.size) → bd s (cntF s f k) = s.size ∧ ∀ c, c < cntF s f k → bd s c < s.size := by
  intro f
  induction f with
  | zero =>
    intro k h hc
    have := bd_le s k
    exact ⟨by show bd s k = s.size; omega, hc⟩
  | succ f ih =>
    intro k h hc
    unfold cntF
    split
    · rename_i hlt
      have hp := wd_pos hlt
      refine ih (k + 1) (by show s.size ≤ bd s k + wd s (bd s k) + f; omega) ?_
      intro c hck
      rcases Nat.lt_or_ge c k with h1 | h1
      · exact hc c h1
      · obtain rfl : c = k := by omega
        exact hlt
    · have := bd_le s k
      exact ⟨by omega, hc⟩
theorem cnt_end (s : ByteArray) : bd s (cnt s) = s.size := (cntF_spec s s.size 0 (by show s.size ≤ 0 + s.size; omega) (fun _ h => absurd h (by omega))).1
theorem cnt_lt (s : ByteArray) {c : Nat} (h : c < cnt s) : bd s c < s.size := (cntF_spec s s.size 0 (by show s.size ≤ 0 + s.size; omega) (fun _ h => absurd h (by omega))).2 c h
theorem cnt_uniq {s : ByteArray} {k : Nat} (h : bd s k = s.size) (hc : ∀ c, c < k → bd s c < s.size) : k = cnt s := by
  rcases Nat.lt_trichotomy k (cnt s) with h1 | h1 | h1
  · have := cnt_lt s h1; omega
  · exact h1
  · have := hc _ h1; rw [cnt_end] at this; omega
theorem le_bd {s : ByteArray} {k : Nat} (h : k ≤ cnt s) : k ≤ bd s k := by
  induction k with
  | zero => exact Nat.zero_le _
  | succ k ih =>
    have h1 := wd_pos (cnt_lt s (c := k) (by omega))
    have h2 := ih (by omega)
    show k + 1 ≤ bd s k + wd s (bd s k); omega
theorem cnt_le (s : ByteArray) : cnt s ≤ s.size := by
  have := le_bd (s := s) (k := cnt s) (Nat.le_refl _)
  rw [cnt_end] at this; exact this
/-- The symbols of the first k boundaries. -/
def symsTo (s : ByteArray) (k : Nat) : List Int := (List.range k).map fun c => sy s (bd s c)
def syms (s : ByteArray) : List Int := symsTo s (cnt s)
theorem symsTo_succ (s : ByteArray) (k : Nat) : symsTo s (k + 1) = symsTo s k ++ [sy s (bd s k)] := by simp [symsTo, List.range_succ]
theorem symsTo_length (s : ByteArray) (k : Nat) : (symsTo s k).length = k := by simp [symsTo]
def bdsTo (s : ByteArray) (k : Nat) : List Int := (List.range k).map fun c => (bd s c : Int)
theorem bdsTo_succ (s : ByteArray) (k : Nat) : bdsTo s (k + 1) = bdsTo s k ++ [(bd s k : Int)] := by simp [bdsTo, List.range_succ]
theorem bdsTo_length (s : ByteArray) (k : Nat) : (bdsTo s k).length = k := by simp [bdsTo]
theorem sy_range {s : ByteArray} {i : Nat} (h : i < s.size) : 0 ≤ sy s i ∧ sy s i ≤ 1114367 := by
  have h0 := bt_lt s i; have h1 := bt_lt s (i + 1); have h2 := bt_lt s (i + 2); have h3 := bt_lt s (i + 3)
  unfold sy
  rw [if_pos h]
  split
  · split <;> omega
  · unfold decodeN
    repeat' split
    all_goals (dsimp only; omega)
theorem sy_any (s : ByteArray) (i : Nat) : -1 ≤ sy s i ∧ sy s i ≤ 1114367 := by
  rcases Nat.lt_or_ge i s.size with h | h
  · have := sy_range h; omega
  · unfold sy; rw [if_neg (by omega)]; omega
end ObUtf
