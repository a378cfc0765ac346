/-
  Plain arithmetic of bytes and symbols, without any program: where symbols of a text begin (its boundaries), and how they are told from the bytes ahead of a place. No conditions.
  Plain arithmetic: the table of first bytes (how many bytes a valid sequence has, between what its second one lies) tells the width and the symbol at each place. No conditions beyond bytes being below 256.
  Plain: where the second text does not begin with a byte from 80 to BF, the symbols of two texts are those of both, one behind the other. For all texts.
-/
import Derived.Lib.DecodeN
namespace ObUtf
open Go.Lib

def bt (s : ByteArray) (i : Nat) : Nat := (s.get! i).toNat
theorem bt_lt (s : ByteArray) (i : Nat) : bt s i < 256 := UInt8.toNat_lt _
/-- The width of the symbol at a place; 0 outside. -/
def wd (s : ByteArray) (i : Nat) : Nat := if i < s.size then (decodeN (s.size - i) (bt s i) (bt s (i + 1)) (bt s (i + 2)) (bt s (i + 3))).2 else 0
/-- The symbol at a place; -1 outside. -/
def sy (s : ByteArray) (i : Nat) : Int :=
  if i < s.size then
    (if wd s i = 1 then (if bt s i < 128 then (bt s i : Int) else 1114112 + (bt s i : Int)) else ((decodeN (s.size - i) (bt s i) (bt s (i + 1)) (bt s (i + 2)) (bt s (i + 3))).1 : Int))
  else -1

theorem wd_out {s : ByteArray} {i : Nat} (h : s.size ≤ i) : wd s i = 0 := by unfold wd; rw [if_neg (by omega)]
theorem wd_cases (s : ByteArray) (i : Nat) (h : i < s.size) :
    (wd s i = 1) ∨
    (wd s i = 2 ∧ i + 2 ≤ s.size ∧ 192 ≤ bt s i ∧ 128 ≤ bt s (i + 1) ∧ bt s (i + 1) < 192) ∨
    (wd s i = 3 ∧ i + 3 ≤ s.size ∧ 192 ≤ bt s i ∧ 128 ≤ bt s (i + 1) ∧ bt s (i + 1) < 192 ∧ 128 ≤ bt s (i + 2) ∧ bt s (i + 2) < 192) ∨
    (wd s i = 4 ∧ i + 4 ≤ s.size ∧ 192 ≤ bt s i ∧ 128 ≤ bt s (i + 1) ∧ bt s (i + 1) < 192 ∧ 128 ≤ bt s (i + 2) ∧ bt s (i + 2) < 192 ∧ 128 ≤ bt s (i + 3) ∧ bt s (i + 3) < 192) := by
  unfold wd
  rw [if_pos h]
  have h0 := bt_lt s i; have h1 := bt_lt s (i + 1); have h2 := bt_lt s (i + 2); have h3 := bt_lt s (i + 3)
  generalize bt s i = b0 at *
  generalize bt s (i + 1) = b1 at *
  generalize bt s (i + 2) = b2 at *
  generalize bt s (i + 3) = b3 at *
  unfold decodeN
  split
  · left; rfl
  · split
    · split
      · right; left; refine ⟨rfl, ?_⟩; omega
      · left; rfl
    · split
      · split
        · right; right; left; refine ⟨rfl, ?_⟩; omega
        · left; rfl
      · split
        · split
          · right; right; right; refine ⟨rfl, ?_⟩; omega
          · left; rfl
        · left; rfl
theorem wd_pos {s : ByteArray} {i : Nat} (h : i < s.size) : 1 ≤ wd s i := by rcases wd_cases s i h with h | h | h | h <;> omega
theorem wd_le (s : ByteArray) (i : Nat) : wd s i ≤ 4 := by
  rcases Nat.lt_or_ge i s.size with h | h
  · rcases wd_cases s i h with h | h | h | h <;> omega
  · rw [wd_out h]; omega
theorem wd_fit {s : ByteArray} {i : Nat} (h : i ≤ s.size) : i + wd s i ≤ s.size := by
  rcases Nat.lt_or_ge i s.size with h | h'
  · rcases wd_cases s i h with h | h | h | h <;> omega
  · rw [wd_out h']; omega
theorem wd_lead {s : ByteArray} {i : Nat} (h : 2 ≤ wd s i) : 192 ≤ bt s i := by
  rcases Nat.lt_or_ge i s.size with h' | h'
  · rcases wd_cases s i h' with h | h | h | h <;> omega
  · rw [wd_out h'] at h; omega
theorem wd_cont {s : ByteArray} {i k : Nat} (h0 : 0 < k) (h : k < wd s i) : 128 ≤ bt s (i + k) ∧ bt s (i + k) < 192 := by
  rcases Nat.lt_or_ge i s.size with h' | h'
  · rcases wd_cases s i h' with h1 | h1 | h1 | h1
    · omega
    · obtain rfl : k = 1 := by omega
      omega
    · rcases (show k = 1 ∨ k = 2 by omega) with rfl | rfl <;> omega
    · rcases (show k = 1 ∨ k = 2 ∨ k = 3 by omega) with rfl | rfl | rfl <;> omega
  · rw [wd_out h'] at h; omega

/-- The k-th boundary. -/
def bd (s : ByteArray) : Nat → Nat
  | 0 => 0
  | k + 1 => bd s k + wd s (bd s k)
theorem bd_le (s : ByteArray) (k : Nat) : bd s k ≤ s.size := by
  induction k with
  | zero => exact Nat.zero_le _
  | succ k ih => exact wd_fit ih
theorem bd_mono (s : ByteArray) {j k : Nat} (h : j ≤ k) : bd s j ≤ bd s k := by
  induction k with
  | zero => obtain rfl : j = 0 := by omega
            exact Nat.le_refl _
  | succ k ih =>
    rcases Nat.lt_or_ge k j with h1 | h1
    · obtain rfl : j = k + 1 := by omega
      exact Nat.le_refl _
    · exact Nat.le_trans (ih h1) (Nat.le_add_right _ _)
/-- Each place lies in a symbol, or is the end. -/
theorem cover (s : ByteArray) (i : Nat) (h : i < s.size) : ∃ k, bd s k ≤ i ∧ i < bd s k + wd s (bd s k) := by
  have key : ∀ n, (∃ k, bd s k ≤ i ∧ i < bd s k + wd s (bd s k)) ∨ (n ≤ bd s n ∧ bd s n ≤ i) := by
    intro n
    induction n with
    | zero => right; exact ⟨Nat.le_refl _, Nat.zero_le _⟩
    | succ n ih =>
      rcases ih with ih | ⟨h1, h2⟩
      · exact Or.inl ih
      · rcases Nat.lt_or_ge i (bd s n + wd s (bd s n)) with h3 | h3
        · exact Or.inl ⟨n, h2, h3⟩
        · right
          have hp := wd_pos (s := s) (i := bd s n) (by omega)
          exact ⟨by show n + 1 ≤ bd s n + wd s (bd s n); omega, h3⟩
  rcases key (i + 1) with h1 | h1
  · exact h1
  · omega
theorem bd_end (s : ByteArray) : ∃ k, bd s k = s.size := by
  have key : ∀ n, bd s n = s.size ∨ n ≤ bd s n := by
    intro n
    induction n with
    | zero => right; exact Nat.le_refl _
    | succ n ih =>
      rcases ih with ih | ih
      · left; show bd s n + wd s (bd s n) = s.size; rw [ih, wd_out (Nat.le_refl _)]; omega
      · rcases Nat.lt_or_ge (bd s n) s.size with h | h
        · have hp := wd_pos h
          right; show n + 1 ≤ bd s n + wd s (bd s n); omega
        · left; show bd s n + wd s (bd s n) = s.size
          have := bd_le s n
          rw [wd_out h]; omega
  rcases key (s.size + 1) with h | h
  · exact ⟨_, h⟩
  · have := bd_le s (s.size + 1); omega
def IsB (s : ByteArray) (i : Nat) : Prop := ∃ k, bd s k = i
theorem IsB.le {s : ByteArray} {i : Nat} (h : IsB s i) : i ≤ s.size := by obtain ⟨k, rfl⟩ := h; exact bd_le s k
theorem IsB.zero (s : ByteArray) : IsB s 0 := ⟨0, rfl⟩
theorem IsB.size (s : ByteArray) : IsB s s.size := bd_end s
theorem IsB.next {s : ByteArray} {i : Nat} (h : IsB s i) : IsB s (i + wd s i) := by obtain ⟨k, rfl⟩ := h; exact ⟨k + 1, rfl⟩
theorem lead_bd {s : ByteArray} {j : Nat} (h : 2 ≤ wd s j) : IsB s j := by
  have hj : j < s.size := by
    rcases Nat.lt_or_ge j s.size with h' | h'
    · exact h'
    · rw [wd_out h'] at h; omega
  obtain ⟨k, h1, h2⟩ := cover s j hj
  rcases Nat.eq_or_lt_of_le h1 with h3 | h3
  · exact ⟨k, h3⟩
  · have hc := wd_cont (s := s) (i := bd s k) (k := j - bd s k) (by omega) (by omega)
    rw [show bd s k + (j - bd s k) = j by omega] at hc
    have := wd_lead h
    omega
/-- No boundary lies strictly within a symbol that begins at a boundary. -/
theorem IsB.gap {s : ByteArray} {i j : Nat} (hj : IsB s j) (hi : IsB s i) (h : j < i) : j + wd s j ≤ i := by
  obtain ⟨a, rfl⟩ := hj
  obtain ⟨b, rfl⟩ := hi
  rcases Nat.lt_or_ge a b with h1 | h1
  · exact bd_mono s (j := a + 1) (k := b) h1
  · have := bd_mono s h1; omega
theorem local_bd {s : ByteArray} {i : Nat} (hi : i ≤ s.size) : IsB s i ↔ ∀ k, 1 ≤ k → k ≤ 3 → k ≤ i → wd s (i - k) ≤ k := by
  constructor
  · intro h k h1 h2 h3
    rcases Nat.lt_or_ge k (wd s (i - k)) with h4 | h4
    · have := IsB.gap (lead_bd (s := s) (j := i - k) (by omega)) h (by omega); omega
    · exact h4
  · intro h
    rcases Nat.lt_or_ge i s.size with h1 | h1
    · obtain ⟨k, h2, h3⟩ := cover s i h1
      rcases Nat.eq_or_lt_of_le h2 with h4 | h4
      · exact ⟨k, h4⟩
      · have := wd_le s (bd s k)
        have h5 := h (i - bd s k) (by omega) (by omega) (by omega)
        rw [show i - (i - bd s k) = bd s k by omega] at h5
        omega
    · obtain rfl : i = s.size := by omega
      exact IsB.size s
/-- Of a boundary above 0: the place at which the symbol that ends there begins. -/
theorem IsB.prev {s : ByteArray} {i : Nat} (h : IsB s i) (h0 : 0 < i) : ∃ j, IsB s j ∧ j < i ∧ j + wd s j = i := by
  have hi := h.le
  obtain ⟨k, h1, h2⟩ := cover s (i - 1) (by omega)
  have hg := IsB.gap (s := s) (i := i) (j := bd s k) ⟨k, rfl⟩ h (by omega)
  exact ⟨bd s k, ⟨k, rfl⟩, by omega, by omega⟩
/-- A symbol of k bytes, k from 2 to 4, that ends at a boundary is the one that ends there. -/
theorem ends_bd {s : ByteArray} {i j k : Nat} (hj : IsB s j) (hji : j < i) (hje : j + wd s j = i) (hk : 2 ≤ k) (hki : k ≤ i) (hw : wd s (i - k) = k) : i - k = j := by
  have hb : IsB s (i - k) := lead_bd (by omega)
  rcases Nat.lt_trichotomy (i - k) j with h | h | h
  · have := hb.gap hj h; omega
  · exact h
  · have := hj.gap hb h; omega
/-- How many symbols a text has. -/
def cntF (s : ByteArray) : Nat → Nat → Nat
  | 0, k => k
  | f + 1, k => if bd s k < s.size then cntF s f (k + 1) else k
def cnt (s : ByteArray) : Nat := cntF s s.size 0
theorem cntF_spec (s : ByteArray) : ∀ f k, s.size ≤ bd s k + f → (∀ c, c < k → bd s c < s.size) → bd s (cntF s f k) = s.size ∧ ∀ c, c < cntF s f k → bd s c < s.size := by
  intro f
  induction f with
  | zero =>
    intro k h hc
    have := bd_le s k
    exact ⟨by show bd s k = s.size; omega, hc⟩
  | succ f ih =>
    intro k h hc
    unfold cntF
    split
    · rename_i hlt
      have hp := wd_pos hlt
      refine ih (k + 1) (by show s.size ≤ bd s k + wd s (bd s k) + f; omega) ?_
      intro c hck
      rcases Nat.lt_or_ge c k with h1 | h1
      · exact hc c h1
      · obtain rfl : c = k := by omega
        exact hlt
    · have := bd_le s k
      exact ⟨by omega, hc⟩
theorem cnt_end (s : ByteArray) : bd s (cnt s) = s.size := (cntF_spec s s.size 0 (by show s.size ≤ 0 + s.size; omega) (fun _ h => absurd h (by omega))).1
theorem cnt_lt (s : ByteArray) {c : Nat} (h : c < cnt s) : bd s c < s.size := (cntF_spec s s.size 0 (by show s.size ≤ 0 + s.size; omega) (fun _ h => absurd h (by omega))).2 c h
theorem cnt_uniq {s : ByteArray} {k : Nat} (h : bd s k = s.size) (hc : ∀ c, c < k → bd s c < s.size) : k = cnt s := by
  rcases Nat.lt_trichotomy k (cnt s) with h1 | h1 | h1
  · have := cnt_lt s h1; omega
  · exact h1
  · have := hc _ h1; rw [cnt_end] at this; omega
theorem le_bd {s : ByteArray} {k : Nat} (h : k ≤ cnt s) : k ≤ bd s k := by
  induction k with
  | zero => exact Nat.zero_le _
  | succ k ih =>
    have h1 := wd_pos (cnt_lt s (c := k) (by omega))
    have h2 := ih (by omega)
    show k + 1 ≤ bd s k + wd s (bd s k); omega
theorem cnt_le (s : ByteArray) : cnt s ≤ s.size := by
  have := le_bd (s := s) (k := cnt s) (Nat.le_refl _)
  rw [cnt_end] at this; exact this
/-- The symbols of the first k boundaries. -/
def symsTo (s : ByteArray) (k : Nat) : List Int := (List.range k).map fun c => sy s (bd s c)
def syms (s : ByteArray) : List Int := symsTo s (cnt s)
theorem symsTo_succ (s : ByteArray) (k : Nat) : symsTo s (k + 1) = symsTo s k ++ [sy s (bd s k)] := by simp [symsTo, List.range_succ]
theorem symsTo_length (s : ByteArray) (k : Nat) : (symsTo s k).length = k := by simp [symsTo]
def bdsTo (s : ByteArray) (k : Nat) : List Int := (List.range k).map fun c => (bd s c : Int)
theorem bdsTo_succ (s : ByteArray) (k : Nat) : bdsTo s (k + 1) = bdsTo s k ++ [(bd s k : Int)] := by simp [bdsTo, List.range_succ]
theorem bdsTo_length (s : ByteArray) (k : Nat) : (bdsTo s k).length = k := by simp [bdsTo]
theorem sy_range {s : ByteArray} {i : Nat} (h : i < s.size) : 0 ≤ sy s i ∧ sy s i ≤ 1114367 := by
  have h0 := bt_lt s i; have h1 := bt_lt s (i + 1); have h2 := bt_lt s (i + 2); have h3 := bt_lt s (i + 3)
  unfold sy
  rw [if_pos h]
  split
  · split <;> omega
  · unfold decodeN
    repeat' split
    all_goals (dsimp only; omega)
theorem sy_any (s : ByteArray) (i : Nat) : -1 ≤ sy s i ∧ sy s i ≤ 1114367 := by
  rcases Nat.lt_or_ge i s.size with h | h
  · have := sy_range h; omega
  · unfold sy; rw [if_neg (by omega)]; omega
end ObUtf

namespace ObUtf
open Go.Lib

def rowN (c : Nat) : Nat := if c < 128 then 1 else if c < 194 then 0 else if c < 224 then 2 else if c < 240 then 3 else if c < 245 then 4 else 0
def rowLo (c : Nat) : Nat := if c < 194 then 0 else if c = 224 then 160 else if c = 240 then 144 else if c < 245 then 128 else 0
def rowHi (c : Nat) : Nat := if c < 194 then 0 else if c = 237 then 159 else if c = 244 then 143 else if c < 245 then 191 else 0
theorem rowN_le (c : Nat) : rowN c ≤ 4 := by unfold rowN; repeat' split
                                             all_goals omega
theorem rowLo_lt (c : Nat) : rowLo c < 256 := by unfold rowLo; repeat' split
                                                 all_goals omega
theorem rowHi_lt (c : Nat) : rowHi c < 256 := by unfold rowHi; repeat' split
                                                 all_goals omega
/-- How many bytes the valid sequence has that begins at a place; 0: none does. -/
def sqn (s : ByteArray) (i : Nat) : Nat := if wd s i = 1 ∧ 128 ≤ bt s i then 0 else wd s i

set_option maxHeartbeats 4000000 in
theorem dec_row (n c b1 b2 b3 : Nat) (hn : 1 ≤ n) (hc : c < 256) (h1 : b1 < 256) (h2 : b2 < 256) (h3 : b3 < 256) (h : 2 ≤ rowN c) : decodeN n c b1 b2 b3 = slowN n c b1 b2 b3 (rowN c) (rowLo c) (rowHi c) := by
  have hcl : (194 ≤ c ∧ c < 224) ∨ c = 224 ∨ ((225 ≤ c ∧ c < 237) ∨ (238 ≤ c ∧ c < 240)) ∨ c = 237 ∨ c = 240 ∨ (241 ≤ c ∧ c < 244) ∨ c = 244 := by
    unfold rowN at h; revert h; repeat' split
    all_goals omega
  rcases hcl with k | k | k | k | k | k | k
  · rw [← slow_C2 n c b1 b2 b3 hn h1 h2 h3 k]
    rw [show rowN c = 2 by unfold rowN; repeat' split
                           all_goals omega, show rowLo c = 128 by unfold rowLo; repeat' split
                                                                  all_goals omega, show rowHi c = 191 by unfold rowHi; repeat' split
                                                                                                         all_goals omega]
  · subst k; exact (slow_E0 n _ b1 b2 b3 hn h1 h2 h3 rfl).symm
  · rw [← slow_E1 n c b1 b2 b3 hn h1 h2 h3 k]
    rw [show rowN c = 3 by unfold rowN; repeat' split
                           all_goals omega, show rowLo c = 128 by unfold rowLo; repeat' split
                                                                  all_goals omega, show rowHi c = 191 by unfold rowHi; repeat' split
                                                                                                         all_goals omega]
  · subst k; exact (slow_ED n _ b1 b2 b3 hn h1 h2 h3 rfl).symm
  · subst k; exact (slow_F0 n _ b1 b2 b3 hn h1 h2 h3 rfl).symm
  · rw [← slow_F1 n c b1 b2 b3 hn h1 h2 h3 k]
    rw [show rowN c = 4 by unfold rowN; repeat' split
                           all_goals omega, show rowLo c = 128 by unfold rowLo; repeat' split
                                                                  all_goals omega, show rowHi c = 191 by unfold rowHi; repeat' split
                                                                                                         all_goals omega]
  · subst k; exact (slow_F4 n _ b1 b2 b3 hn h1 h2 h3 rfl).symm
theorem dec_none (n c b1 b2 b3 : Nat) (hc : c < 256) (h : rowN c = 0) : decodeN n c b1 b2 b3 = (65533, 1) := by
  have hcl : (128 ≤ c ∧ c < 194) ∨ 245 ≤ c := by
    unfold rowN at h; revert h; repeat' split
    all_goals omega
  unfold decodeN
  repeat' split
  all_goals first | rfl | (exfalso; omega)
theorem dec_one (n c b1 b2 b3 : Nat) (h : rowN c = 1) : decodeN n c b1 b2 b3 = (c, 1) ∧ c < 128 := by
  have hcl : c < 128 := by
    unfold rowN at h; revert h; repeat' split
    all_goals omega
  exact ⟨by unfold decodeN; rw [if_pos hcl], hcl⟩

section
variable {s : ByteArray} {i : Nat} (hi : i < s.size)
include hi
theorem sqn_few (h : rowN (bt s i) < 2) : sqn s i = rowN (bt s i) := by
  rcases (show rowN (bt s i) = 0 ∨ rowN (bt s i) = 1 by omega) with h0 | h0
  · have e := dec_none (s.size - i) (bt s i) (bt s (i + 1)) (bt s (i + 2)) (bt s (i + 3)) (bt_lt _ _) h0
    have hb : 128 ≤ bt s i := by
      unfold rowN at h0; revert h0; repeat' split
      all_goals omega
    have hw : wd s i = 1 := by unfold wd; rw [if_pos hi, e]
    unfold sqn; rw [if_pos ⟨hw, hb⟩, h0]
  · obtain ⟨e, hb⟩ := dec_one (s.size - i) (bt s i) (bt s (i + 1)) (bt s (i + 2)) (bt s (i + 3)) h0
    have hw : wd s i = 1 := by unfold wd; rw [if_pos hi, e]
    unfold sqn; rw [if_neg (by omega), h0, hw]
omit hi in
theorem row_big (h : 2 ≤ rowN (bt s i)) : 194 ≤ bt s i := by
  unfold rowN at h; revert h; repeat' split
  all_goals omega
theorem wd_row (h : 2 ≤ rowN (bt s i)) : wd s i = (slowN (s.size - i) (bt s i) (bt s (i + 1)) (bt s (i + 2)) (bt s (i + 3)) (rowN (bt s i)) (rowLo (bt s i)) (rowHi (bt s i))).2 := by
  unfold wd
  rw [if_pos hi, dec_row _ _ _ _ _ (by omega) (bt_lt _ _) (bt_lt _ _) (bt_lt _ _) (bt_lt _ _) h]
omit hi in
theorem sqn_zero (h : 2 ≤ rowN (bt s i)) (hw : wd s i = 1) : sqn s i = 0 := by
  have := row_big h
  unfold sqn; rw [if_pos ⟨hw, by omega⟩]
theorem sqn_short (h : 2 ≤ rowN (bt s i)) (hl : s.size - i < rowN (bt s i)) : sqn s i = 0 := by
  refine sqn_zero h ?_
  rw [wd_row hi h]; unfold slowN; rw [if_pos hl]
theorem sqn_second (h : 2 ≤ rowN (bt s i)) (hb : bt s (i + 1) < rowLo (bt s i) ∨ rowHi (bt s i) < bt s (i + 1)) : sqn s i = 0 := by
  refine sqn_zero h ?_
  rw [wd_row hi h]; unfold slowN
  split
  · rfl
  · rfl
theorem sqn_later (h : 2 ≤ rowN (bt s i)) {k : Nat} (hk : 2 ≤ k) (hk2 : k < rowN (bt s i)) (hb : bt s (i + k) < 128 ∨ 191 < bt s (i + k)) : sqn s i = 0 := by
  refine sqn_zero h ?_
  have hl := rowN_le (bt s i)
  rw [wd_row hi h]; unfold slowN
  split
  · rfl
  split
  · rfl
  rw [if_neg (by omega)]
  split
  · rfl
  rename_i h3
  rcases (show k = 2 ∨ k = 3 by omega) with rfl | rfl
  · exact absurd hb h3
  · rw [if_neg (by omega), if_pos hb]
theorem sqn_whole (h : 2 ≤ rowN (bt s i)) (hl : rowN (bt s i) ≤ s.size - i) (h1 : rowLo (bt s i) ≤ bt s (i + 1)) (h2 : bt s (i + 1) ≤ rowHi (bt s i))
    (hb : ∀ k, 2 ≤ k → k < rowN (bt s i) → 128 ≤ bt s (i + k) ∧ bt s (i + k) ≤ 191) : sqn s i = rowN (bt s i) := by
  have hle := rowN_le (bt s i)
  have hw : wd s i = rowN (bt s i) := by
    rw [wd_row hi h]; unfold slowN
    rw [if_neg (by omega), if_neg (by omega)]
    split
    · dsimp only; omega
    · have b2 := hb 2 (by omega) (by omega)
      rw [if_neg (by omega)]
      split
      · dsimp only; omega
      · have b3 := hb 3 (by omega) (by omega)
        rw [if_neg (by omega)]
        dsimp only; omega
  unfold sqn; rw [if_neg (by omega), hw]
omit hi in
theorem sqn_le : sqn s i ≤ 4 := by unfold sqn; split; omega; exact wd_le s i
/-- The symbol by the sequence's width. -/
theorem sy_0 (h : sqn s i = 0) : wd s i = 1 ∧ sy s i = 1114112 + (bt s i : Int) := by
  have hp := wd_pos hi
  unfold sqn at h
  split at h
  · rename_i hc
    refine ⟨hc.1, ?_⟩
    unfold sy; rw [if_pos hi, if_pos hc.1, if_neg (by omega)]
  · omega
theorem sy_1 (h : sqn s i = 1) : wd s i = 1 ∧ sy s i = (bt s i : Int) := by
  unfold sqn at h
  split at h
  · omega
  · refine ⟨h, ?_⟩
    unfold sy; rw [if_pos hi, if_pos h, if_pos (by omega)]
theorem sy_2 (h : sqn s i = 2) : wd s i = 2 ∧ i + 2 ≤ s.size ∧ sy s i = (bt s i : Int) % 32 * 64 + (bt s (i + 1) : Int) % 64 := by
  have hw : wd s i = 2 := by unfold sqn at h; split at h; omega; exact h
  have hf := wd_fit (s := s) (i := i) (by omega)
  refine ⟨hw, by omega, ?_⟩
  unfold sy; rw [if_pos hi, if_neg (by omega)]
  unfold wd at hw; rw [if_pos hi] at hw
  unfold decodeN at hw ⊢
  revert hw
  repeat' split
  all_goals (intro hw; first | (exfalso; revert hw; dsimp only; omega) | (dsimp only; omega))
theorem sy_3 (h : sqn s i = 3) : wd s i = 3 ∧ i + 3 ≤ s.size ∧ sy s i = (bt s i : Int) % 16 * 4096 + (bt s (i + 1) : Int) % 64 * 64 + (bt s (i + 2) : Int) % 64 := by
  have hw : wd s i = 3 := by unfold sqn at h; split at h; omega; exact h
  have hf := wd_fit (s := s) (i := i) (by omega)
  refine ⟨hw, by omega, ?_⟩
  unfold sy; rw [if_pos hi, if_neg (by omega)]
  unfold wd at hw; rw [if_pos hi] at hw
  unfold decodeN at hw ⊢
  revert hw
  repeat' split
  all_goals (intro hw; first | (exfalso; revert hw; dsimp only; omega) | (dsimp only; omega))
theorem sy_4 (h : sqn s i = 4) : wd s i = 4 ∧ i + 4 ≤ s.size ∧ sy s i = (bt s i : Int) % 8 * 262144 + (bt s (i + 1) : Int) % 64 * 4096 + (bt s (i + 2) : Int) % 64 * 64 + (bt s (i + 3) : Int) % 64 := by
  have hw : wd s i = 4 := by unfold sqn at h; split at h; omega; exact h
  have hf := wd_fit (s := s) (i := i) (by omega)
  refine ⟨hw, by omega, ?_⟩
  unfold sy; rw [if_pos hi, if_neg (by omega)]
  unfold wd at hw; rw [if_pos hi] at hw
  unfold decodeN at hw ⊢
  revert hw
  repeat' split
  all_goals (intro hw; first | (exfalso; revert hw; dsimp only; omega) | (dsimp only; omega))
end
end ObUtf

namespace ObUtf
open Go.Lib

theorem size_cat (a b : ByteArray) : (a ++ b).size = a.size + b.size := ByteArray.size_append
theorem get_cat (a b : ByteArray) (i : Nat) : (a ++ b).get! i = if i < a.size then a.get! i else b.get! (i - a.size) := by
  have pos : ∀ (s : ByteArray) (k : Nat) (h : k < s.size), s.get! k = s[k]'h := fun s k h => by cases s with | mk d => exact getElem!_pos d k h
  have neg : ∀ (s : ByteArray) (k : Nat), ¬ k < s.size → s.get! k = default := fun s k h => by cases s with | mk d => exact getElem!_neg d k h
  have hs := size_cat a b
  split
  · rename_i h
    rw [pos _ _ (by omega), pos _ _ h, ByteArray.getElem_append_left h]
  · rename_i h
    by_cases h2 : i < a.size + b.size
    · rw [pos _ _ (by omega), pos _ _ (by omega), ByteArray.getElem_append_right (by omega)]
    · rw [neg _ _ (by omega), neg _ _ (by omega)]
theorem bt_left {a b : ByteArray} {i : Nat} (h : i < a.size) : bt (a ++ b) i = bt a i := by unfold bt; rw [get_cat, if_pos h]
theorem bt_right (a b : ByteArray) (i : Nat) : bt (a ++ b) (a.size + i) = bt b i := by unfold bt; rw [get_cat, if_neg (by omega), show a.size + i - a.size = i by omega]
/-- The second text does not go on with the first one's last symbol. -/
def Fresh (b : ByteArray) : Prop := 0 < b.size → bt b 0 < 128 ∨ 192 ≤ bt b 0
theorem dec_left {a b : ByteArray} (hf : Fresh b) {i : Nat} (h : i < a.size) :
    decodeN ((a ++ b).size - i) (bt (a ++ b) i) (bt (a ++ b) (i + 1)) (bt (a ++ b) (i + 2)) (bt (a ++ b) (i + 3)) = decodeN (a.size - i) (bt a i) (bt a (i + 1)) (bt a (i + 2)) (bt a (i + 3)) := by
  have hs := size_cat a b
  have e0 := bt_left (b := b) h
  have l0 := bt_lt a i
  have hb0 : ∀ k, i + k = a.size → bt (a ++ b) (i + k) = bt b 0 := fun k hk => by rw [hk]; exact bt_right a b 0
  rcases (show a.size - i = 1 ∨ a.size - i = 2 ∨ a.size - i = 3 ∨ 4 ≤ a.size - i by omega) with k | k | k | k
  · have c := hb0 1 (by omega)
    have hc : ¬ (1 < (a ++ b).size - i ∧ bt (a ++ b) (i + 1) / 64 = 2) := fun ⟨h1, h2⟩ => by
      have := hf (by omega); omega
    have hd : ¬ (1 < a.size - i ∧ bt a (i + 1) / 64 = 2) := fun ⟨h1, _⟩ => by omega
    rw [e0]
    unfold decodeN
    simp only [hc, hd, and_false, false_and, if_false]
  · have c := hb0 2 (by omega)
    have e1 := bt_left (a := a) (b := b) (i := i + 1) (by omega)
    have hc : ¬ (2 < (a ++ b).size - i ∧ bt (a ++ b) (i + 2) / 64 = 2) := fun ⟨h1, h2⟩ => by
      have := hf (by omega); omega
    have hd : ¬ (2 < a.size - i ∧ bt a (i + 2) / 64 = 2) := fun ⟨h1, _⟩ => by omega
    have g1 : (1 < (a ++ b).size - i) = (1 < a.size - i) := propext ⟨fun _ => by omega, fun _ => by omega⟩
    rw [e0, e1]
    unfold decodeN
    simp only [hc, hd, g1, and_false, false_and, if_false]
  · have c := hb0 3 (by omega)
    have e1 := bt_left (a := a) (b := b) (i := i + 1) (by omega)
    have e2 := bt_left (a := a) (b := b) (i := i + 2) (by omega)
    have hc : ¬ (3 < (a ++ b).size - i ∧ bt (a ++ b) (i + 3) / 64 = 2) := fun ⟨h1, h2⟩ => by
      have := hf (by omega); omega
    have hd : ¬ (3 < a.size - i ∧ bt a (i + 3) / 64 = 2) := fun ⟨h1, _⟩ => by omega
    have g1 : (1 < (a ++ b).size - i) = (1 < a.size - i) := propext ⟨fun _ => by omega, fun _ => by omega⟩
    have g2 : (2 < (a ++ b).size - i) = (2 < a.size - i) := propext ⟨fun _ => by omega, fun _ => by omega⟩
    rw [e0, e1, e2]
    unfold decodeN
    simp only [hc, hd, g1, g2, and_false, if_false]
  · have e1 := bt_left (a := a) (b := b) (i := i + 1) (by omega)
    have e2 := bt_left (a := a) (b := b) (i := i + 2) (by omega)
    have e3 := bt_left (a := a) (b := b) (i := i + 3) (by omega)
    have g1 : (1 < (a ++ b).size - i) = (1 < a.size - i) := propext ⟨fun _ => by omega, fun _ => by omega⟩
    have g2 : (2 < (a ++ b).size - i) = (2 < a.size - i) := propext ⟨fun _ => by omega, fun _ => by omega⟩
    have g3 : (3 < (a ++ b).size - i) = (3 < a.size - i) := propext ⟨fun _ => by omega, fun _ => by omega⟩
    rw [e0, e1, e2, e3]
    unfold decodeN
    simp only [g1, g2, g3]
theorem wd_left {a b : ByteArray} (hf : Fresh b) {i : Nat} (h : i < a.size) : wd (a ++ b) i = wd a i := by
  have hs := size_cat a b
  unfold wd; rw [if_pos (by omega), if_pos h, dec_left hf h]
theorem sy_left {a b : ByteArray} (hf : Fresh b) {i : Nat} (h : i < a.size) : sy (a ++ b) i = sy a i := by
  have hs := size_cat a b
  unfold sy; rw [if_pos (by omega), if_pos h, wd_left hf h, dec_left hf h, bt_left h]
theorem dec_right (a b : ByteArray) (i : Nat) :
    decodeN ((a ++ b).size - (a.size + i)) (bt (a ++ b) (a.size + i)) (bt (a ++ b) (a.size + i + 1)) (bt (a ++ b) (a.size + i + 2)) (bt (a ++ b) (a.size + i + 3)) = decodeN (b.size - i) (bt b i) (bt b (i + 1)) (bt b (i + 2)) (bt b (i + 3)) := by
  rw [size_cat, show a.size + b.size - (a.size + i) = b.size - i by omega, show a.size + i + 1 = a.size + (i + 1) by omega, show a.size + i + 2 = a.size + (i + 2) by omega, show a.size + i + 3 = a.size + (i + 3) by omega,
    bt_right, bt_right, bt_right, bt_right]
theorem wd_right (a b : ByteArray) (i : Nat) : wd (a ++ b) (a.size + i) = wd b i := by
  have hs := size_cat a b
  unfold wd
  rw [dec_right]
  by_cases h : i < b.size
  · rw [if_pos (by omega), if_pos h]
  · rw [if_neg (by omega), if_neg h]
theorem sy_right (a b : ByteArray) (i : Nat) : sy (a ++ b) (a.size + i) = sy b i := by
  have hs := size_cat a b
  unfold sy
  rw [dec_right, wd_right, bt_right]
  by_cases h : i < b.size
  · rw [if_pos (by omega), if_pos h]
  · rw [if_neg (by omega), if_neg h]
theorem bd_left {a b : ByteArray} (hf : Fresh b) {k : Nat} (h : k ≤ cnt a) : bd (a ++ b) k = bd a k := by
  induction k with
  | zero => rfl
  | succ k ih =>
    have e := ih (by omega)
    show bd (a ++ b) k + wd (a ++ b) (bd (a ++ b) k) = bd a k + wd a (bd a k)
    rw [e, wd_left hf (cnt_lt a (by omega))]
theorem bd_right {a b : ByteArray} (hf : Fresh b) (k : Nat) : bd (a ++ b) (cnt a + k) = a.size + bd b k := by
  induction k with
  | zero =>
    have h1 := bd_left hf (Nat.le_refl (cnt a))
    have h2 := cnt_end a
    show bd (a ++ b) (cnt a) = a.size + 0
    omega
  | succ k ih =>
    show bd (a ++ b) (cnt a + k) + wd (a ++ b) (bd (a ++ b) (cnt a + k)) = a.size + (bd b k + wd b (bd b k))
    rw [ih, wd_right]; omega
theorem cnt_cat {a b : ByteArray} (hf : Fresh b) : cnt (a ++ b) = cnt a + cnt b := by
  have hs := size_cat a b
  refine (cnt_uniq ?_ ?_).symm
  · rw [bd_right hf, cnt_end, hs]
  · intro c hc
    rcases Nat.lt_or_ge c (cnt a) with h | h
    · rw [bd_left hf (by omega)]
      have := cnt_lt a h; omega
    · have h1 := cnt_lt b (c := c - cnt a) (by omega)
      have h2 := bd_right hf (a := a) (c - cnt a)
      rw [show cnt a + (c - cnt a) = c by omega] at h2
      omega
theorem syms_cat {a b : ByteArray} (hf : Fresh b) : syms (a ++ b) = syms a ++ syms b := by
  unfold syms symsTo
  rw [cnt_cat hf, List.range_add, List.map_append, List.map_map]
  congr 1
  · apply List.map_congr_left
    intro c hc
    have hc' : c < cnt a := List.mem_range.1 hc
    rw [bd_left hf (by omega), sy_left hf (cnt_lt a hc')]
  · apply List.map_congr_left
    intro c _
    show sy (a ++ b) (bd (a ++ b) (cnt a + c)) = sy b (bd b c)
    rw [bd_right hf, sy_right]
theorem isB_cat {a b : ByteArray} (hf : Fresh b) : IsB (a ++ b) a.size := ⟨cnt a, by rw [bd_left hf (Nat.le_refl _), cnt_end]⟩
end ObUtf
