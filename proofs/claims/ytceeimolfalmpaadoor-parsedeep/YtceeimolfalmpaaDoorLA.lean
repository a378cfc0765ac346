/-
  Plain: the words of a text (chapter 7), as functions of its bytes: what a 92 begins, where a class ends, its items, numbers, braces, the word at a place, all words or the first fault. No program, no conditions.
  Plain: how a class is gone through item by item, up to its end. No program, no conditions but those written.
-/
import Derived.Test.YtceeimolfalmpaaDoorUA
import Derived.Test.YtceeimolfalmpaaDoorSA
namespace ObLex
open ObUtf ObSets Go.Lib

theorem bt_out {s : ByteArray} {i : Nat} (h : s.size ≤ i) : bt s i = 0 := by
  have e : s.get! i = default := by cases s with | mk d => exact getElem!_neg d i (Nat.not_lt.2 h)
  unfold bt; rw [e]; rfl
theorem bt_in {s : ByteArray} {i : Nat} (h : bt s i ≠ 0) : i < s.size := by
  rcases Nat.lt_or_ge i s.size with h1 | h1
  · exact h1
  · exact absurd (bt_out h1) h
theorem low {s : ByteArray} {i : Nat} (h : i < s.size) (hb : bt s i < 128) : wd s i = 1 ∧ sy s i = (bt s i : Int) := by
  have : wd s i = 1 := by unfold wd; rw [if_pos h]; unfold decodeN; rw [if_pos hb]
  refine ⟨this, ?_⟩
  unfold sy
  rw [if_pos h, if_pos this, if_pos hb]
section
variable {s : ByteArray} {i : Nat} (hi : i < s.size)
include hi
theorem high2 (h : wd s i = 2) : 128 ≤ bt s i % 32 * 64 + bt s (i + 1) % 64 := by
  unfold wd at h; rw [if_pos hi] at h
  unfold decodeN at h
  revert h
  repeat' split
  all_goals (intro h; first | (exfalso; revert h; dsimp only; omega) | omega)
theorem high3 (h : wd s i = 3) : 2048 ≤ bt s i % 16 * 4096 + bt s (i + 1) % 64 * 64 + bt s (i + 2) % 64 := by
  unfold wd at h; rw [if_pos hi] at h
  unfold decodeN at h
  revert h
  repeat' split
  all_goals (intro h; first | (exfalso; revert h; dsimp only; omega) | omega)
theorem high4 (h : wd s i = 4) : 65536 ≤ bt s i % 8 * 262144 + bt s (i + 1) % 64 * 4096 + bt s (i + 2) % 64 * 64 + bt s (i + 3) % 64 := by
  unfold wd at h; rw [if_pos hi] at h
  unfold decodeN at h
  revert h
  repeat' split
  all_goals (intro h; first | (exfalso; revert h; dsimp only; omega) | omega)
theorem high (hb : 128 ≤ bt s i) : 128 ≤ sy s i := by
  have hq : sqn s i = 0 ∨ sqn s i = 2 ∨ sqn s i = 3 ∨ sqn s i = 4 := by
    unfold sqn
    rcases wd_cases s i hi with h | h | h | h <;> split <;> omega
  rcases hq with h | h | h | h
  · have := (sy_0 hi h).2; omega
  · have := sy_2 hi h; have := high2 hi this.1; omega
  · have := sy_3 hi h; have := high3 hi this.1; omega
  · have := sy_4 hi h; have := high4 hi this.1; omega
theorem is {c : Nat} (hc : c < 128) : sy s i = (c : Int) ↔ bt s i = c := by
  rcases Nat.lt_or_ge (bt s i) 128 with h | h
  · have := (low hi h).2; omega
  · have := high hi h; omega
theorem one_of (h : sy s i < 128) : wd s i = 1 ∧ sy s i = (bt s i : Int) := by
  rcases Nat.lt_or_ge (bt s i) 128 with h1 | h1
  · exact low hi h1
  · have := high hi h1; omega
end
theorem sy_out {s : ByteArray} {i : Nat} (h : s.size ≤ i) : sy s i = -1 := by unfold sy; rw [if_neg (by omega)]
theorem sy_neg {s : ByteArray} {i : Nat} : sy s i < 0 ↔ s.size ≤ i := by
  rcases Nat.lt_or_ge i s.size with h | h
  · have := (sy_range h).1; omega
  · rw [sy_out h]; omega

/-- A word: its kind, where it begins, its set, from how often, to how often. -/
structure T where
  kind : Int
  at_ : Int
  set : List R
  mn : Int
  mx : Int
/-- A fault: why, where. -/
abbrev F := Int × Nat
abbrev Res (α : Type) := Except F α

/-- What a 92 begins. -/
inductive Esc
  | bad (e : Int)
  | one (x : Int) (n : Nat)
  | many (l : List R)
def digits : List R := [(48, 57)]
def wordly : List R := [(48, 57), (65, 90), (95, 95), (97, 122)]
def blanks : List R := [(9, 13), (32, 32)]
def kind (x : Int) : List R :=
  if x = 100 then digits else if x = 119 then wordly else if x = 115 then blanks
  else if x = 68 then notL digits else if x = 87 then notL wordly else if x = 83 then notL blanks else []
def alnum (x : Int) : Bool := decide ((97 ≤ x ∧ x ≤ 122) ∨ (65 ≤ x ∧ x ≤ 90) ∨ (48 ≤ x ∧ x ≤ 57))
def escOf (x : Int) (n : Nat) : Esc :=
  if x < 0 then .bad 4
  else if x = 110 then .one 10 2 else if x = 116 then .one 9 2 else if x = 114 then .one 13 2
  else if kind x ≠ [] then .many (kind x)
  else if 49 ≤ x ∧ x ≤ 57 then .bad 5
  else if alnum x = true then .bad 4
  else .one x (1 + n)
def esc (s : ByteArray) (i : Nat) : Esc := escOf (sy s (i + 1)) (wd s (i + 1))

/-- Where a class ends, gone through from a place within it. -/
def cend (s : ByteArray) (k : Nat) : Option Nat :=
  if _h : k < s.size then
    if bt s k = 93 then some k
    else if bt s k = 92 then (if h2 : k + 1 < s.size then cend s (k + 1 + wd s (k + 1)) else none)
    else cend s (k + wd s k)
  else none
termination_by s.size - k
decreasing_by
  · have := wd_pos h2; omega
  · have := wd_pos _h; omega
/-- What begins at a place within a class. -/
def unit (s : ByteArray) (p : Nat) : Esc :=
  if bt s p = 92 then esc s p else if bt s p = 45 ∨ bt s p = 93 then .bad 4 else .one (sy s p) (wd s p)
/-- An item of a class: its symbols, and where the next one begins. -/
def item (s : ByteArray) (p : Nat) : Res (List R × Nat) :=
  match unit s p with
  | .bad e => .error (e, p)
  | .many l => .ok (l, p + 2)
  | .one x n =>
    if bt s (p + n) = 45 then
      match unit s (p + n + 1) with
      | .one y m => if y < x then .error (4, p) else .ok ([(x, y)], p + n + 1 + m)
      | _ => .error (4, p + n)
    else .ok ([(x, x)], p + n)
/-- All items from a place on. -/
def items (s : ByteArray) (to : Nat) (p : Nat) : Res (List R) :=
  if _h : p < to then
    match item s p with
    | .error f => .error f
    | .ok (m, q) => if _h2 : p < q then (match items s to q with | .error f => .error f | .ok l => .ok (m ++ l)) else .error (0, 0)
  else .ok []
termination_by to - p
/-- A class: its set, and where it is passed. -/
def cls (s : ByteArray) (i : Nat) : Res (List R × Nat) :=
  match cend s (i + 1) with
  | none => .error (4, i)
  | some to =>
    let neg := bt s (i + 1) = 94
    let from_ := if neg then i + 2 else i + 1
    if to = from_ then .error (4, to)
    else match items s to from_ with
      | .error f => .error f
      | .ok l => .ok (if neg then notL l else nrm l, to + 1)

/-- How many decimal digits stand at a place, and what they say. -/
def dg (s : ByteArray) (i : Nat) : Nat :=
  if _h : i < s.size then (if 48 ≤ bt s i ∧ bt s i ≤ 57 then dg s (i + 1) + 1 else 0) else 0
termination_by s.size - i
def val (s : ByteArray) (i : Nat) : Nat → Nat
  | 0 => 0
  | n + 1 => val s i n * 10 + (bt s (i + n) - 48)
def num (s : ByteArray) (i : Nat) : Nat := val s i (dg s i)
/-- Braces: from how often, to how often (-2: a budget), and where they are passed. -/
def braces (s : ByteArray) (i : Nat) : Res (Int × Int × Int × Nat) :=
  if bt s (i + 1) = 126 then
    if dg s (i + 2) = 0 ∨ bt s (i + 2 + dg s (i + 2)) ≠ 125 then .error (4, i)
    else if 255 < num s (i + 2) then .error (7, i + 2)
    else .ok (7, num s (i + 2), 0, i + 2 + dg s (i + 2) + 1)
  else if dg s (i + 1) = 0 then .error (4, i)
  else
    let p := i + 1 + dg s (i + 1)
    let a := num s (i + 1)
    if bt s p = 44 then
      let m := dg s (p + 1)
      let q := p + 1 + m
      if bt s q ≠ 125 then .error (4, i)
      else if 255 < a then .error (7, i + 1)
      else if m = 0 then .ok (6, a, -1, q + 1)
      else if 255 < num s (p + 1) ∨ num s (p + 1) < a then .error (7, p + 1)
      else .ok (6, a, num s (p + 1), q + 1)
    else if bt s p = 125 then (if 255 < a then .error (7, i + 1) else .ok (6, a, a, p + 1))
    else .error (4, i)

/-- The word at a place, and where it is passed. -/
def word (s : ByteArray) (i : Nat) : Res (T × Nat) :=
  let c := bt s i
  if c = 92 then
    match esc s i with
    | .bad e => .error (e, i)
    | .one x n => .ok (⟨1, i, [(x, x)], 0, 0⟩, i + n)
    | .many l => .ok (⟨1, i, l, 0, 0⟩, i + 2)
  else if c = 91 then
    match cls s i with
    | .error f => .error f
    | .ok (l, j) => .ok (⟨1, i, l, 0, 0⟩, j)
  else if c = 123 then
    match braces s i with
    | .error f => .error f
    | .ok (k, a, b, j) => .ok (⟨k, i, [], a, b⟩, j)
  else if c = 93 ∨ c = 125 then .error (4, i)
  else if c = 46 then .ok (⟨1, i, notL [(10, 10)], 0, 0⟩, i + 1)
  else if c = 40 then (if bt s (i + 1) = 63 ∧ bt s (i + 2) = 58 then .ok (⟨3, i, [], 0, 0⟩, i + 3) else .ok (⟨2, i, [], 0, 0⟩, i + 1))
  else if c = 41 then .ok (⟨4, i, [], 0, 0⟩, i + 1)
  else if c = 124 then .ok (⟨5, i, [], 0, 0⟩, i + 1)
  else if c = 94 then .ok (⟨8, i, [], 0, 0⟩, i + 1)
  else if c = 36 then .ok (⟨9, i, [], 0, 0⟩, i + 1)
  else if c = 42 then .ok (⟨6, i, [], 0, -1⟩, i + 1)
  else if c = 43 then .ok (⟨6, i, [], 1, -1⟩, i + 1)
  else if c = 63 then .ok (⟨6, i, [], 0, 1⟩, i + 1)
  else .ok (⟨1, i, [(sy s i, sy s i)], 0, 0⟩, i + wd s i)

/-- All words from a place on, or the first fault. -/
def toks (s : ByteArray) (i : Nat) : Res (List T) :=
  if _h : i < s.size then
    match word s i with
    | .error f => .error f
    | .ok (t, j) => if _h2 : i < j then (match toks s j with | .error f => .error f | .ok l => .ok (t :: l)) else .error (0, 0)
  else .ok []
termination_by s.size - i
end ObLex

namespace ObLex
open ObUtf ObSets

theorem cend_out {s : ByteArray} {k : Nat} (h : s.size ≤ k) : cend s k = none := by rw [cend, dif_neg (by omega)]
theorem cend_end {s : ByteArray} {k : Nat} (h : bt s k = 93) : cend s k = some k := by rw [cend, dif_pos (bt_in (by omega)), if_pos h]
theorem cend_esc {s : ByteArray} {k : Nat} (h : bt s k = 92) (h1 : k + 1 < s.size) : cend s k = cend s (k + 1 + wd s (k + 1)) := by rw [cend, dif_pos (bt_in (by omega)), if_neg (by omega), if_pos h, dif_pos h1]
theorem cend_esc0 {s : ByteArray} {k : Nat} (h : bt s k = 92) (h1 : s.size ≤ k + 1) : cend s k = none := by rw [cend, dif_pos (bt_in (by omega)), if_neg (by omega), if_pos h, dif_neg (by omega)]
theorem cend_step {s : ByteArray} {k : Nat} (h : k < s.size) (h1 : bt s k ≠ 93) (h2 : bt s k ≠ 92) : cend s k = cend s (k + wd s k) := by rw [cend, dif_pos h, if_neg h1, if_neg h2]
/-- Behind a 92 and what it takes along. -/
theorem cend_two {s : ByteArray} {k : Nat} (h : bt s k = 92) : cend s k = cend s (k + 1 + wd s (k + 1)) := by
  rcases Nat.lt_or_ge (k + 1) s.size with h1 | h1
  · exact cend_esc h h1
  · rw [cend_esc0 h h1, wd_out h1, cend_out (by omega)]
theorem cend_low {s : ByteArray} {k : Nat} (h : bt s k < 128) (h0 : bt s k ≠ 0) (h1 : bt s k ≠ 93) (h2 : bt s k ≠ 92) : cend s k = cend s (k + 1) := by
  have hk := bt_in h0
  rw [cend_step hk h1 h2, (low hk h).1]
theorem cend_le {s : ByteArray} {to : Nat} : ∀ (n k : Nat), s.size - k ≤ n → cend s k = some to → k ≤ to ∧ to < s.size ∧ bt s to = 93
  | 0, k, hn, h => by rw [cend_out (by omega)] at h; cases h
  | n + 1, k, hn, h => by
    by_cases hk : k < s.size
    · by_cases h93 : bt s k = 93
      · rw [cend_end h93] at h; injection h with h; subst h; exact ⟨Nat.le_refl _, hk, h93⟩
      · by_cases h92 : bt s k = 92
        · rw [cend_two h92] at h
          have := cend_le n _ (by omega) h
          omega
        · rw [cend_step hk h93 h92] at h
          have hp := wd_pos hk
          have := cend_le n _ (by omega) h
          omega
    · rw [cend_out (by omega)] at h; cases h
theorem cend_some {s : ByteArray} {k to : Nat} (h : cend s k = some to) : k ≤ to ∧ to < s.size ∧ bt s to = 93 := cend_le _ k (Nat.le_refl _) h
theorem cend_lt {s : ByteArray} {k to : Nat} (h : cend s k = some to) : k < s.size := by have := cend_some h; omega
theorem cend_here {s : ByteArray} {k to : Nat} (h : cend s k = some to) : bt s k = 93 ↔ k = to := by
  constructor
  · intro h1; rw [cend_end h1] at h; injection h
  · rintro rfl; exact (cend_some h).2.2
theorem esc_one_wd {s : ByteArray} {p : Nat} {x : Int} {n : Nat} (h : esc s p = .one x n) : n = 1 + wd s (p + 1) := by
  unfold esc escOf at h
  split at h
  · cases h
  · rename_i h0
    have hi : p + 1 < s.size := by
      rcases Nat.lt_or_ge (p + 1) s.size with h1 | h1
      · exact h1
      · exact absurd (sy_neg.2 h1) h0
    have ho : sy s (p + 1) < 128 → wd s (p + 1) = 1 := fun h => (one_of hi h).1
    (repeat' split at h) <;> first | (cases h; done) | (injection h with h1 h2; omega)
theorem esc_many_wd {s : ByteArray} {p : Nat} {l : List R} (h : esc s p = .many l) : wd s (p + 1) = 1 := by
  unfold esc escOf at h
  split at h
  · cases h
  · rename_i h0
    have hi : p + 1 < s.size := by
      rcases Nat.lt_or_ge (p + 1) s.size with h1 | h1
      · exact h1
      · exact absurd (sy_neg.2 h1) h0
    have hk : ¬ sy s (p + 1) < 128 → kind (sy s (p + 1)) = [] := fun h => by
      unfold kind
      rw [if_neg (by omega), if_neg (by omega), if_neg (by omega), if_neg (by omega), if_neg (by omega), if_neg (by omega)]
    by_cases hlt : sy s (p + 1) < 128
    · exact (one_of hi hlt).1
    · rw [hk hlt] at h
      simp only [ne_eq, not_true_eq_false, if_false] at h
      (repeat' split at h) <;> cases h
theorem unit_one {s : ByteArray} {p to : Nat} {x : Int} {n : Nat} (h : cend s p = some to) (hu : unit s p = .one x n) : cend s (p + n) = some to ∧ 1 ≤ n ∧ p < to := by
  have hp := cend_some h
  have hl := cend_lt h
  unfold unit at hu
  split at hu
  · rename_i h92
    have e := esc_one_wd hu
    rw [cend_two h92] at h
    have hne : p ≠ to := fun e => by subst e; omega
    exact ⟨by rw [e, ← Nat.add_assoc]; exact h, by omega, by omega⟩
  · rename_i h92
    split at hu
    · cases hu
    · rename_i hd
      injection hu with _ hn
      subst hn
      rw [cend_step hl (by omega) h92] at h
      have hne : p ≠ to := fun e => by subst e; omega
      exact ⟨h, wd_pos hl, by omega⟩
theorem unit_many {s : ByteArray} {p to : Nat} {l : List R} (h : cend s p = some to) (hu : unit s p = .many l) : cend s (p + 2) = some to := by
  unfold unit at hu
  split at hu
  · rename_i h92
    have e := esc_many_wd hu
    rw [cend_two h92, e] at h
    exact h
  · split at hu <;> cases hu
theorem dash {s : ByteArray} {p to : Nat} (h : cend s p = some to) (hd : bt s p = 45) : cend s (p + 1) = some to := by
  rw [← cend_low (by omega) (by omega) (by omega) (by omega)]; exact h
/-- Behind a range's - there is a byte. -/
theorem item_in {s : ByteArray} {p to : Nat} (h : cend s p = some to) : ∀ x n, unit s p = .one x n → bt s (p + n) = 45 → p + n + 1 < s.size := fun _ _ hu hd => cend_lt (dash (unit_one h hu).1 hd)
theorem item_next {s : ByteArray} {p to : Nat} {m : List R} {q : Nat} (h : cend s p = some to) (hi : item s p = .ok (m, q)) : p < q ∧ cend s q = some to := by
  unfold item at hi
  split at hi
  · cases hi
  · rename_i l hu
    injection hi with hi; injection hi with h1 h2
    subst h2
    exact ⟨by omega, unit_many h hu⟩
  · rename_i x n hu
    obtain ⟨h1, hn, _⟩ := unit_one h hu
    split at hi
    · rename_i hd
      have h2 := dash h1 hd
      split at hi
      · rename_i y k hu2
        obtain ⟨h3, hk, _⟩ := unit_one h2 hu2
        split at hi
        · cases hi
        · injection hi with hi; injection hi with _ h4
          subst h4
          exact ⟨by omega, h3⟩
      · cases hi
    · injection hi with hi; injection hi with _ h4
      subst h4
      exact ⟨by omega, h1⟩
theorem kind_len (x : Int) : (kind x).length ≤ 5 := by
  unfold kind
  repeat' split
  all_goals first | decide | (refine Nat.le_trans (notL_len _) ?_; decide)
theorem esc_many_kind {s : ByteArray} {p : Nat} {l : List R} (h : esc s p = .many l) : l = kind (sy s (p + 1)) := by
  unfold esc escOf at h
  (repeat' split at h) <;> first | (cases h; done) | (injection h with h; exact h.symm)
theorem item_len {s : ByteArray} {p : Nat} {m : List R} {q : Nat} (hi : item s p = .ok (m, q)) : m.length ≤ 5 := by
  unfold item at hi
  split at hi
  · cases hi
  · rename_i l hu
    injection hi with hi; injection hi with h1 h2
    subst h1
    unfold unit at hu
    split at hu
    · rw [esc_many_kind hu]; exact kind_len _
    · split at hu <;> cases hu
  · split at hi
    · split at hi
      · split at hi
        · cases hi
        · injection hi with hi; injection hi with h1 _; subst h1; simp
      · cases hi
    · injection hi with hi; injection hi with h1 _; subst h1; simp
/-- Ahead of what a rest tells. -/
def pre {α : Type} (l : List α) : Res (List α) → Res (List α)
  | .error f => .error f
  | .ok m => .ok (l ++ m)
theorem pre_nil {α : Type} (r : Res (List α)) : pre [] r = r := by cases r <;> rfl
theorem pre_pre {α : Type} (a b : List α) (r : Res (List α)) : pre a (pre b r) = pre (a ++ b) r := by cases r <;> simp [pre]
theorem items_bad {s : ByteArray} {p to : Nat} {f : F} (h : p < to) (hi : item s p = .error f) : items s to p = .error f := by rw [items, dif_pos h, hi]
theorem items_ok {s : ByteArray} {p to : Nat} {m : List R} {q : Nat} (h : p < to) (hi : item s p = .ok (m, q)) (hq : p < q) : items s to p = pre m (items s to q) := by
  rw [items, dif_pos h, hi]
  dsimp only
  rw [dif_pos hq]
  cases items s to q <;> rfl
theorem items_end {s : ByteArray} {p to : Nat} (h : to ≤ p) : items s to p = .ok [] := by rw [items, dif_neg (by omega)]
/-- The class from its [ on. -/
theorem cend_open {s : ByteArray} {i : Nat} (h : bt s i = 91) : cend s i = cend s (i + 1) := cend_low (by omega) (by omega) (by omega) (by omega)
theorem cend_from {s : ByteArray} {i : Nat} : cend s (if bt s i = 94 then i + 1 else i) = cend s i := by
  split
  · rename_i h; exact (cend_low (by omega) (by omega) (by omega) (by omega)).symm
  · rfl
end ObLex
