/-
  Plain: what stands in the second one of two texts is told as in that text alone, so many places further. No program, no conditions but those written.
  Plain: what stands in the first one of two texts is told as in that text alone, where the second one does not go on with its last symbol and the first one's words have no fault. No program, no conditions but those written.
-/
import Derived.Test.YtekpliookdihlaaDoorLA
namespace ObLex
open ObUtf ObSets

def shF (n : Nat) (f : F) : F := (f.1, n + f.2)
def sht (n : Nat) (t : T) : T := ⟨t.kind, t.at_ + n, t.set, t.mn, t.mx⟩
def shI {α : Type} (n : Nat) : Res (α × Nat) → Res (α × Nat)
  | .error f => .error (shF n f)
  | .ok (l, q) => .ok (l, n + q)
def shL {α : Type} (n : Nat) : Res α → Res α
  | .error f => .error (shF n f)
  | .ok l => .ok l
def shB (n : Nat) : Res (Int × Int × Int × Nat) → Res (Int × Int × Int × Nat)
  | .error f => .error (shF n f)
  | .ok (k, a, b, q) => .ok (k, a, b, n + q)
def shW (n : Nat) : Res (T × Nat) → Res (T × Nat)
  | .error f => .error (shF n f)
  | .ok (t, q) => .ok (sht n t, n + q)
def shT (n : Nat) : Res (List T) → Res (List T)
  | .error f => .error (shF n f)
  | .ok l => .ok (l.map (sht n))
variable (a b : ByteArray)
theorem esc_right (i : Nat) : esc (a ++ b) (a.size + i) = esc b i := by
  unfold esc
  rw [Nat.add_assoc, sy_right, wd_right]
theorem unit_right (p : Nat) : unit (a ++ b) (a.size + p) = unit b p := by
  unfold unit
  rw [bt_right, esc_right, sy_right, wd_right]
theorem item_right (p : Nat) : item (a ++ b) (a.size + p) = shI a.size (item b p) := by
  unfold item
  rw [unit_right]
  cases unit b p with
  | bad e => rfl
  | many l => rfl
  | one x n =>
    dsimp only
    rw [show a.size + p + n = a.size + (p + n) by omega, bt_right, show a.size + (p + n) + 1 = a.size + (p + n + 1) by omega, unit_right]
    by_cases h : bt b (p + n) = 45
    · rw [if_pos h, if_pos h]
      cases unit b (p + n + 1) with
      | bad e => rfl
      | many l => rfl
      | one y m =>
        dsimp only
        by_cases h2 : y < x
        · rw [if_pos h2, if_pos h2]; rfl
        · rw [if_neg h2, if_neg h2]; simp [shI, Nat.add_assoc]
    · rw [if_neg h, if_neg h]; rfl
theorem cend_right : ∀ (n k : Nat), b.size - k ≤ n → cend (a ++ b) (a.size + k) = (cend b k).map (a.size + ·)
  | 0, k, hn => by
    rw [cend_out (by rw [size_cat]; omega), cend_out (by omega)]; rfl
  | n + 1, k, hn => by
    have hs := size_cat a b
    by_cases hk : k < b.size
    · by_cases h93 : bt b k = 93
      · rw [cend_end (k := a.size + k) (by rw [bt_right]; exact h93), cend_end h93]; rfl
      · by_cases h92 : bt b k = 92
        · rw [cend_two (k := a.size + k) (by rw [bt_right]; exact h92), cend_two h92, Nat.add_assoc a.size k 1, wd_right, Nat.add_assoc a.size]
          exact cend_right n _ (by omega)
        · rw [cend_step (k := a.size + k) (by omega) (by rw [bt_right]; exact h93) (by rw [bt_right]; exact h92), cend_step hk h93 h92, wd_right, Nat.add_assoc a.size]
          have := wd_pos hk
          exact cend_right n _ (by omega)
    · rw [cend_out (by omega), cend_out (by omega)]; rfl
theorem items_right {to : Nat} : ∀ (n p : Nat), to - p ≤ n → cend b p = some to → items (a ++ b) (a.size + to) (a.size + p) = shL a.size (items b to p)
  | 0, p, hn, h => by
    rw [items_end (by omega), items_end (by omega)]; rfl
  | n + 1, p, hn, h => by
    by_cases hp : p < to
    · cases hi : item b p with
      | error f =>
        rw [items_bad hp hi, items_bad (f := shF a.size f) (by omega) (by rw [item_right, hi]; rfl)]; rfl
      | ok y =>
        obtain ⟨m, q⟩ := y
        obtain ⟨h1, h2⟩ := item_next h hi
        rw [items_ok hp hi h1, items_ok (m := m) (q := a.size + q) (by omega) (by rw [item_right, hi]; rfl) (by omega), items_right n q (by omega) h2]
        cases items b to q <;> rfl
    · rw [items_end (by omega), items_end (by omega)]; rfl
theorem cls_right (i : Nat) : cls (a ++ b) (a.size + i) = shI a.size (cls b i) := by
  unfold cls
  rw [Nat.add_assoc, cend_right a b _ _ (Nat.le_refl _), bt_right]
  cases h : cend b (i + 1) with
  | none => rfl
  | some to =>
    dsimp only [Option.map]
    have hf : (if bt b (i + 1) = 94 then a.size + i + 2 else a.size + (i + 1)) = a.size + (if bt b (i + 1) = 94 then i + 2 else i + 1) := by split <;> omega
    rw [hf]
    have hc : cend b (if bt b (i + 1) = 94 then i + 2 else i + 1) = some to := by
      have := cend_from (s := b) (i := i + 1)
      rw [← h]; exact this
    generalize (if bt b (i + 1) = 94 then i + 2 else i + 1) = f at *
    by_cases ht : to = f
    · rw [if_pos (by omega), if_pos ht]; rfl
    · rw [if_neg (by omega), if_neg ht, items_right a b _ f (Nat.le_refl _) hc]
      cases items b to f <;> rfl
theorem dg_right : ∀ (n i : Nat), b.size - i ≤ n → dg (a ++ b) (a.size + i) = dg b i
  | 0, i, hn => by rw [dg, dif_neg (by rw [size_cat]; omega)]; conv => rhs; rw [dg, dif_neg (by omega)]
  | n + 1, i, hn => by
    have hs := size_cat a b
    by_cases hi : i < b.size
    · rw [dg, dif_pos (by omega), bt_right, Nat.add_assoc]
      conv => rhs; rw [dg, dif_pos hi]
      split
      · rw [dg_right n (i + 1) (by omega)]
      · rfl
    · rw [dg, dif_neg (by omega)]; conv => rhs; rw [dg, dif_neg hi]
theorem dg_r (i : Nat) : dg (a ++ b) (a.size + i) = dg b i := dg_right a b _ i (Nat.le_refl _)
theorem val_right (i : Nat) : ∀ n, val (a ++ b) (a.size + i) n = val b i n
  | 0 => rfl
  | n + 1 => by
    show val (a ++ b) (a.size + i) n * 10 + (bt (a ++ b) (a.size + i + n) - 48) = val b i n * 10 + (bt b (i + n) - 48)
    rw [val_right i n, Nat.add_assoc, bt_right]
theorem num_right (i : Nat) : num (a ++ b) (a.size + i) = num b i := by unfold num; rw [dg_r, val_right]
theorem braces_right (i : Nat) : braces (a ++ b) (a.size + i) = shB a.size (braces b i) := by
  unfold braces
  rw [Nat.add_assoc, Nat.add_assoc, bt_right, dg_r, num_right, dg_r, num_right]
  dsimp only
  rw [show a.size + (i + 2) + dg b (i + 2) = a.size + (i + 2 + dg b (i + 2)) by omega, show a.size + (i + 1) + dg b (i + 1) = a.size + (i + 1 + dg b (i + 1)) by omega, bt_right, bt_right]
  generalize i + 2 + dg b (i + 2) = j2
  generalize hj : i + 1 + dg b (i + 1) = j1
  rw [show a.size + j1 + 1 = a.size + (j1 + 1) by omega, dg_r, num_right]
  rw [show a.size + (j1 + 1) + dg b (j1 + 1) = a.size + (j1 + 1 + dg b (j1 + 1)) by omega, bt_right]
  by_cases h1 : bt b (i + 1) = 126
  · rw [if_pos h1, if_pos h1]
    by_cases h2 : dg b (i + 2) = 0 ∨ bt b j2 ≠ 125
    · rw [if_pos h2, if_pos h2]; rfl
    · rw [if_neg h2, if_neg h2]
      by_cases h3 : 255 < num b (i + 2)
      · rw [if_pos h3, if_pos h3]; rfl
      · rw [if_neg h3, if_neg h3]; rfl
  · rw [if_neg h1, if_neg h1]
    by_cases h2 : dg b (i + 1) = 0
    · rw [if_pos h2, if_pos h2]; rfl
    · rw [if_neg h2, if_neg h2]
      by_cases h3 : bt b j1 = 44
      · rw [if_pos h3, if_pos h3]
        generalize j1 + 1 + dg b (j1 + 1) = j3
        by_cases h4 : bt b j3 ≠ 125
        · rw [if_pos h4, if_pos h4]; rfl
        · rw [if_neg h4, if_neg h4]
          by_cases h5 : 255 < num b (i + 1)
          · rw [if_pos h5, if_pos h5]; rfl
          · rw [if_neg h5, if_neg h5]
            by_cases h6 : dg b (j1 + 1) = 0
            · rw [if_pos h6, if_pos h6]; rfl
            · rw [if_neg h6, if_neg h6]
              by_cases h7 : 255 < num b (j1 + 1) ∨ num b (j1 + 1) < num b (i + 1)
              · rw [if_pos h7, if_pos h7]; rfl
              · rw [if_neg h7, if_neg h7]; rfl
      · rw [if_neg h3, if_neg h3]
        by_cases h4 : bt b j1 = 125
        · rw [if_pos h4, if_pos h4]
          by_cases h5 : 255 < num b (i + 1)
          · rw [if_pos h5, if_pos h5]; rfl
          · rw [if_neg h5, if_neg h5]; rfl
        · rw [if_neg h4, if_neg h4]; rfl
theorem plus_int (n i : Nat) : ((n + i : Nat) : Int) = (i : Int) + (n : Int) := by omega
theorem word_right (i : Nat) : word (a ++ b) (a.size + i) = shW a.size (word b i) := by
  unfold word
  rw [bt_right, esc_right, cls_right, braces_right, Nat.add_assoc, Nat.add_assoc, bt_right, bt_right, sy_right, wd_right]
  dsimp only
  rw [plus_int]
  by_cases h1 : bt b i = 92
  · rw [if_pos h1, if_pos h1]
    cases esc b i with
    | bad e => rfl
    | one x n => dsimp only; rw [Nat.add_assoc]; rfl
    | many l => rfl
  · rw [if_neg h1, if_neg h1]
    by_cases h2 : bt b i = 91
    · rw [if_pos h2, if_pos h2]
      cases cls b i with
      | error f => rfl
      | ok y => obtain ⟨l, j⟩ := y; rfl
    · rw [if_neg h2, if_neg h2]
      by_cases h3 : bt b i = 123
      · rw [if_pos h3, if_pos h3]
        cases braces b i with
        | error f => rfl
        | ok y => obtain ⟨k, m, n, j⟩ := y; rfl
      · rw [if_neg h3, if_neg h3]
        by_cases h4 : bt b i = 93 ∨ bt b i = 125
        · rw [if_pos h4, if_pos h4]; rfl
        · rw [if_neg h4, if_neg h4]
          by_cases h5 : bt b i = 46
          · rw [if_pos h5, if_pos h5]; rfl
          · rw [if_neg h5, if_neg h5]
            by_cases h6 : bt b i = 40
            · rw [if_pos h6, if_pos h6]
              by_cases h7 : bt b (i + 1) = 63 ∧ bt b (i + 2) = 58
              · rw [if_pos h7, if_pos h7]; rfl
              · rw [if_neg h7, if_neg h7]; rfl
            · rw [if_neg h6, if_neg h6]
              by_cases h7 : bt b i = 41
              · rw [if_pos h7, if_pos h7]; rfl
              · rw [if_neg h7, if_neg h7]
                by_cases h8 : bt b i = 124
                · rw [if_pos h8, if_pos h8]; rfl
                · rw [if_neg h8, if_neg h8]
                  by_cases h9 : bt b i = 94
                  · rw [if_pos h9, if_pos h9]; rfl
                  · rw [if_neg h9, if_neg h9]
                    by_cases h10 : bt b i = 36
                    · rw [if_pos h10, if_pos h10]; rfl
                    · rw [if_neg h10, if_neg h10]
                      by_cases h11 : bt b i = 42
                      · rw [if_pos h11, if_pos h11]; rfl
                      · rw [if_neg h11, if_neg h11]
                        by_cases h12 : bt b i = 43
                        · rw [if_pos h12, if_pos h12]; rfl
                        · rw [if_neg h12, if_neg h12]
                          by_cases h13 : bt b i = 63
                          · rw [if_pos h13, if_pos h13]; rfl
                          · rw [if_neg h13, if_neg h13]; simp [shW, sht, Nat.add_assoc]
end ObLex

namespace ObLex
open ObUtf ObSets

section
variable {a b : ByteArray} (hf : Fresh b)
include hf
theorem esc_left {i : Nat} (h : i + 1 < a.size) : esc (a ++ b) i = esc a i := by
  unfold esc
  rw [sy_left hf h, wd_left hf h]
theorem unit_left {p : Nat} (h : p < a.size) (h1 : bt a p = 92 → p + 1 < a.size) : unit (a ++ b) p = unit a p := by
  unfold unit
  rw [bt_left h, sy_left hf h, wd_left hf h]
  by_cases h92 : bt a p = 92
  · rw [if_pos h92, if_pos h92, esc_left hf (h1 h92)]
  · rw [if_neg h92, if_neg h92]
theorem cend_left {to : Nat} : ∀ (n k : Nat), a.size - k ≤ n → cend a k = some to → cend (a ++ b) k = some to
  | 0, k, hn, h => by rw [cend_out (by omega)] at h; cases h
  | n + 1, k, hn, h => by
    have hs := size_cat a b
    by_cases hk : k < a.size
    · by_cases h93 : bt a k = 93
      · rw [cend_end h93] at h; rw [cend_end (by rw [bt_left hk]; exact h93)]; exact h
      · by_cases h92 : bt a k = 92
        · rcases Nat.lt_or_ge (k + 1) a.size with h1 | h1
          · rw [cend_two h92] at h
            rw [cend_two (k := k) (by rw [bt_left hk]; exact h92), wd_left hf h1]
            exact cend_left n _ (by omega) h
          · rw [cend_esc0 h92 h1] at h; cases h
        · rw [cend_step hk h93 h92] at h
          rw [cend_step (k := k) (by omega) (by rw [bt_left hk]; exact h93) (by rw [bt_left hk]; exact h92), wd_left hf hk]
          have := wd_pos hk
          exact cend_left n _ (by omega) h
    · rw [cend_out (by omega)] at h; cases h
theorem item_left {p to : Nat} (h : cend a p = some to) : item (a ++ b) p = item a p := by
  have hp := cend_lt h
  have h92 : ∀ {p}, cend a p = some to → bt a p = 92 → p + 1 < a.size := fun h h92 => by
    rcases Nat.lt_or_ge (_ + 1) a.size with h1 | h1
    · exact h1
    · rw [cend_esc0 h92 h1] at h; cases h
  unfold item
  rw [unit_left hf hp (h92 h)]
  cases hu : unit a p with
  | bad e => rfl
  | many l => rfl
  | one x n =>
    obtain ⟨h1, hn, _⟩ := unit_one h hu
    have hl := cend_lt h1
    dsimp only
    rw [bt_left hl]
    by_cases hd : bt a (p + n) = 45
    · have h2 := dash h1 hd
      rw [unit_left hf (cend_lt h2) (h92 h2)]
    · rw [if_neg hd, if_neg hd]
theorem items_left {to : Nat} : ∀ (n p : Nat), to - p ≤ n → cend a p = some to → items (a ++ b) to p = items a to p
  | 0, p, hn, h => by rw [items_end (by omega), items_end (by omega)]
  | n + 1, p, hn, h => by
    by_cases hp : p < to
    · cases hi : item a p with
      | error f => rw [items_bad hp hi, items_bad (f := f) hp (by rw [item_left hf h]; exact hi)]
      | ok y =>
        obtain ⟨m, q⟩ := y
        obtain ⟨h1, h2⟩ := item_next h hi
        rw [items_ok hp hi h1, items_ok (m := m) (q := q) hp (by rw [item_left hf h]; exact hi) h1, items_left n q (by omega) h2]
    · rw [items_end (by omega), items_end (by omega)]
theorem cls_left {i : Nat} {y : List R × Nat} (hy : cls a i = .ok y) : cls (a ++ b) i = .ok y := by
  revert hy
  unfold cls
  cases h : cend a (i + 1) with
  | none => intro hy; cases hy
  | some to =>
    rw [cend_left hf _ _ (Nat.le_refl _) h, bt_left (cend_lt h)]
    dsimp only
    have hc : cend a (if bt a (i + 1) = 94 then i + 2 else i + 1) = some to := by
      have := cend_from (s := a) (i := i + 1)
      rw [← h]; exact this
    generalize (if bt a (i + 1) = 94 then i + 2 else i + 1) = f at *
    rw [items_left hf _ f (Nat.le_refl _) hc]
    exact id
end
theorem dg_end {s : ByteArray} {i : Nat} (h : s.size ≤ i) : dg s i = 0 := by rw [dg, dif_neg (by omega)]
section
variable {a b : ByteArray}
theorem dg_left : ∀ (n i : Nat), a.size - i ≤ n → i + dg a i < a.size → dg (a ++ b) i = dg a i
  | 0, i, hn, h => by omega
  | n + 1, i, hn, h => by
    have hs := size_cat a b
    have hi : i < a.size := by omega
    by_cases hd : 48 ≤ bt a i ∧ bt a i ≤ 57
    · have e : dg a i = dg a (i + 1) + 1 := by rw [dg, dif_pos hi, if_pos hd]
      rw [e, dg, dif_pos (by omega), bt_left hi, if_pos hd, dg_left n (i + 1) (by omega) (by omega)]
    · have e : dg a i = 0 := by rw [dg, dif_pos hi, if_neg hd]
      rw [e, dg, dif_pos (by omega), bt_left hi, if_neg hd]
theorem val_left {i : Nat} : ∀ n, i + n ≤ a.size → val (a ++ b) i n = val a i n
  | 0, _ => rfl
  | n + 1, h => by
    show val (a ++ b) i n * 10 + (bt (a ++ b) (i + n) - 48) = val a i n * 10 + (bt a (i + n) - 48)
    rw [val_left n (by omega), bt_left (by omega)]
theorem dg_l {i : Nat} (h : i + dg a i < a.size) : dg (a ++ b) i = dg a i := dg_left _ i (Nat.le_refl _) h
theorem num_left {i : Nat} (h : i + dg a i < a.size) : num (a ++ b) i = num a i := by unfold num; rw [dg_l h, val_left _ (by omega)]
theorem braces_left {i : Nat} {y : Int × Int × Int × Nat} (hy : braces a i = .ok y) : braces (a ++ b) i = .ok y := by
  revert hy
  unfold braces
  dsimp only
  intro h
  by_cases h1 : bt a (i + 1) = 126
  · rw [if_pos h1] at h
    have l1 := bt_in (s := a) (i := i + 1) (by omega)
    rw [bt_left l1, if_pos h1]
    by_cases h2 : dg a (i + 2) = 0 ∨ bt a (i + 2 + dg a (i + 2)) ≠ 125
    · rw [if_pos h2] at h; cases h
    · rw [if_neg h2] at h
      have l2 := bt_in (s := a) (i := i + 2 + dg a (i + 2)) (by omega)
      rw [dg_l l2, num_left l2, bt_left l2, if_neg h2]; exact h
  · rw [if_neg h1] at h
    by_cases h2 : dg a (i + 1) = 0
    · rw [if_pos h2] at h; cases h
    · rw [if_neg h2] at h
      have l1 : i + 1 < a.size := by
        rcases Nat.lt_or_ge (i + 1) a.size with h3 | h3
        · exact h3
        · exact absurd (dg_end h3) h2
      rw [bt_left l1, if_neg h1]
      by_cases h3 : bt a (i + 1 + dg a (i + 1)) = 44
      · have l2 := bt_in (s := a) (i := i + 1 + dg a (i + 1)) (by omega)
        rw [if_pos h3] at h
        rw [dg_l l2, num_left l2, bt_left l2, if_neg h2, if_pos h3]
        by_cases h4 : bt a (i + 1 + dg a (i + 1) + 1 + dg a (i + 1 + dg a (i + 1) + 1)) ≠ 125
        · rw [if_pos h4] at h; cases h
        · have l3 := bt_in (s := a) (i := i + 1 + dg a (i + 1) + 1 + dg a (i + 1 + dg a (i + 1) + 1)) (by omega)
          rw [dg_l l3, num_left l3, bt_left l3]; exact h
      · rw [if_neg h3] at h
        by_cases h4 : bt a (i + 1 + dg a (i + 1)) = 125
        · have l2 := bt_in (s := a) (i := i + 1 + dg a (i + 1)) (by omega)
          rw [dg_l l2, num_left l2, bt_left l2, if_neg h2, if_neg h3]; exact h
        · rw [if_neg h4] at h; cases h
/-- The text does not end within what would be a group's (?: . -/
def Shut (a : ByteArray) : Prop := (0 < a.size → bt a (a.size - 1) ≠ 40) ∧ (1 < a.size → bt a (a.size - 2) = 40 → bt a (a.size - 1) ≠ 63)
theorem word_left (hf : Fresh b) (hq : Shut a) {i : Nat} (hi : i < a.size) {y : T × Nat} (hy : word a i = .ok y) : word (a ++ b) i = .ok y := by
  revert hy
  unfold word
  dsimp only
  rw [bt_left hi, sy_left hf hi, wd_left hf hi]
  by_cases h1 : bt a i = 92
  · rw [if_pos h1, if_pos h1]
    rcases Nat.lt_or_ge (i + 1) a.size with h2 | h2
    · rw [esc_left hf h2]; exact id
    · have : esc a i = .bad 4 := by unfold esc escOf; rw [if_pos (sy_neg.2 h2)]
      rw [this]; intro h; cases h
  · rw [if_neg h1, if_neg h1]
    by_cases h2 : bt a i = 91
    · rw [if_pos h2, if_pos h2]
      cases hc : cls a i with
      | error f => intro h; cases h
      | ok y => rw [cls_left hf hc]; exact id
    · rw [if_neg h2, if_neg h2]
      by_cases h3 : bt a i = 123
      · rw [if_pos h3, if_pos h3]
        cases hc : braces a i with
        | error f => intro h; cases h
        | ok y => rw [braces_left hc]; exact id
      · rw [if_neg h3, if_neg h3]
        by_cases h40 : bt a i = 40
        · have n1 : i + 1 < a.size := by
            rcases Nat.lt_or_ge (i + 1) a.size with h | h
            · exact h
            · refine absurd ?_ (hq.1 (by omega))
              rw [show a.size - 1 = i by omega]; exact h40
          rw [bt_left n1]
          by_cases h63 : bt a (i + 1) = 63
          · have n2 : i + 2 < a.size := by
              rcases Nat.lt_or_ge (i + 2) a.size with h | h
              · exact h
              · refine absurd ?_ (hq.2 (by omega) ?_)
                · rw [show a.size - 1 = i + 1 by omega]; exact h63
                · rw [show a.size - 2 = i by omega]; exact h40
            rw [bt_left n2]; exact id
          · rw [if_neg (c := bt a (i + 1) = 63 ∧ bt (a ++ b) (i + 2) = 58) (fun h => h63 h.1), if_neg (c := bt a (i + 1) = 63 ∧ bt a (i + 2) = 58) (fun h => h63 h.1)]; exact id
        · rw [if_neg h40, if_neg h40]; exact id
end
end ObLex
