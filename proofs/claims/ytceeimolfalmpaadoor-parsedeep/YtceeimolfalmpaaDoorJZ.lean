/-
  Plain: what stands in the second one of two texts is told as in that text alone, so many places further. No program, no conditions but those written.
  Plain: what stands in the first one of two texts is told as in that text alone, where the second one does not go on with its last symbol and the first one's words have no fault. No program, no conditions but those written.
  Plain: classes of a range of two symbols as they are written with escapes; the words of the four fixed texts. No program, no conditions but those written.
  Plain: numbers in braces, with zeros ahead: what they say, and the words of such texts. No program, no conditions but those written.
  Plain: the words of the four texts that the statements fix. No program, no conditions.
-/
import Derived.Test.YtceeimolfalmpaaDoorLA
import Derived.Test.YtceeimolfalmpaaDoorUB
namespace ObLex
open ObUtf ObSets

def shF (n : Nat) (f : F) : F := (f.1, n + f.2)
def sht (n : Nat) (t : T) : T := ⟨t.kind, t.at_ + n, t.set, t.mn, t.mx⟩
def shI {α : Type} (n : Nat) : Res (α × Nat) → Res (α × Nat)
  | .error f => .error (shF n f)
  | .ok (l, q) => .ok (l, n + q)
def shL {α : Type} (n : Nat) : Res α → Res α
  | .error f => .error (shF n f)
  | .ok l => .ok l
def shB (n : Nat) : Res (Int × Int × Int × Nat) → Res (Int × Int × Int × Nat)
  | .error f => .error (shF n f)
  | .ok (k, a, b, q) => .ok (k, a, b, n + q)
def shW (n : Nat) : Res (T × Nat) → Res (T × Nat)
  | .error f => .error (shF n f)
  | .ok (t, q) => .ok (sht n t, n + q)
def shT (n : Nat) : Res (List T) → Res (List T)
  | .error f => .error (shF n f)
  | .ok l => .ok (l.map (sht n))
variable (a b : ByteArray)
theorem esc_right (i : Nat) : esc (a ++ b) (a.size + i) = esc b i := by
  unfold esc
  rw [Nat.add_assoc, sy_right, wd_right]
theorem unit_right (p : Nat) : unit (a ++ b) (a.size + p) = unit b p := by
  unfold unit
  rw [bt_right, esc_right, sy_right, wd_right]
theorem item_right (p : Nat) : item (a ++ b) (a.size + p) = shI a.size (item b p) := by
  unfold item
  rw [unit_right]
  cases unit b p with
  | bad e => rfl
  | many l => rfl
  | one x n =>
    dsimp only
    rw [show a.size + p + n = a.size + (p + n) by omega, bt_right, show a.size + (p + n) + 1 = a.size + (p + n + 1) by omega, unit_right]
    by_cases h : bt b (p + n) = 45
    · rw [if_pos h, if_pos h]
      cases unit b (p + n + 1) with
      | bad e => rfl
      | many l => rfl
      | one y m =>
        dsimp only
        by_cases h2 : y < x
        · rw [if_pos h2, if_pos h2]; rfl
        · rw [if_neg h2, if_neg h2]; simp [shI, Nat.add_assoc]
    · rw [if_neg h, if_neg h]; rfl
theorem cend_right : ∀ (n k : Nat), b.size - k ≤ n → cend (a ++ b) (a.size + k) = (cend b k).map (a.size + ·)
  | 0, k, hn => by
    rw [cend_out (by rw [size_cat]; omega), cend_out (by omega)]; rfl
  | n + 1, k, hn => by
    have hs := size_cat a b
    by_cases hk : k < b.size
    · by_cases h93 : bt b k = 93
      · rw [cend_end (k := a.size + k) (by rw [bt_right]; exact h93), cend_end h93]; rfl
      · by_cases h92 : bt b k = 92
        · rw [cend_two (k := a.size + k) (by rw [bt_right]; exact h92), cend_two h92, Nat.add_assoc a.size k 1, wd_right, Nat.add_assoc a.size]
          exact cend_right n _ (by omega)
        · rw [cend_step (k := a.size + k) (by omega) (by rw [bt_right]; exact h93) (by rw [bt_right]; exact h92), cend_step hk h93 h92, wd_right, Nat.add_assoc a.size]
          have := wd_pos hk
          exact cend_right n _ (by omega)
    · rw [cend_out (by omega), cend_out (by omega)]; rfl
theorem items_right {to : Nat} : ∀ (n p : Nat), to - p ≤ n → cend b p = some to → items (a ++ b) (a.size + to) (a.size + p) = shL a.size (items b to p)
  | 0, p, hn, h => by
    rw [items_end (by omega), items_end (by omega)]; rfl
  | n + 1, p, hn, h => by
    by_cases hp : p < to
    · cases hi : item b p with
      | error f =>
        rw [items_bad hp hi, items_bad (f := shF a.size f) (by omega) (by rw [item_right, hi]; rfl)]; rfl
      | ok y =>
        obtain ⟨m, q⟩ := y
        obtain ⟨h1, h2⟩ := item_next h hi
        rw [items_ok hp hi h1, items_ok (m := m) (q := a.size + q) (by omega) (by rw [item_right, hi]; rfl) (by omega), items_right n q (by omega) h2]
        cases items b to q <;> rfl
    · rw [items_end (by omega), items_end (by omega)]; rfl
theorem cls_right (i : Nat) : cls (a ++ b) (a.size + i) = shI a.size (cls b i) := by
  unfold cls
  rw [Nat.add_assoc, cend_right a b _ _ (Nat.le_refl _), bt_right]
  cases h : cend b (i + 1) with
  | none => rfl
  | some to =>
    dsimp only [Option.map]
    have hf : (if bt b (i + 1) = 94 then a.size + i + 2 else a.size + (i + 1)) = a.size + (if bt b (i + 1) = 94 then i + 2 else i + 1) := by split <;> omega
    rw [hf]
    have hc : cend b (if bt b (i + 1) = 94 then i + 2 else i + 1) = some to := by
      have := cend_from (s := b) (i := i + 1)
      rw [← h]; exact this
    generalize (if bt b (i + 1) = 94 then i + 2 else i + 1) = f at *
    by_cases ht : to = f
    · rw [if_pos (by omega), if_pos ht]; rfl
    · rw [if_neg (by omega), if_neg ht, items_right a b _ f (Nat.le_refl _) hc]
      cases items b to f <;> rfl
theorem dg_right : ∀ (n i : Nat), b.size - i ≤ n → dg (a ++ b) (a.size + i) = dg b i
  | 0, i, hn => by rw [dg, dif_neg (by rw [size_cat]; omega)]; conv => rhs; rw [dg, dif_neg (by omega)]
  | n + 1, i, hn => by
    have hs := size_cat a b
    by_cases hi : i < b.size
    · rw [dg, dif_pos (by omega), bt_right, Nat.add_assoc]
      conv => rhs; rw [dg, dif_pos hi]
      split
      · rw [dg_right n (i + 1) (by omega)]
      · rfl
    · rw [dg, dif_neg (by omega)]; conv => rhs; rw [dg, dif_neg hi]
theorem dg_r (i : Nat) : dg (a ++ b) (a.size + i) = dg b i := dg_right a b _ i (Nat.le_refl _)
theorem val_right (i : Nat) : ∀ n, val (a ++ b) (a.size + i) n = val b i n
  | 0 => rfl
  | n + 1 => by
    show val (a ++ b) (a.size + i) n * 10 + (bt (a ++ b) (a.size + i + n) - 48) = val b i n * 10 + (bt b (i + n) - 48)
    rw [val_right i n, Nat.add_assoc, bt_right]
theorem num_right (i : Nat) : num (a ++ b) (a.size + i) = num b i := by unfold num; rw [dg_r, val_right]
theorem braces_right (i : Nat) : braces (a ++ b) (a.size + i) = shB a.size (braces b i) := by
  unfold braces
  rw [Nat.add_assoc, Nat.add_assoc, bt_right, dg_r, num_right, dg_r, num_right]
  dsimp only
  rw [show a.size + (i + 2) + dg b (i + 2) = a.size + (i + 2 + dg b (i + 2)) by omega, show a.size + (i + 1) + dg b (i + 1) = a.size + (i + 1 + dg b (i + 1)) by omega, bt_right, bt_right]
  generalize i + 2 + dg b (i + 2) = j2
  generalize hj : i + 1 + dg b (i + 1) = j1
  rw [show a.size + j1 + 1 = a.size + (j1 + 1) by omega, dg_r, num_right]
  rw [show a.size + (j1 + 1) + dg b (j1 + 1) = a.size + (j1 + 1 + dg b (j1 + 1)) by omega, bt_right]
  by_cases h1 : bt b (i + 1) = 126
  · rw [if_pos h1, if_pos h1]
    by_cases h2 : dg b (i + 2) = 0 ∨ bt b j2 ≠ 125
    · rw [if_pos h2, if_pos h2]; rfl
    · rw [if_neg h2, if_neg h2]
      by_cases h3 : 255 < num b (i + 2)
      · rw [if_pos h3, if_pos h3]; rfl
      · rw [if_neg h3, if_neg h3]; rfl
  · rw [if_neg h1, if_neg h1]
    by_cases h2 : dg b (i + 1) = 0
    · rw [if_pos h2, if_pos h2]; rfl
    · rw [if_neg h2, if_neg h2]
      by_cases h3 : bt b j1 = 44
      · rw [if_pos h3, if_pos h3]
        generalize j1 + 1 + dg b (j1 + 1) = j3
        by_cases h4 : bt b j3 ≠ 125
        · rw [if_pos h4, if_pos h4]; rfl
        · rw [if_neg h4, if_neg h4]
          by_cases h5 : 255 < num b (i + 1)
          · rw [if_pos h5, if_pos h5]; rfl
          · rw [if_neg h5, if_neg h5]
            by_cases h6 : dg b (j1 + 1) = 0
            · rw [if_pos h6, if_pos h6]; rfl
            · rw [if_neg h6, if_neg h6]
              by_cases h7 : 255 < num b (j1 + 1) ∨ num b (j1 + 1) < num b (i + 1)
              · rw [if_pos h7, if_pos h7]; rfl
              · rw [if_neg h7, if_neg h7]; rfl
      · rw [if_neg h3, if_neg h3]
        by_cases h4 : bt b j1 = 125
        · rw [if_pos h4, if_pos h4]
          by_cases h5 : 255 < num b (i + 1)
          · rw [if_pos h5, if_pos h5]; rfl
          · rw [if_neg h5, if_neg h5]; rfl
        · rw [if_neg h4, if_neg h4]; rfl
theorem plus_int (n i : Nat) : ((n + i : Nat) : Int) = (i : Int) + (n : Int) := by omega
theorem word_right (i : Nat) : word (a ++ b) (a.size + i) = shW a.size (word b i) := by
  unfold word
  rw [bt_right, esc_right, cls_right, braces_right, Nat.add_assoc, Nat.add_assoc, bt_right, bt_right, sy_right, wd_right]
  dsimp only
  rw [plus_int]
  by_cases h1 : bt b i = 92
  · rw [if_pos h1, if_pos h1]
    cases esc b i with
    | bad e => rfl
    | one x n => dsimp only; rw [Nat.add_assoc]; rfl
    | many l => rfl
  · rw [if_neg h1, if_neg h1]
    by_cases h2 : bt b i = 91
    · rw [if_pos h2, if_pos h2]
      cases cls b i with
      | error f => rfl
      | ok y => obtain ⟨l, j⟩ := y; rfl
    · rw [if_neg h2, if_neg h2]
      by_cases h3 : bt b i = 123
      · rw [if_pos h3, if_pos h3]
        cases braces b i with
        | error f => rfl
        | ok y => obtain ⟨k, m, n, j⟩ := y; rfl
      · rw [if_neg h3, if_neg h3]
        by_cases h4 : bt b i = 93 ∨ bt b i = 125
        · rw [if_pos h4, if_pos h4]; rfl
        · rw [if_neg h4, if_neg h4]
          by_cases h5 : bt b i = 46
          · rw [if_pos h5, if_pos h5]; rfl
          · rw [if_neg h5, if_neg h5]
            by_cases h6 : bt b i = 40
            · rw [if_pos h6, if_pos h6]
              by_cases h7 : bt b (i + 1) = 63 ∧ bt b (i + 2) = 58
              · rw [if_pos h7, if_pos h7]; rfl
              · rw [if_neg h7, if_neg h7]; rfl
            · rw [if_neg h6, if_neg h6]
              by_cases h7 : bt b i = 41
              · rw [if_pos h7, if_pos h7]; rfl
              · rw [if_neg h7, if_neg h7]
                by_cases h8 : bt b i = 124
                · rw [if_pos h8, if_pos h8]; rfl
                · rw [if_neg h8, if_neg h8]
                  by_cases h9 : bt b i = 94
                  · rw [if_pos h9, if_pos h9]; rfl
                  · rw [if_neg h9, if_neg h9]
                    by_cases h10 : bt b i = 36
                    · rw [if_pos h10, if_pos h10]; rfl
                    · rw [if_neg h10, if_neg h10]
                      by_cases h11 : bt b i = 42
                      · rw [if_pos h11, if_pos h11]; rfl
                      · rw [if_neg h11, if_neg h11]
                        by_cases h12 : bt b i = 43
                        · rw [if_pos h12, if_pos h12]; rfl
                        · rw [if_neg h12, if_neg h12]
                          by_cases h13 : bt b i = 63
                          · rw [if_pos h13, if_pos h13]; rfl
                          · rw [if_neg h13, if_neg h13]; simp [shW, sht, Nat.add_assoc]
end ObLex

namespace ObLex
open ObUtf ObSets

section
variable {a b : ByteArray} (hf : Fresh b)
include hf
theorem esc_left {i : Nat} (h : i + 1 < a.size) : esc (a ++ b) i = esc a i := by
  unfold esc
  rw [sy_left hf h, wd_left hf h]
theorem unit_left {p : Nat} (h : p < a.size) (h1 : bt a p = 92 → p + 1 < a.size) : unit (a ++ b) p = unit a p := by
  unfold unit
  rw [bt_left h, sy_left hf h, wd_left hf h]
  by_cases h92 : bt a p = 92
  · rw [if_pos h92, if_pos h92, esc_left hf (h1 h92)]
  · rw [if_neg h92, if_neg h92]
theorem cend_left {to : Nat} : ∀ (n k : Nat), a.size - k ≤ n → cend a k = some to → cend (a ++ b) k = some to
  | 0, k, hn, h => by rw [cend_out (by omega)] at h; cases h
  | n + 1, k, hn, h => by
    have hs := size_cat a b
    by_cases hk : k < a.size
    · by_cases h93 : bt a k = 93
      · rw [cend_end h93] at h; rw [cend_end (by rw [bt_left hk]; exact h93)]; exact h
      · by_cases h92 : bt a k = 92
        · rcases Nat.lt_or_ge (k + 1) a.size with h1 | h1
          · rw [cend_two h92] at h
            rw [cend_two (k := k) (by rw [bt_left hk]; exact h92), wd_left hf h1]
            exact cend_left n _ (by omega) h
          · rw [cend_esc0 h92 h1] at h; cases h
        · rw [cend_step hk h93 h92] at h
          rw [cend_step (k := k) (by omega) (by rw [bt_left hk]; exact h93) (by rw [bt_left hk]; exact h92), wd_left hf hk]
          have := wd_pos hk
          exact cend_left n _ (by omega) h
    · rw [cend_out (by omega)] at h; cases h
theorem item_left {p to : Nat} (h : cend a p = some to) : item (a ++ b) p = item a p := by
  have hp := cend_lt h
  have h92 : ∀ {p}, cend a p = some to → bt a p = 92 → p + 1 < a.size := fun h h92 => by
    rcases Nat.lt_or_ge (_ + 1) a.size with h1 | h1
    · exact h1
    · rw [cend_esc0 h92 h1] at h; cases h
  unfold item
  rw [unit_left hf hp (h92 h)]
  cases hu : unit a p with
  | bad e => rfl
  | many l => rfl
  | one x n =>
    obtain ⟨h1, hn, _⟩ := unit_one h hu
    have hl := cend_lt h1
    dsimp only
    rw [bt_left hl]
    by_cases hd : bt a (p + n) = 45
    · have h2 := dash h1 hd
      rw [unit_left hf (cend_lt h2) (h92 h2)]
    · rw [if_neg hd, if_neg hd]
theorem items_left {to : Nat} : ∀ (n p : Nat), to - p ≤ n → cend a p = some to → items (a ++ b) to p = items a to p
  | 0, p, hn, h => by rw [items_end (by omega), items_end (by omega)]
  | n + 1, p, hn, h => by
    by_cases hp : p < to
    · cases hi : item a p with
      | error f => rw [items_bad hp hi, items_bad (f := f) hp (by rw [item_left hf h]; exact hi)]
      | ok y =>
        obtain ⟨m, q⟩ := y
        obtain ⟨h1, h2⟩ := item_next h hi
        rw [items_ok hp hi h1, items_ok (m := m) (q := q) hp (by rw [item_left hf h]; exact hi) h1, items_left n q (by omega) h2]
    · rw [items_end (by omega), items_end (by omega)]
theorem cls_left {i : Nat} {y : List R × Nat} (hy : cls a i = .ok y) : cls (a ++ b) i = .ok y := by
  revert hy
  unfold cls
  cases h : cend a (i + 1) with
  | none => intro hy; cases hy
  | some to =>
    rw [cend_left hf _ _ (Nat.le_refl _) h, bt_left (cend_lt h)]
    dsimp only
    have hc : cend a (if bt a (i + 1) = 94 then i + 2 else i + 1) = some to := by
      have := cend_from (s := a) (i := i + 1)
      rw [← h]; exact this
    generalize (if bt a (i + 1) = 94 then i + 2 else i + 1) = f at *
    rw [items_left hf _ f (Nat.le_refl _) hc]
    exact id
end
theorem dg_end {s : ByteArray} {i : Nat} (h : s.size ≤ i) : dg s i = 0 := by rw [dg, dif_neg (by omega)]
section
variable {a b : ByteArray}
theorem dg_left : ∀ (n i : Nat), a.size - i ≤ n → i + dg a i < a.size → dg (a ++ b) i = dg a i
  | 0, i, hn, h => by omega
  | n + 1, i, hn, h => by
    have hs := size_cat a b
    have hi : i < a.size := by omega
    by_cases hd : 48 ≤ bt a i ∧ bt a i ≤ 57
    · have e : dg a i = dg a (i + 1) + 1 := by rw [dg, dif_pos hi, if_pos hd]
      rw [e, dg, dif_pos (by omega), bt_left hi, if_pos hd, dg_left n (i + 1) (by omega) (by omega)]
    · have e : dg a i = 0 := by rw [dg, dif_pos hi, if_neg hd]
      rw [e, dg, dif_pos (by omega), bt_left hi, if_neg hd]
theorem val_left {i : Nat} : ∀ n, i + n ≤ a.size → val (a ++ b) i n = val a i n
  | 0, _ => rfl
  | n + 1, h => by
    show val (a ++ b) i n * 10 + (bt (a ++ b) (i + n) - 48) = val a i n * 10 + (bt a (i + n) - 48)
    rw [val_left n (by omega), bt_left (by omega)]
theorem dg_l {i : Nat} (h : i + dg a i < a.size) : dg (a ++ b) i = dg a i := dg_left _ i (Nat.le_refl _) h
theorem num_left {i : Nat} (h : i + dg a i < a.size) : num (a ++ b) i = num a i := by unfold num; rw [dg_l h, val_left _ (by omega)]
theorem braces_left {i : Nat} {y : Int × Int × Int × Nat} (hy : braces a i = .ok y) : braces (a ++ b) i = .ok y := by
  revert hy
  unfold braces
  dsimp only
  intro h
  by_cases h1 : bt a (i + 1) = 126
  · rw [if_pos h1] at h
    have l1 := bt_in (s := a) (i := i + 1) (by omega)
    rw [bt_left l1, if_pos h1]
    by_cases h2 : dg a (i + 2) = 0 ∨ bt a (i + 2 + dg a (i + 2)) ≠ 125
    · rw [if_pos h2] at h; cases h
    · rw [if_neg h2] at h
      have l2 := bt_in (s := a) (i := i + 2 + dg a (i + 2)) (by omega)
      rw [dg_l l2, num_left l2, bt_left l2, if_neg h2]; exact h
  · rw [if_neg h1] at h
    by_cases h2 : dg a (i + 1) = 0
    · rw [if_pos h2] at h; cases h
    · rw [if_neg h2] at h
      have l1 : i + 1 < a.size := by
        rcases Nat.lt_or_ge (i + 1) a.size with h3 | h3
        · exact h3
        · exact absurd (dg_end h3) h2
      rw [bt_left l1, if_neg h1]
      by_cases h3 : bt a (i + 1 + dg a (i + 1)) = 44
      · have l2 := bt_in (s := a) (i := i + 1 + dg a (i + 1)) (by omega)
        rw [if_pos h3] at h
        rw [dg_l l2, num_left l2, bt_left l2, if_neg h2, if_pos h3]
        by_cases h4 : bt a (i + 1 + dg a (i + 1) + 1 + dg a (i + 1 + dg a (i + 1) + 1)) ≠ 125
        · rw [if_pos h4] at h; cases h
        · have l3 := bt_in (s := a) (i := i + 1 + dg a (i + 1) + 1 + dg a (i + 1 + dg a (i + 1) + 1)) (by omega)
          rw [dg_l l3, num_left l3, bt_left l3]; exact h
      · rw [if_neg h3] at h
        by_cases h4 : bt a (i + 1 + dg a (i + 1)) = 125
        · have l2 := bt_in (s := a) (i := i + 1 + dg a (i + 1)) (by omega)
          rw [dg_l l2, num_left l2, bt_left l2, if_neg h2, if_neg h3]; exact h
        · rw [if_neg h4] at h; cases h
/-- The text does not end within what would be a group's (?: . -/
def Shut (a : ByteArray) : Prop := (0 < a.size → bt a (a.size - 1) ≠ 40) ∧ (1 < a.size → bt a (a.size - 2) = 40 → bt a (a.size - 1) ≠ 63)
theorem word_left (hf : Fresh b) (hq : Shut a) {i : Nat} (hi : i < a.size) {y : T × Nat} (hy : word a i = .ok y) : word (a ++ b) i = .ok y := by
  revert hy
  unfold word
  dsimp only
  rw [bt_left hi, sy_left hf hi, wd_left hf hi]
  by_cases h1 : bt a i = 92
  · rw [if_pos h1, if_pos h1]
    rcases Nat.lt_or_ge (i + 1) a.size with h2 | h2
    · rw [esc_left hf h2]; exact id
    · have : esc a i = .bad 4 := by unfold esc escOf; rw [if_pos (sy_neg.2 h2)]
      rw [this]; intro h; cases h
  · rw [if_neg h1, if_neg h1]
    by_cases h2 : bt a i = 91
    · rw [if_pos h2, if_pos h2]
      cases hc : cls a i with
      | error f => intro h; cases h
      | ok y => rw [cls_left hf hc]; exact id
    · rw [if_neg h2, if_neg h2]
      by_cases h3 : bt a i = 123
      · rw [if_pos h3, if_pos h3]
        cases hc : braces a i with
        | error f => intro h; cases h
        | ok y => rw [braces_left hc]; exact id
      · rw [if_neg h3, if_neg h3]
        by_cases h40 : bt a i = 40
        · have n1 : i + 1 < a.size := by
            rcases Nat.lt_or_ge (i + 1) a.size with h | h
            · exact h
            · refine absurd ?_ (hq.1 (by omega))
              rw [show a.size - 1 = i by omega]; exact h40
          rw [bt_left n1]
          by_cases h63 : bt a (i + 1) = 63
          · have n2 : i + 2 < a.size := by
              rcases Nat.lt_or_ge (i + 2) a.size with h | h
              · exact h
              · refine absurd ?_ (hq.2 (by omega) ?_)
                · rw [show a.size - 1 = i + 1 by omega]; exact h63
                · rw [show a.size - 2 = i by omega]; exact h40
            rw [bt_left n2]; exact id
          · rw [if_neg (c := bt a (i + 1) = 63 ∧ bt (a ++ b) (i + 2) = 58) (fun h => h63 h.1), if_neg (c := bt a (i + 1) = 63 ∧ bt a (i + 2) = 58) (fun h => h63 h.1)]; exact id
        · rw [if_neg h40, if_neg h40]; exact id
end
end ObLex

namespace Go.Proofs.YtceeimolfalmpaaDoor
open ObUtf ObSets ObLex

theorem unit_cend {s : ByteArray} {p : Nat} {x : Int} {n : Nat} (hp : p < s.size) (hu : unit s p = .one x n) : cend s p = cend s (p + n) := by
  unfold unit at hu
  by_cases h92 : bt s p = 92
  · rw [if_pos h92] at hu
    rw [cend_two h92, esc_one_wd hu, Nat.add_assoc]
  · rw [if_neg h92] at hu
    by_cases h2 : bt s p = 45 ∨ bt s p = 93
    · rw [if_pos h2] at hu; cases hu
    · rw [if_neg h2] at hu
      injection hu with _ hn
      rw [cend_step hp (by omega) h92, hn]
/-- A symbol as it stands in a class. -/
def o92 : ByteArray := ⟨#[92]⟩
def needs (x : Int) : Bool := decide (x = 92 ∨ x = 93 ∨ x = 45 ∨ x = 94)
def eb (x : Int) : ByteArray := if needs x = true then o92 ++ U.bytesB x else U.bytesB x
theorem eb_unit {x : Int} (h : U.goodB x = true) : unit (eb x) 0 = .one x (eb x).size ∧ 0 < (eb x).size ∧ bt (eb x) 0 ≠ 94 ∧ (bt (eb x) 0 = 92 → 0 + 1 < (eb x).size) := by
  obtain ⟨e1, e2, e3⟩ := U.enc_at x h
  by_cases hn : needs x = true
  · have ee : eb x = o92 ++ U.bytesB x := by unfold eb; rw [if_pos hn]
    rw [ee]
    have hs : (o92 ++ U.bytesB x).size = 1 + (U.bytesB x).size := size_cat _ _
    have b0 : bt (o92 ++ U.bytesB x) 0 = 92 := bt_left (show 0 < o92.size by decide)
    have s1 : sy (o92 ++ U.bytesB x) (0 + 1) = x := (sy_right o92 (U.bytesB x) 0).trans e1
    have w1 : wd (o92 ++ U.bytesB x) (0 + 1) = (U.bytesB x).size := (wd_right o92 (U.bytesB x) 0).trans e2
    refine ⟨?_, by omega, by omega, fun _ => by omega⟩
    unfold unit
    rw [if_pos b0]
    unfold esc
    rw [s1, w1, hs]
    have hx : x = 92 ∨ x = 93 ∨ x = 45 ∨ x = 94 := by simpa [needs] using hn
    rcases hx with rfl | rfl | rfl | rfl <;> rfl
  · have ee : eb x = U.bytesB x := by unfold eb; rw [if_neg hn]
    rw [ee]
    have hx : ¬ (x = 92 ∨ x = 93 ∨ x = 45 ∨ x = 94) := by simpa [needs] using hn
    have h0 : 0 < (U.bytesB x).size := by omega
    have q1 : bt (U.bytesB x) 0 ≠ 92 := fun e => by have := (is h0 (c := 92) (by omega)).2 e; omega
    have q2 : bt (U.bytesB x) 0 ≠ 93 := fun e => by have := (is h0 (c := 93) (by omega)).2 e; omega
    have q3 : bt (U.bytesB x) 0 ≠ 45 := fun e => by have := (is h0 (c := 45) (by omega)).2 e; omega
    have q4 : bt (U.bytesB x) 0 ≠ 94 := fun e => by have := (is h0 (c := 94) (by omega)).2 e; omega
    refine ⟨?_, h0, q4, fun e => absurd e q1⟩
    unfold unit
    rw [if_neg q1, if_neg (by omega), e1, e2]
def o45 : ByteArray := ⟨#[45]⟩
def o91 : ByteArray := ⟨#[91]⟩
def o93 : ByteArray := ⟨#[93]⟩
def o94 : ByteArray := ⟨#[94]⟩
/-- A range as it stands in a class, with the class's end. -/
def rg (lo hi : Int) : ByteArray := eb lo ++ (o45 ++ (eb hi ++ o93))
theorem fresh_45 (r : ByteArray) : Fresh (o45 ++ r) := fun _ => by
  left
  have : bt (o45 ++ r) 0 = 45 := bt_left (show 0 < o45.size by decide)
  omega
theorem fresh_93 : Fresh o93 := fun _ => by left; decide
section
variable {lo hi : Int} (h1 : U.goodB lo = true) (h2 : U.goodB hi = true)
include h1 h2
theorem rg_facts : cend (rg lo hi) 0 = some ((eb lo).size + (1 + (eb hi).size)) ∧ unit (rg lo hi) 0 = .one lo (eb lo).size ∧ bt (rg lo hi) (eb lo).size = 45 ∧ unit (rg lo hi) ((eb lo).size + 1) = .one hi (eb hi).size ∧ bt (rg lo hi) 0 ≠ 94 := by
  obtain ⟨a1, a2, a3, a4⟩ := eb_unit h1
  obtain ⟨b1, b2, b3, b4⟩ := eb_unit h2
  have u1 : unit (rg lo hi) 0 = .one lo (eb lo).size := (unit_left (fresh_45 _) a2 a4).trans a1
  have d1 : bt (rg lo hi) (eb lo).size = 45 := (bt_right (eb lo) _ 0).trans (bt_left (show 0 < o45.size by decide))
  have u2 : unit (rg lo hi) ((eb lo).size + 1) = .one hi (eb hi).size := (unit_right (eb lo) _ 1).trans ((unit_right o45 (eb hi ++ o93) 0).trans ((unit_left fresh_93 b2 b4).trans b1))
  have s1 : (rg lo hi).size = (eb lo).size + (1 + ((eb hi).size + 1)) := by
    unfold rg; rw [size_cat, size_cat, size_cat]; rfl
  refine ⟨?_, u1, d1, u2, ?_⟩
  · rw [unit_cend (by omega) u1, Nat.zero_add, cend_low (by omega) (by omega) (by omega) (by omega), unit_cend (by omega) u2]
    have d2 : bt (rg lo hi) ((eb lo).size + (1 + ((eb hi).size + 0))) = 93 := (bt_right (eb lo) _ _).trans ((bt_right o45 _ _).trans ((bt_right (eb hi) _ 0).trans rfl))
    rw [show (eb lo).size + 1 + (eb hi).size = (eb lo).size + (1 + ((eb hi).size + 0)) by omega, cend_end d2]
    rfl
  · rw [show bt (rg lo hi) 0 = bt (eb lo) 0 from bt_left a2]; exact a3
theorem rg_items (h : lo ≤ hi) : items (rg lo hi) ((eb lo).size + (1 + (eb hi).size)) 0 = .ok [(lo, hi)] := by
  obtain ⟨c1, u1, d1, u2, _⟩ := rg_facts h1 h2
  have hi' : item (rg lo hi) 0 = .ok ([(lo, hi)], (eb lo).size + (1 + (eb hi).size)) := by
    unfold item
    rw [u1]
    dsimp only
    rw [Nat.zero_add, if_pos d1, u2]
    dsimp only
    rw [if_neg (by omega), Nat.add_assoc]
  rw [items_ok (by omega) hi' (by omega), items_end (Nat.le_refl _)]
  rfl
theorem rg_items_bad (h : hi < lo) : items (rg lo hi) ((eb lo).size + (1 + (eb hi).size)) 0 = .error (4, 0) := by
  obtain ⟨c1, u1, d1, u2, _⟩ := rg_facts h1 h2
  refine items_bad (by omega) ?_
  unfold item
  rw [u1]
  dsimp only
  rw [Nat.zero_add, if_pos d1, u2]
  dsimp only
  rw [if_pos h]
end
theorem cls_of {s : ByteArray} {i to : Nat} {l : List R} (hc : cend s (i + 1) = some to) (hn : bt s (i + 1) ≠ 94) (ht : to ≠ i + 1) (hi : items s to (i + 1) = .ok l) : cls s i = .ok (nrm l, to + 1) := by
  unfold cls
  rw [hc]
  dsimp only
  rw [if_neg hn, if_neg ht, hi]
  dsimp only
  rw [if_neg hn]
theorem cls_of_bad {s : ByteArray} {i to : Nat} {f : F} (hc : cend s (i + 1) = some to) (hn : bt s (i + 1) ≠ 94) (ht : to ≠ i + 1) (hi : items s to (i + 1) = .error f) : cls s i = .error f := by
  unfold cls
  rw [hc]
  dsimp only
  rw [if_neg hn, if_neg ht, hi]
theorem cls_not {s : ByteArray} {i to : Nat} {l : List R} (hc : cend s (i + 1) = some to) (hn : bt s (i + 1) = 94) (ht : to ≠ i + 2) (hi : items s to (i + 2) = .ok l) : cls s i = .ok (notL l, to + 1) := by
  unfold cls
  rw [hc]
  dsimp only
  rw [if_pos hn, if_neg ht, hi]
  dsimp only
  rw [if_pos hn]
theorem word_cls {s : ByteArray} {i : Nat} {l : List R} {j : Nat} (h : bt s i = 91) (hc : cls s i = .ok (l, j)) : word s i = .ok (⟨1, i, l, 0, 0⟩, j) := by
  unfold word
  dsimp only
  rw [if_neg (by omega), if_pos h, hc]
theorem word_cls_bad {s : ByteArray} {i : Nat} {f : F} (h : bt s i = 91) (hc : cls s i = .error f) : word s i = .error f := by
  unfold word
  dsimp only
  rw [if_neg (by omega), if_pos h, hc]
theorem word_br {s : ByteArray} {i : Nat} {k m n : Int} {j : Nat} (h : bt s i = 123) (hc : braces s i = .ok (k, m, n, j)) : word s i = .ok (⟨k, i, [], m, n⟩, j) := by
  unfold word
  dsimp only
  rw [if_neg (by omega), if_neg (by omega), if_pos h, hc]
theorem word_br_bad {s : ByteArray} {i : Nat} {f : F} (h : bt s i = 123) (hc : braces s i = .error f) : word s i = .error f := by
  unfold word
  dsimp only
  rw [if_neg (by omega), if_neg (by omega), if_pos h, hc]
section
variable {lo hi : Int} (h1 : U.goodB lo = true) (h2 : U.goodB hi = true)
include h1 h2
/-- [lo-hi] -/
theorem cls_rg (h : lo ≤ hi) : word (o91 ++ rg lo hi) 0 = .ok (⟨1, 0, nrm [(lo, hi)], 0, 0⟩, (o91 ++ rg lo hi).size) := by
  obtain ⟨c1, _, _, _, n1⟩ := rg_facts h1 h2
  have s1 : (o91 ++ rg lo hi).size = 1 + ((eb lo).size + (1 + ((eb hi).size + 1))) := by
    unfold rg; rw [size_cat, size_cat, size_cat, size_cat]; rfl
  have c2 : cend (o91 ++ rg lo hi) (0 + 1) = some (1 + ((eb lo).size + (1 + (eb hi).size))) := by
    have := cend_right o91 (rg lo hi) _ 0 (Nat.le_refl _)
    rw [c1] at this; exact this
  have n2 : bt (o91 ++ rg lo hi) (0 + 1) ≠ 94 := by
    have : bt (o91 ++ rg lo hi) (0 + 1) = bt (rg lo hi) 0 := bt_right o91 (rg lo hi) 0
    rw [this]; exact n1
  have i2 : items (o91 ++ rg lo hi) (1 + ((eb lo).size + (1 + (eb hi).size))) (0 + 1) = .ok [(lo, hi)] := by
    have := items_right o91 (rg lo hi) (to := (eb lo).size + (1 + (eb hi).size)) _ 0 (Nat.le_refl _) c1
    rw [rg_items h1 h2 h] at this; exact this
  have hc := cls_of c2 n2 (by omega) i2
  rw [word_cls (bt_left (show 0 < o91.size by decide)) hc, s1]
  rfl
/-- [^lo-hi] -/
theorem cls_not_rg (h : lo ≤ hi) : word (o91 ++ (o94 ++ rg lo hi)) 0 = .ok (⟨1, 0, notL [(lo, hi)], 0, 0⟩, (o91 ++ (o94 ++ rg lo hi)).size) := by
  obtain ⟨c1, _, _, _, n1⟩ := rg_facts h1 h2
  have s1 : (o91 ++ (o94 ++ rg lo hi)).size = 1 + (1 + ((eb lo).size + (1 + ((eb hi).size + 1)))) := by
    unfold rg; rw [size_cat, size_cat, size_cat, size_cat, size_cat]; rfl
  have b1 : bt (o94 ++ rg lo hi) 0 = 94 := bt_left (show 0 < o94.size by decide)
  have c2 : cend (o94 ++ rg lo hi) 0 = some (1 + ((eb lo).size + (1 + (eb hi).size))) := by
    rw [cend_low (by omega) (by omega) (by omega) (by omega)]
    have := cend_right o94 (rg lo hi) _ 0 (Nat.le_refl _)
    rw [c1] at this; exact this
  have c3 : cend (o91 ++ (o94 ++ rg lo hi)) (0 + 1) = some (1 + (1 + ((eb lo).size + (1 + (eb hi).size)))) := by
    have := cend_right o91 (o94 ++ rg lo hi) _ 0 (Nat.le_refl _)
    rw [c2] at this; exact this
  have n2 : bt (o91 ++ (o94 ++ rg lo hi)) (0 + 1) = 94 := (bt_right o91 (o94 ++ rg lo hi) 0).trans b1
  have c4 : cend (o94 ++ rg lo hi) 1 = some (1 + ((eb lo).size + (1 + (eb hi).size))) := by
    have := cend_right o94 (rg lo hi) _ 0 (Nat.le_refl _)
    rw [c1] at this; exact this
  have i1 : items (o94 ++ rg lo hi) (1 + ((eb lo).size + (1 + (eb hi).size))) 1 = .ok [(lo, hi)] := by
    have := items_right o94 (rg lo hi) (to := (eb lo).size + (1 + (eb hi).size)) _ 0 (Nat.le_refl _) c1
    rw [rg_items h1 h2 h] at this; exact this
  have i2 : items (o91 ++ (o94 ++ rg lo hi)) (1 + (1 + ((eb lo).size + (1 + (eb hi).size)))) (0 + 2) = .ok [(lo, hi)] := by
    have := items_right o91 (o94 ++ rg lo hi) _ 1 (Nat.le_refl _) c4
    rw [i1] at this; exact this
  have hc := cls_not c3 n2 (by omega) i2
  rw [word_cls (bt_left (show 0 < o91.size by decide)) hc, s1]
  rfl
/-- [hi-lo], turned about -/
theorem cls_rg_bad (h : hi < lo) : word (o91 ++ rg lo hi) 0 = .error (4, 1) := by
  obtain ⟨c1, _, _, _, n1⟩ := rg_facts h1 h2
  have c2 : cend (o91 ++ rg lo hi) (0 + 1) = some (1 + ((eb lo).size + (1 + (eb hi).size))) := by
    have := cend_right o91 (rg lo hi) _ 0 (Nat.le_refl _)
    rw [c1] at this; exact this
  have n2 : bt (o91 ++ rg lo hi) (0 + 1) ≠ 94 := by
    have : bt (o91 ++ rg lo hi) (0 + 1) = bt (rg lo hi) 0 := bt_right o91 (rg lo hi) 0
    rw [this]; exact n1
  have i2 : items (o91 ++ rg lo hi) (1 + ((eb lo).size + (1 + (eb hi).size))) (0 + 1) = .error (4, 1) := by
    have := items_right o91 (rg lo hi) (to := (eb lo).size + (1 + (eb hi).size)) _ 0 (Nat.le_refl _) c1
    rw [rg_items_bad h1 h2 h] at this; exact this
  exact word_cls_bad (bt_left (show 0 < o91.size by decide)) (cls_of_bad c2 n2 (by omega) i2)
end
end Go.Proofs.YtceeimolfalmpaaDoor

namespace Go.Proofs.YtceeimolfalmpaaDoor
open ObUtf ObSets ObLex

/-- A text of decimal digits alone, and what it says. -/
def Dig (x : ByteArray) : Prop := ∀ k, k < x.size → 48 ≤ bt x k ∧ bt x k ≤ 57
def vl (x : ByteArray) : Nat := val x 0 x.size
theorem Dig.cat {a b : ByteArray} (ha : Dig a) (hb : Dig b) : Dig (a ++ b) := fun k hk => by
  rw [size_cat] at hk
  by_cases h : k < a.size
  · rw [bt_left h]; exact ha k h
  · have := hb (k - a.size) (by omega)
    rw [← bt_right a b, show a.size + (k - a.size) = k by omega] at this
    exact this
theorem val_cat (a b : ByteArray) : ∀ n, val (a ++ b) 0 (a.size + n) = vl a * 10 ^ n + val b 0 n
  | 0 => by
    show val (a ++ b) 0 a.size = vl a * 10 ^ 0 + 0
    rw [val_left _ (by omega)]; simp [vl]
  | n + 1 => by
    show val (a ++ b) 0 (a.size + n) * 10 + (bt (a ++ b) (0 + (a.size + n)) - 48) = vl a * 10 ^ (n + 1) + (val b 0 n * 10 + (bt b (0 + n) - 48))
    rw [val_cat a b n, Nat.zero_add, Nat.zero_add, bt_right, Nat.pow_succ, Nat.add_mul, Nat.mul_assoc, Nat.add_assoc]
theorem vl_cat (a b : ByteArray) : vl (a ++ b) = vl a * 10 ^ b.size + vl b := by
  unfold vl
  rw [size_cat]
  exact val_cat a b b.size
theorem dg_cat {x r : ByteArray} (hx : Dig x) (hr : ¬ (48 ≤ bt r 0 ∧ bt r 0 ≤ 57)) : ∀ (n i : Nat), x.size - i ≤ n → i ≤ x.size → dg (x ++ r) i = x.size - i
  | 0, i, hn, h => by
    obtain rfl : i = x.size := by omega
    have e := dg_r x r 0
    rw [Nat.add_zero] at e
    rw [e, Nat.sub_self, dg]
    split
    · rfl
    · rfl
  | n + 1, i, hn, h => by
    have hs := size_cat x r
    by_cases hi : i < x.size
    · have := hx i hi
      rw [dg, dif_pos (by omega), bt_left hi, if_pos this, dg_cat hx hr n (i + 1) (by omega) (by omega)]
      omega
    · exact dg_cat hx hr n i (by omega) h
theorem dg_all {x r : ByteArray} (hx : Dig x) (hr : ¬ (48 ≤ bt r 0 ∧ bt r 0 ≤ 57)) : dg (x ++ r) 0 = x.size := dg_cat hx hr _ 0 (Nat.le_refl _) (Nat.zero_le _)
theorem num_all {x r : ByteArray} (hx : Dig x) (hr : ¬ (48 ≤ bt r 0 ∧ bt r 0 ≤ 57)) : num (x ++ r) 0 = vl x := by
  unfold num
  rw [dg_all hx hr, val_left _ (by omega)]; rfl
def o44 : ByteArray := ⟨#[44]⟩
def o123 : ByteArray := ⟨#[123]⟩
def o125 : ByteArray := ⟨#[125]⟩
def o126 : ByteArray := ⟨#[126]⟩
def o122 : ByteArray := ⟨#[122]⟩
def o48 : ByteArray := ⟨#[48]⟩
theorem no125 : ¬ (48 ≤ bt o125 0 ∧ bt o125 0 ≤ 57) := by decide
theorem no44 (r : ByteArray) : ¬ (48 ≤ bt (o44 ++ r) 0 ∧ bt (o44 ++ r) 0 ≤ 57) := by
  have : bt (o44 ++ r) 0 = 44 := bt_left (show 0 < o44.size by decide)
  omega
section
variable {x y : ByteArray} (hx : Dig x) (hy : Dig y) (nx : 0 < x.size) (ny : 0 < y.size)
include hx hy nx ny
/-- {x,y} -/
theorem word_rep : word (o123 ++ (x ++ (o44 ++ (y ++ o125)))) 0 =
    if 255 < vl x then .error (7, 1) else if 255 < vl y ∨ vl y < vl x then .error (7, 2 + x.size) else .ok (⟨6, 0, [], (vl x : Int), (vl y : Int)⟩, (o123 ++ (x ++ (o44 ++ (y ++ o125)))).size) := by
  obtain ⟨t, ht⟩ : ∃ t, t = o123 ++ (x ++ (o44 ++ (y ++ o125))) := ⟨_, rfl⟩
  have s1 : t.size = 1 + (x.size + (1 + (y.size + 1))) := by rw [ht, size_cat, size_cat, size_cat, size_cat]; rfl
  have b0 : bt t 0 = 123 := by rw [ht]; exact bt_left (show 0 < o123.size by decide)
  have b1 : bt t (0 + 1) = bt x 0 := by rw [ht]; exact (bt_right o123 _ 0).trans (bt_left nx)
  have hx0 := hx 0 nx
  have d1 : dg t (0 + 1) = x.size := by rw [ht]; exact (dg_r o123 _ 0).trans (dg_all hx (no44 _))
  have v1 : num t (0 + 1) = vl x := by rw [ht]; exact (num_right o123 _ 0).trans (num_all hx (no44 _))
  have b2 : bt t (0 + 1 + x.size) = 44 := by
    rw [ht, show 0 + 1 + x.size = o123.size + (x.size + 0) by show _ = 1 + _; omega]
    exact (bt_right o123 _ _).trans ((bt_right x _ 0).trans (bt_left (show 0 < o44.size by decide)))
  have e2 : 0 + 1 + x.size + 1 = o123.size + (x.size + (o44.size + 0)) := by show _ = 1 + (_ + (1 + 0)); omega
  have d2 : dg t (0 + 1 + x.size + 1) = y.size := by rw [ht, e2]; exact (dg_r o123 _ _).trans ((dg_r x _ _).trans ((dg_r o44 _ 0).trans (dg_all hy no125)))
  have v2 : num t (0 + 1 + x.size + 1) = vl y := by rw [ht, e2]; exact (num_right o123 _ _).trans ((num_right x _ _).trans ((num_right o44 _ 0).trans (num_all hy no125)))
  have b3 : bt t (0 + 1 + x.size + 1 + y.size) = 125 := by
    rw [ht, show 0 + 1 + x.size + 1 + y.size = o123.size + (x.size + (o44.size + (y.size + 0))) by show _ = 1 + (_ + (1 + _)); omega]
    exact (bt_right o123 _ _).trans ((bt_right x _ _).trans ((bt_right o44 _ _).trans ((bt_right y _ 0).trans rfl)))
  rw [← ht, s1]
  unfold word
  dsimp only
  rw [if_neg (by omega), if_neg (by omega), if_pos b0]
  unfold braces
  dsimp only
  rw [if_neg (by omega), d1, v1, if_neg (by omega), if_pos b2, d2, v2, if_neg (by omega)]
  by_cases h1 : 255 < vl x
  · rw [if_pos h1, if_pos h1]
  · rw [if_neg h1, if_neg h1, if_neg (by omega)]
    by_cases h2 : 255 < vl y ∨ vl y < vl x
    · rw [if_pos h2, if_pos h2]
      dsimp only
      rw [show 0 + 1 + x.size + 1 = 2 + x.size by omega]
    · rw [if_neg h2, if_neg h2]
      dsimp only
      rw [show 0 + 1 + x.size + 1 + y.size + 1 = 1 + (x.size + (1 + (y.size + 1))) by omega]
      rfl
end
/-- z{~y} -/
theorem words_bud {y : ByteArray} (hy : Dig y) (ny : 0 < y.size) :
    word (o122 ++ (o123 ++ (o126 ++ (y ++ o125)))) 0 = .ok (⟨1, 0, [(122, 122)], 0, 0⟩, 1) ∧
    word (o122 ++ (o123 ++ (o126 ++ (y ++ o125)))) 1 = if 255 < vl y then .error (7, 3) else .ok (⟨7, 1, [], (vl y : Int), 0⟩, (o122 ++ (o123 ++ (o126 ++ (y ++ o125)))).size) := by
  obtain ⟨t, ht⟩ : ∃ t, t = o122 ++ (o123 ++ (o126 ++ (y ++ o125))) := ⟨_, rfl⟩
  have s1 : t.size = 1 + (1 + (1 + (y.size + 1))) := by rw [ht, size_cat, size_cat, size_cat, size_cat]; rfl
  have b0 : bt t 0 = 122 := by rw [ht]; exact bt_left (show 0 < o122.size by decide)
  have b1 : bt t 1 = 123 := by rw [ht]; exact (bt_right o122 _ 0).trans (bt_left (show 0 < o123.size by decide))
  have b2 : bt t (1 + 1) = 126 := by rw [ht]; exact (bt_right o122 _ 1).trans ((bt_right o123 _ 0).trans (bt_left (show 0 < o126.size by decide)))
  have e3 : 1 + 2 = o122.size + (o123.size + (o126.size + 0)) := rfl
  have d1 : dg t (1 + 2) = y.size := by rw [ht, e3]; exact (dg_r o122 _ _).trans ((dg_r o123 _ _).trans ((dg_r o126 _ 0).trans (dg_all hy no125)))
  have v1 : num t (1 + 2) = vl y := by rw [ht, e3]; exact (num_right o122 _ _).trans ((num_right o123 _ _).trans ((num_right o126 _ 0).trans (num_all hy no125)))
  have b3 : bt t (1 + 2 + y.size) = 125 := by
    rw [ht, show 1 + 2 + y.size = o122.size + (o123.size + (o126.size + (y.size + 0))) by show _ = 1 + (1 + (1 + _)); omega]
    exact (bt_right o122 _ _).trans ((bt_right o123 _ _).trans ((bt_right o126 _ _).trans ((bt_right y _ 0).trans rfl)))
  rw [← ht]
  constructor
  · obtain ⟨w0, y0⟩ := low (s := t) (i := 0) (by omega) (by omega)
    unfold word
    dsimp only
    rw [y0, w0, b0]
    rfl
  · rw [s1]
    unfold word
    dsimp only
    rw [if_neg (by omega), if_neg (by omega), if_pos b1]
    unfold braces
    dsimp only
    rw [if_pos b2, d1, v1, if_neg (by omega)]
    by_cases h1 : 255 < vl y
    · rw [if_pos h1, if_pos h1]
    · rw [if_neg h1, if_neg h1]
      dsimp only
      rw [show 1 + 2 + y.size + 1 = 1 + (1 + (1 + (y.size + 1))) by omega]
      rfl
/-- So many zeros. -/
def zs : Nat → ByteArray
  | 0 => ⟨#[]⟩
  | n + 1 => zs n ++ o48
theorem zs_size : ∀ n, (zs n).size = n
  | 0 => rfl
  | n + 1 => by show (zs n ++ o48).size = n + 1; rw [size_cat, zs_size n]; rfl
theorem zs_dig : ∀ n, Dig (zs n)
  | 0 => fun k hk => absurd hk (by show ¬ k < 0; omega)
  | n + 1 => (zs_dig n).cat fun k hk => by
    obtain rfl : k = 0 := by have : k < 1 := hk; omega
    decide
theorem zs_vl : ∀ n, vl (zs n) = 0
  | 0 => rfl
  | n + 1 => by show vl (zs n ++ o48) = 0; rw [vl_cat, zs_vl n]; rfl
/-- A digit's text. -/
def d1 (n : Nat) : ByteArray := ⟨#[UInt8.ofNat (48 + n)]⟩
theorem d1_bt {n : Nat} (h : n < 10) : bt (d1 n) 0 = 48 + n := (U.bt_mk [UInt8.ofNat (48 + n)] 0).trans (U.u8 (48 + n) (by omega))
theorem d1_dig {n : Nat} (h : n < 10) : Dig (d1 n) := fun k hk => by
  obtain rfl : k = 0 := by have : k < 1 := hk; omega
  rw [d1_bt h]; omega
theorem d1_vl {n : Nat} (h : n < 10) : vl (d1 n) = n := by
  show 0 * 10 + (bt (d1 n) (0 + 0) - 48) = n
  rw [d1_bt h]; omega
end Go.Proofs.YtceeimolfalmpaaDoor

namespace Go.Proofs.YtceeimolfalmpaaDoor
open ObUtf ObSets ObLex

abbrev k1 : ByteArray := ⟨#[97, 123, 126, 50, 125, 91, 94, 98, 93]⟩
abbrev k2 : ByteArray := ⟨#[97, 92, 49]⟩
abbrev k3 : ByteArray := ⟨#[97, 123, 51, 44, 50, 125]⟩
abbrev k4 : ByteArray := ⟨#[91, 97]⟩
theorem dg_y {s : ByteArray} {i : Nat} (h1 : 48 ≤ bt s i) (h2 : bt s i ≤ 57) : dg s i = dg s (i + 1) + 1 := by rw [dg, dif_pos (bt_in (by omega)), if_pos ⟨h1, h2⟩]
theorem dg_n {s : ByteArray} {i : Nat} (h : bt s i < 48 ∨ 57 < bt s i) : dg s i = 0 := by
  rw [dg]
  split
  · first | rfl | rw [if_neg (by omega)]
  · rfl
theorem k1_a : word k1 0 = .ok (⟨1, 0, [(97, 97)], 0, 0⟩, 1) := by rfl
theorem k1_b : word k1 1 = .ok (⟨7, 1, [], 2, 0⟩, 5) := by
  refine word_br (by decide) ?_
  have e : dg k1 3 = 1 := by rw [dg_y (by decide) (by decide), dg_n (by decide)]
  unfold braces num
  dsimp only
  rw [if_pos (by decide), e, if_neg (by decide), if_neg (by decide)]
  rfl
theorem k1_c : word k1 5 = .ok (⟨1, 5, notL [(98, 98)], 0, 0⟩, 9) := by
  have c8 : cend k1 8 = some 8 := cend_end (by decide)
  have c7 : cend k1 7 = some 8 := by rw [cend_low (by decide) (by decide) (by decide) (by decide)]; exact c8
  have c6 : cend k1 6 = some 8 := by rw [cend_low (by decide) (by decide) (by decide) (by decide)]; exact c7
  have it : item k1 7 = .ok ([(98, 98)], 8) := by rfl
  have its : items k1 8 7 = .ok [(98, 98)] := by rw [items_ok (by decide) it (by decide), items_end (Nat.le_refl _)]; rfl
  exact word_cls (by decide) (cls_not (i := 5) c6 (by decide) (by decide) its)
theorem k2_a : word k2 0 = .ok (⟨1, 0, [(97, 97)], 0, 0⟩, 1) := by rfl
theorem k2_b : word k2 1 = .error (5, 1) := by rfl
theorem k3_a : word k3 0 = .ok (⟨1, 0, [(97, 97)], 0, 0⟩, 1) := by rfl
theorem k3_b : word k3 1 = .error (7, 4) := by
  refine word_br_bad (by decide) ?_
  have e : dg k3 2 = 1 := by rw [dg_y (by decide) (by decide), dg_n (by decide)]
  have e2 : dg k3 4 = 1 := by rw [dg_y (by decide) (by decide), dg_n (by decide)]
  unfold braces num
  dsimp only
  rw [if_neg (by decide), e, if_neg (by decide), if_pos (by decide), e2, if_neg (by decide), if_neg (by decide), if_neg (by decide), if_pos (by decide)]
theorem k4_a : word k4 0 = .error (4, 0) := by
  refine word_cls_bad (by decide) ?_
  unfold cls
  rw [cend_low (k := 0 + 1) (by decide) (by decide) (by decide) (by decide), cend_out (by decide)]
end Go.Proofs.YtceeimolfalmpaaDoor
