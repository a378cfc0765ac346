/-
  Words of a text that is cut: a word that ends ahead of the cut is the same (plain facts of bytes). No program, no conditions.
  Words of a text that is cut, more: a class or braces whose end is cut off are a fault where they begin. No program, no conditions.
  The words of a text that is cut where its first fault stands: those ahead of the word with the fault, or a fault where that word begins. No program, no conditions.
  Where the first fault of a text stands (within it, and not ahead of its word), and which words the text has when it is cut there. No program, no conditions.
  A text cut again and again at its fault: what words stay, and how long it goes on. No program, no conditions.
-/
import Derived.Test.YtceeimolfalmpaaDoorLA
import Derived.Test.YtceeimolfalmpaaDoorL17
namespace ObLex
open ObUtf ObSets Go.Lib

/-- r is s cut at a place. -/
def Pre (r s : ByteArray) : Prop := r.size ≤ s.size ∧ ∀ i, bt r i = if i < r.size then bt s i else 0
theorem Pre.lt {r s : ByteArray} (h : Pre r s) {i : Nat} (hi : i < r.size) : bt r i = bt s i := by rw [h.2, if_pos hi]
theorem Pre.out {r s : ByteArray} (h : Pre r s) {i : Nat} (hi : ¬ i < r.size) : bt r i = 0 := by rw [h.2, if_neg hi]
set_option maxHeartbeats 4000000 in
set_option maxRecDepth 100000 in
theorem Pre.same {r s : ByteArray} (h : Pre r s) {i : Nat} (hi : i < r.size) (hw : i + wd s i ≤ r.size) : wd r i = wd s i ∧ sy r i = sy s i := by
  have h0 := h.2 i; have h1 := h.2 (i + 1); have h2 := h.2 (i + 2); have h3 := h.2 (i + 3)
  have hs := h.1
  rw [if_pos hi] at h0
  have his : i < s.size := by omega
  have key : decodeN (r.size - i) (bt r i) (bt r (i + 1)) (bt r (i + 2)) (bt r (i + 3)) = decodeN (s.size - i) (bt s i) (bt s (i + 1)) (bt s (i + 2)) (bt s (i + 3)) := by
    unfold ObUtf.wd at hw
    rw [if_pos his] at hw
    rw [h0, h1, h2, h3]
    have k1 := bt_lt s i
    generalize bt s i = b0 at *
    generalize bt s (i + 1) = b1 at *
    generalize bt s (i + 2) = b2 at *
    generalize bt s (i + 3) = b3 at *
    clear h0 h1 h2 h3 h
    revert hw
    by_cases c1 : i + 1 < r.size
    · by_cases c2 : i + 2 < r.size
      · by_cases c3 : i + 3 < r.size
        · rw [if_pos c1, if_pos c2, if_pos c3]
          have d1 : (1 < r.size - i) = (1 < s.size - i) := propext ⟨fun _ => by omega, fun _ => by omega⟩
          have d2 : (2 < r.size - i) = (2 < s.size - i) := propext ⟨fun _ => by omega, fun _ => by omega⟩
          have d3 : (3 < r.size - i) = (3 < s.size - i) := propext ⟨fun _ => by omega, fun _ => by omega⟩
          intro _
          unfold decodeN
          simp only [d1, d2, d3]
        · rw [if_pos c1, if_pos c2, if_neg c3]
          have e1 : 1 < r.size - i := by omega
          have e2 : 2 < r.size - i := by omega
          have e3 : ¬ 3 < r.size - i := by omega
          have f1 : 1 < s.size - i := by omega
          have f2 : 2 < s.size - i := by omega
          unfold decodeN
          simp only [e1, e2, e3, f1, f2, true_and, false_and, and_false, if_false]
          intro hw
          repeat' split at hw
          all_goals first
            | (exfalso; dsimp only at hw; omega)
            | (simp only [*, if_true, if_false, and_true, true_and, and_self]; done)
            | (simp [*]; done)
            | ((repeat' split) <;> first | with_reducible rfl | contradiction | (exfalso; omega))
      · rw [if_pos c1, if_neg c2, if_neg (by omega)]
        have e1 : 1 < r.size - i := by omega
        have e2 : ¬ 2 < r.size - i := by omega
        have e3 : ¬ 3 < r.size - i := by omega
        have f1 : 1 < s.size - i := by omega
        unfold decodeN
        simp only [e1, e2, e3, f1, true_and, false_and, and_false, if_false]
        intro hw
        repeat' split at hw
        all_goals first
          | (exfalso; dsimp only at hw; omega)
          | (simp only [*, if_true, if_false, and_true, true_and, and_self]; done)
          | (simp [*]; done)
          | ((repeat' split) <;> first | with_reducible rfl | contradiction | (exfalso; omega))
    · rw [if_neg c1, if_neg (by omega), if_neg (by omega)]
      have e1 : ¬ 1 < r.size - i := by omega
      have e2 : ¬ 2 < r.size - i := by omega
      have e3 : ¬ 3 < r.size - i := by omega
      unfold decodeN
      simp only [e1, e2, e3, false_and, and_false, if_false]
      intro hw
      repeat' split at hw
      all_goals first
        | (exfalso; dsimp only at hw; omega)
        | (simp only [*, if_true, if_false, and_true, true_and, and_self]; done)
        | (simp [*]; done)
        | ((repeat' split) <;> first | with_reducible rfl | contradiction | (exfalso; omega))
  unfold ObUtf.sy ObUtf.wd
  rw [if_pos hi, if_pos his, if_pos hi, if_pos his, key, h0]
  exact ⟨rfl, rfl⟩
theorem Pre.unit {r s : ByteArray} (h : Pre r s) {p to : Nat} (hc : cend s p = some to) (ht : to < r.size) : unit r p = unit s p := by
  have hs := cend_some hc
  have hs1 := h.1
  unfold ObLex.unit
  rw [h.lt (by omega)]
  by_cases h92 : bt s p = 92
  · rw [if_pos h92, if_pos h92]
    have h2 := cend_two h92
    rw [hc] at h2
    have h3 := cend_some h2.symm
    have hw : p + 1 < s.size := by
      rcases Nat.lt_or_ge (p + 1) s.size with g | g
      · exact g
      · rw [cend_esc0 h92 g] at hc; cases hc
    have hsm := h.same (i := p + 1) (by omega) (by omega)
    unfold esc
    rw [hsm.1, hsm.2]
  · rw [if_neg h92, if_neg h92]
    by_cases h45 : bt s p = 45 ∨ bt s p = 93
    · rw [if_pos h45, if_pos h45]
    · rw [if_neg h45, if_neg h45]
      have h2 := cend_step (s := s) (k := p) (by omega) (fun e => h45 (.inr e)) h92
      rw [hc] at h2
      have h3 := cend_some h2.symm
      have hsm := h.same (i := p) (by omega) (by omega)
      rw [hsm.1, hsm.2]
theorem Pre.item {r s : ByteArray} (h : Pre r s) {p to : Nat} (hc : cend s p = some to) (ht : to < r.size) : item r p = item s p := by
  unfold ObLex.item
  rw [h.unit hc ht]
  cases hu : ObLex.unit s p with
  | bad e => rfl
  | many l => rfl
  | one x n =>
    dsimp only
    have h1 := (unit_one hc hu).1
    have h2 := cend_some h1
    rw [h.lt (by omega)]
    by_cases hd : bt s (p + n) = 45
    · rw [if_pos hd, if_pos hd, h.unit (dash h1 hd) ht]
    · rw [if_neg hd, if_neg hd]
theorem Pre.items {r s : ByteArray} (h : Pre r s) {to : Nat} (ht : to < r.size) : ∀ (n p : Nat), to - p ≤ n → cend s p = some to → items r to p = items s to p
  | 0, p, hn, hc => by
    have := cend_some hc
    rw [items_end (by omega), items_end (by omega)]
  | n + 1, p, hn, hc => by
    have hs := cend_some hc
    by_cases hp : p < to
    · have hi := h.item hc ht
      cases hv : ObLex.item s p with
      | error f => rw [items_bad hp hv, items_bad hp (hi.trans hv)]
      | ok q =>
        obtain ⟨m, q⟩ := q
        obtain ⟨g1, g2⟩ := item_next hc hv
        rw [items_ok hp hv g1, items_ok hp (hi.trans hv) g1, Pre.items h ht n q (by omega) g2]
    · rw [items_end (by omega), items_end (by omega)]
theorem Pre.cend {r s : ByteArray} (h : Pre r s) {to : Nat} (ht : to < r.size) : ∀ (n k : Nat), to - k ≤ n → cend s k = some to → cend r k = some to
  | n, k, hn, hc => by
    have hs := cend_some hc
    have hs1 := h.1
    have hb := h.lt (i := k) (by omega)
    by_cases h93 : bt s k = 93
    · have := (cend_here hc).1 h93
      subst this
      exact cend_end (by rw [hb]; exact h93)
    · have hlt : k < to := by
        rcases Nat.lt_or_ge k to with g | g
        · exact g
        · exact absurd ((cend_here hc).2 (by omega)) h93
      cases n with
      | zero => omega
      | succ n =>
        by_cases h92 : bt s k = 92
        · have h2 := cend_two h92
          rw [hc] at h2
          have h3 := cend_some h2.symm
          have hw : k + 1 < s.size := by
            rcases Nat.lt_or_ge (k + 1) s.size with g | g
            · exact g
            · rw [cend_esc0 h92 g] at hc; cases hc
          have hp := wd_pos hw
          have hsm := h.same (i := k + 1) (by omega) (by omega)
          rw [cend_two (by rw [hb]; exact h92), hsm.1]
          exact Pre.cend h ht n _ (by omega) h2.symm
        · have h2 := cend_step (s := s) (k := k) (by omega) h93 h92
          rw [hc] at h2
          have h3 := cend_some h2.symm
          have hp := wd_pos (s := s) (i := k) (by omega)
          have hsm := h.same (i := k) (by omega) (by omega)
          rw [cend_step (by omega) (by rw [hb]; exact h93) (by rw [hb]; exact h92), hsm.1]
          exact Pre.cend h ht n _ (by omega) h2.symm
theorem Pre.cls {r s : ByteArray} (h : Pre r s) {i to : Nat} (hc : ObLex.cend s (i + 1) = some to) (ht : to < r.size) : cls r i = cls s i := by
  have hs := cend_some hc
  have hcr := h.cend ht _ (i + 1) (Nat.le_refl _) hc
  unfold ObLex.cls
  rw [hc, hcr]
  dsimp only
  rw [h.lt (i := i + 1) (by omega)]
  have hf := cend_from (s := s) (i := i + 1)
  rw [hc] at hf
  have e : (if bt s (i + 1) = 94 then i + 2 else i + 1) = (if bt s (i + 1) = 94 then i + 1 + 1 else i + 1) := rfl
  rw [e]
  rw [h.items ht _ _ (Nat.le_refl _) hf]
theorem Pre.dg {r s : ByteArray} (h : Pre r s) : ∀ (n i : Nat), r.size - i ≤ n → i + dg s i < r.size → dg r i = dg s i
  | n, i, hn, hd => by
    have hs1 := h.1
    have hb := h.lt (i := i) (by omega)
    have e : ObLex.dg s i = if 48 ≤ bt s i ∧ bt s i ≤ 57 then ObLex.dg s (i + 1) + 1 else 0 := by rw [ObLex.dg, dif_pos (show i < s.size by omega)]
    have e' : ObLex.dg r i = if 48 ≤ bt r i ∧ bt r i ≤ 57 then ObLex.dg r (i + 1) + 1 else 0 := by rw [ObLex.dg, dif_pos (show i < r.size by omega)]
    rw [e, e', hb]
    by_cases hg : 48 ≤ bt s i ∧ bt s i ≤ 57
    · rw [if_pos hg, if_pos hg]
      rw [e, if_pos hg] at hd
      cases n with
      | zero => omega
      | succ n => rw [Pre.dg h n (i + 1) (by omega) (by omega)]
    · rw [if_neg hg, if_neg hg]
theorem Pre.val {r s : ByteArray} (h : Pre r s) (i : Nat) : ∀ n, i + n ≤ r.size → val r i n = val s i n
  | 0, _ => rfl
  | n + 1, hn => by
    simp only [ObLex.val]
    rw [Pre.val h i n (by omega), h.lt (by omega)]
theorem Pre.num {r s : ByteArray} (h : Pre r s) {i : Nat} (hd : i + ObLex.dg s i < r.size) : num r i = num s i := by
  unfold ObLex.num
  rw [h.dg _ i (Nat.le_refl _) hd, h.val i _ (by omega)]
theorem dg_out {s : ByteArray} {i : Nat} (h : s.size ≤ i) : dg s i = 0 := by rw [dg, dif_neg (by omega)]
theorem Pre.braces {r s : ByteArray} (h : Pre r s) {i : Nat} {k a b : Int} {j : Nat} (he : braces s i = .ok (k, a, b, j)) (hj : j ≤ r.size) : ObLex.braces r i = .ok (k, a, b, j) := by
  unfold ObLex.braces at he ⊢
  dsimp only at he ⊢
  by_cases h1 : bt s (i + 1) = 126
  · rw [if_pos h1] at he
    split at he
    · cases he
    · rename_i h2
      split at he
      · cases he
      · rename_i h3
        have hj' : i + 2 + ObLex.dg s (i + 2) + 1 = j := by injection he with he; injection he with _ he; injection he with _ he; injection he with _ he
        have hd := h.dg _ (i + 2) (Nat.le_refl _) (by omega)
        have hn := h.num (i := i + 2) (by omega)
        rw [h.lt (i := i + 1) (by omega), if_pos h1, hd, hn, h.lt (i := i + 2 + ObLex.dg s (i + 2)) (by omega), if_neg h2, if_neg h3]
        exact he
  · rw [if_neg h1] at he
    split at he
    · cases he
    · rename_i h2
      split at he
      · rename_i h3
        split at he
        · cases he
        · rename_i h4
          split at he
          · cases he
          · rename_i h5
            have hq : i + 1 + ObLex.dg s (i + 1) + 1 + ObLex.dg s (i + 1 + ObLex.dg s (i + 1) + 1) + 1 = j := by
              split at he
              · injection he with he; injection he with _ he; injection he with _ he; injection he with _ he
              · split at he
                · cases he
                · injection he with he; injection he with _ he; injection he with _ he; injection he with _ he
            have hd := h.dg _ (i + 1) (Nat.le_refl _) (by omega)
            have hn := h.num (i := i + 1) (by omega)
            have hd2 := h.dg _ (i + 1 + ObLex.dg s (i + 1) + 1) (Nat.le_refl _) (by omega)
            have hn2 := h.num (i := i + 1 + ObLex.dg s (i + 1) + 1) (by omega)
            rw [h.lt (i := i + 1) (by omega), if_neg h1, hd, if_neg h2, h.lt (i := i + 1 + ObLex.dg s (i + 1)) (by omega), if_pos h3, hd2, h.lt (i := i + 1 + ObLex.dg s (i + 1) + 1 + ObLex.dg s (i + 1 + ObLex.dg s (i + 1) + 1)) (by omega), if_neg h4, hn, if_neg h5, hn2]
            exact he
      · rename_i h3
        split at he
        · rename_i h4
          split at he
          · cases he
          · rename_i h5
            have hq : i + 1 + ObLex.dg s (i + 1) + 1 = j := by injection he with he; injection he with _ he; injection he with _ he; injection he with _ he
            have hd := h.dg _ (i + 1) (Nat.le_refl _) (by omega)
            have hn := h.num (i := i + 1) (by omega)
            rw [h.lt (i := i + 1) (by omega), if_neg h1, hd, if_neg h2, h.lt (i := i + 1 + ObLex.dg s (i + 1)) (by omega), if_neg h3, if_pos h4, hn, if_neg h5]
            exact he
        · cases he
theorem Pre.braces_cut {r s : ByteArray} (h : Pre r s) {i : Nat} {e : Int} (he : ObLex.braces s i = .error (e, r.size)) (hi : i < r.size) : ObLex.braces r i = .error (4, i) := by
  have pl : ∀ {x : Int} {y : Nat}, (Except.error (x, y) : Res (Int × Int × Int × Nat)) = .error (e, r.size) → y = r.size := fun g => by injection g with g; injection g
  have out : ObLex.dg r r.size = 0 := dg_out (Nat.le_refl _)
  unfold ObLex.braces at he ⊢
  dsimp only at he ⊢
  by_cases h1 : bt s (i + 1) = 126
  · rw [if_pos h1] at he
    split at he
    · have := pl he; omega
    · split at he
      · have hq := pl he
        rw [h.lt (i := i + 1) (by omega), if_pos h1, hq, if_pos (.inl out)]
      · cases he
  · rw [if_neg h1] at he
    have s1 : i + 1 = r.size → ObLex.braces r i = .error (4, i) := fun hq => by
      unfold ObLex.braces
      dsimp only
      rw [h.out (i := i + 1) (by omega), if_neg (by decide), hq, if_pos out]
    unfold ObLex.braces at s1
    dsimp only at s1
    split at he
    · have := pl he; omega
    · rename_i h2
      split at he
      · rename_i h3
        split at he
        · have := pl he; omega
        · rename_i h4
          split at he
          · exact s1 (pl he)
          · split at he
            · cases he
            · split at he
              · have hq := pl he
                have hd := h.dg _ (i + 1) (Nat.le_refl _) (by omega)
                rw [h.lt (i := i + 1) (by omega), if_neg h1, hd, if_neg h2, h.lt (i := i + 1 + ObLex.dg s (i + 1)) (by omega), if_pos h3, hq, out, if_pos (by rw [h.out (by omega)]; decide)]
              · cases he
      · split at he
        · split at he
          · exact s1 (pl he)
          · cases he
        · have := pl he; omega
end ObLex

namespace ObLex
open ObUtf ObSets Go.Lib

theorem cend_high {r : ByteArray} : ∀ (n k : Nat), r.size - k ≤ n → (∀ j, k ≤ j → j < r.size → 128 ≤ bt r j) → cend r k = none
  | n, k, hn, h => by
    rcases Nat.lt_or_ge k r.size with hk | hk
    · have hb := h k (Nat.le_refl _) hk
      rw [cend_step hk (by omega) (by omega)]
      have hp := wd_pos hk
      cases n with
      | zero => omega
      | succ n => exact cend_high n _ (by omega) fun j hj hl => h j (by omega) hl
    · exact cend_out hk
theorem Pre.high {r s : ByteArray} (h : Pre r s) {k : Nat} (hk : k < r.size) (hw : r.size < k + wd s k) : ∀ j, k ≤ j → j < r.size → 128 ≤ bt r j := fun j hj hl => by
  rw [h.lt hl]
  have hs := h.1
  rcases wd_cases s k (by omega) with g | g | g | g
  · omega
  · have : j = k ∨ j = k + 1 := by omega
    rcases this with rfl | rfl <;> omega
  · have : j = k ∨ j = k + 1 ∨ j = k + 2 := by omega
    rcases this with rfl | rfl | rfl <;> omega
  · have : j = k ∨ j = k + 1 ∨ j = k + 2 ∨ j = k + 3 := by omega
    rcases this with rfl | rfl | rfl | rfl <;> omega
theorem Pre.cend_back {r s : ByteArray} (h : Pre r s) {to : Nat} : ∀ (n k : Nat), r.size - k ≤ n → ObLex.cend r k = some to → ObLex.cend s k = some to
  | n, k, hn, hc => by
    have hs1 := h.1
    have hs := cend_some hc
    have hb := h.lt (i := k) (by omega)
    by_cases h93 : bt r k = 93
    · have := (cend_here hc).1 h93
      subst this
      exact cend_end (by rw [← hb]; exact h93)
    · cases n with
      | zero => omega
      | succ n =>
        by_cases h92 : bt r k = 92
        · have hw : k + 1 < r.size := by
            rcases Nat.lt_or_ge (k + 1) r.size with g | g
            · exact g
            · rw [cend_esc0 h92 g] at hc; cases hc
          have h2 := cend_two h92
          rw [hc] at h2
          have hp := wd_pos hw
          rcases Nat.lt_or_ge r.size (k + 1 + wd s (k + 1)) with g | g
          · have hh := h.high hw g
            have := cend_high (r := r) _ (k + 1 + wd r (k + 1)) (Nat.le_refl _) fun j hj hl => hh j (by omega) hl
            rw [this] at h2; cases h2
          · have hsm := h.same hw g
            rw [hsm.1] at h2
            rw [cend_two (by rw [← hb]; exact h92)]
            exact Pre.cend_back h n _ (by have := wd_pos (s := s) (i := k + 1) (by omega); omega) h2.symm
        · have h2 := cend_step (s := r) (k := k) (by omega) h93 h92
          rw [hc] at h2
          have hp := wd_pos (s := r) (i := k) (by omega)
          rcases Nat.lt_or_ge r.size (k + wd s k) with g | g
          · have hh := h.high (by omega) g
            have := cend_high (r := r) _ (k + wd r k) (Nat.le_refl _) fun j hj hl => hh j (by omega) hl
            rw [this] at h2; cases h2
          · have hsm := h.same (i := k) (by omega) g
            rw [hsm.1] at h2
            rw [cend_step (by omega) (by rw [← hb]; exact h93) (by rw [← hb]; exact h92)]
            exact Pre.cend_back h n _ (by have := wd_pos (s := s) (i := k) (by omega); omega) h2.symm
theorem item_err_le {s : ByteArray} {p to : Nat} {e : Int} {q : Nat} (hc : cend s p = some to) (hp : p < to) (h : item s p = .error (e, q)) : q ≤ to := by
  unfold item at h
  cases hu : unit s p with
  | bad e => rw [hu] at h; injection h with h; injection h; omega
  | many l => rw [hu] at h; cases h
  | one x n =>
    have h1 := cend_some (unit_one hc hu).1
    rw [hu] at h
    dsimp only at h
    split at h
    · split at h
      · split at h
        · injection h with h; injection h; omega
        · cases h
      · injection h with h; injection h; omega
    · cases h
theorem items_err_le {s : ByteArray} {to : Nat} {e : Int} {q : Nat} : ∀ (n p : Nat), to - p ≤ n → cend s p = some to → items s to p = .error (e, q) → q ≤ to
  | n, p, hn, hc, h => by
    rcases Nat.lt_or_ge p to with hp | hp
    · cases hv : item s p with
      | error f =>
        rw [items_bad hp hv] at h
        injection h with h; subst h
        exact item_err_le hc hp hv
      | ok m =>
        obtain ⟨m, j⟩ := m
        obtain ⟨g1, g2⟩ := item_next hc hv
        rw [items_ok hp hv g1] at h
        cases n with
        | zero => omega
        | succ n =>
          cases hi : items s to j with
          | error f =>
            rw [hi] at h
            have hf : f = (e, q) := by injection h
            subst hf
            exact items_err_le n j (by omega) g2 hi
          | ok l => rw [hi] at h; cases h
    · rw [items_end hp] at h; cases h
theorem Pre.cls_cut {r s : ByteArray} (h : Pre r s) {i : Nat} {e : Int} (he : ObLex.cls s i = .error (e, r.size)) (_ : i < r.size) : ObLex.cls r i = .error (4, i) := by
  have key : ∀ to, ObLex.cend s (i + 1) = some to → r.size ≤ to := fun to hc => by
    unfold ObLex.cls at he
    rw [hc] at he
    dsimp only at he
    have hf := cend_from (s := s) (i := i + 1)
    rw [hc] at hf
    have hf' : ObLex.cend s (if bt s (i + 1) = 94 then i + 2 else i + 1) = some to := hf
    generalize (if bt s (i + 1) = 94 then i + 2 else i + 1) = fr at he hf'
    by_cases hto : to = fr
    · rw [if_pos hto] at he
      injection he with he; injection he; omega
    · rw [if_neg hto] at he
      cases hit : ObLex.items s to fr with
      | error f =>
        rw [hit] at he
        have hfe : f = (e, r.size) := by injection he
        subst hfe
        exact items_err_le _ _ (Nat.le_refl _) hf' hit
      | ok l => rw [hit] at he; cases he
  have hn : ObLex.cend r (i + 1) = none := by
    cases hc : ObLex.cend r (i + 1) with
    | none => rfl
    | some to =>
      have h1 := h.cend_back _ _ (Nat.le_refl _) hc
      have h2 := cend_some hc
      have := key to h1
      omega
  unfold ObLex.cls
  rw [hn]
end ObLex

namespace ObLex
open ObUtf ObSets Go.Lib
open Go.Proofs.YtceeimolfalmpaaDoor (toks_bad toks_ok toks_end)

theorem Pre.word {r s : ByteArray} (h : Pre r s) {i : Nat} {t : T} {j : Nat} (he : word s i = .ok (t, j)) (hi : i < r.size) (hij : i < j) (hj : j ≤ r.size) : ObLex.word r i = .ok (t, j) := by
  have hs := h.1
  have hjx : ∀ {x y : T} {a b : Nat}, (Except.ok (x, a) : Res (T × Nat)) = .ok (y, b) → a = b := fun g => by injection g with g; injection g
  unfold ObLex.word at he ⊢
  dsimp only at he ⊢
  rw [h.lt hi]
  by_cases h92 : bt s i = 92
  · rw [if_pos h92] at he ⊢
    cases hx : esc s i with
    | bad e => rw [hx] at he; cases he
    | one x n =>
      rw [hx] at he
      have h1 := hjx he
      have h2 := esc_one_wd hx
      have h3 : i + 1 < s.size := by
        rcases Nat.lt_or_ge (i + 1) s.size with g | g
        · exact g
        · unfold esc at hx; rw [sy_out g] at hx; unfold escOf at hx; rw [if_pos (by decide)] at hx; cases hx
      have h4 := wd_pos h3
      have hsm := h.same (i := i + 1) (by omega) (by omega)
      have hr : esc r i = esc s i := by unfold esc; rw [hsm.1, hsm.2]
      rw [hr, hx]; exact he
    | many l =>
      rw [hx] at he
      have h1 := hjx he
      have h2 := esc_many_wd hx
      have hsm := h.same (i := i + 1) (by omega) (by omega)
      have hr : esc r i = esc s i := by unfold esc; rw [hsm.1, hsm.2]
      rw [hr, hx]; exact he
  rw [if_neg h92] at he ⊢
  by_cases h91 : bt s i = 91
  · rw [if_pos h91] at he ⊢
    cases hc : ObLex.cls s i with
    | error f => rw [hc] at he; cases he
    | ok p =>
      obtain ⟨l, j'⟩ := p
      rw [hc] at he
      have h1 := hjx he
      subst h1
      have hto : ∃ to, ObLex.cend s (i + 1) = some to ∧ j' = to + 1 := by
        unfold ObLex.cls at hc
        cases hce : ObLex.cend s (i + 1) with
        | none => rw [hce] at hc; cases hc
        | some to =>
          rw [hce] at hc
          dsimp only at hc
          generalize (if bt s (i + 1) = 94 then i + 2 else i + 1) = fr at hc
          by_cases hq : to = fr
          · rw [if_pos hq] at hc; cases hc
          · rw [if_neg hq] at hc
            cases hit : ObLex.items s to fr with
            | error f => rw [hit] at hc; cases hc
            | ok l' => rw [hit] at hc; injection hc with hc; injection hc with _ hc; exact ⟨to, rfl, hc.symm⟩
      obtain ⟨to, hce, rfl⟩ := hto
      rw [h.cls hce (by omega), hc]; exact he
  rw [if_neg h91] at he ⊢
  by_cases h123 : bt s i = 123
  · rw [if_pos h123] at he ⊢
    cases hb : ObLex.braces s i with
    | error f => rw [hb] at he; cases he
    | ok p =>
      obtain ⟨k, a, b, j'⟩ := p
      rw [hb] at he
      have h1 := hjx he
      subst h1
      rw [h.braces hb hj]; exact he
  rw [if_neg h123] at he ⊢
  by_cases h93 : bt s i = 93 ∨ bt s i = 125
  · rw [if_pos h93] at he; cases he
  rw [if_neg h93] at he ⊢
  by_cases h46 : bt s i = 46
  · rw [if_pos h46] at he ⊢; exact he
  rw [if_neg h46] at he ⊢
  by_cases h40 : bt s i = 40
  · rw [if_pos h40] at he ⊢
    by_cases hp : bt s (i + 1) = 63 ∧ bt s (i + 2) = 58
    · rw [if_pos hp] at he
      have h1 := hjx he
      rw [h.lt (i := i + 1) (by omega), h.lt (i := i + 2) (by omega), if_pos hp]; exact he
    · rw [if_neg hp] at he
      have hn : ¬ (bt r (i + 1) = 63 ∧ bt r (i + 2) = 58) := fun ⟨g1, g2⟩ => by
        have k1 : i + 1 < r.size := by
          rcases Nat.lt_or_ge (i + 1) r.size with g | g
          · exact g
          · rw [h.out (by omega)] at g1; cases g1
        have k2 : i + 2 < r.size := by
          rcases Nat.lt_or_ge (i + 2) r.size with g | g
          · exact g
          · rw [h.out (by omega)] at g2; cases g2
        rw [h.lt k1] at g1
        rw [h.lt k2] at g2
        exact hp ⟨g1, g2⟩
      rw [if_neg hn]; exact he
  rw [if_neg h40] at he ⊢
  by_cases h41 : bt s i = 41
  · rw [if_pos h41] at he ⊢; exact he
  rw [if_neg h41] at he ⊢
  by_cases h124 : bt s i = 124
  · rw [if_pos h124] at he ⊢; exact he
  rw [if_neg h124] at he ⊢
  by_cases h94 : bt s i = 94
  · rw [if_pos h94] at he ⊢; exact he
  rw [if_neg h94] at he ⊢
  by_cases h36 : bt s i = 36
  · rw [if_pos h36] at he ⊢; exact he
  rw [if_neg h36] at he ⊢
  by_cases h42 : bt s i = 42
  · rw [if_pos h42] at he ⊢; exact he
  rw [if_neg h42] at he ⊢
  by_cases h43 : bt s i = 43
  · rw [if_pos h43] at he ⊢; exact he
  rw [if_neg h43] at he ⊢
  by_cases h63 : bt s i = 63
  · rw [if_pos h63] at he ⊢; exact he
  rw [if_neg h63] at he ⊢
  have h1 := hjx he
  have hsm := h.same (i := i) hi (by omega)
  rw [hsm.1, hsm.2]; exact he
theorem Pre.word_cut {r s : ByteArray} (h : Pre r s) {i : Nat} {e : Int} (he : ObLex.word s i = .error (e, r.size)) (hi : i < r.size) : ObLex.word r i = .error (4, i) := by
  have pl : ∀ {x : Int} {y : Nat}, (Except.error (x, y) : Res (T × Nat)) = .error (e, r.size) → y = r.size := fun g => by injection g with g; injection g
  unfold ObLex.word at he ⊢
  dsimp only at he ⊢
  rw [h.lt hi]
  by_cases h92 : bt s i = 92
  · rw [if_pos h92] at he
    cases hx : esc s i with
    | bad e => rw [hx] at he; have := pl he; omega
    | one x n => rw [hx] at he; cases he
    | many l => rw [hx] at he; cases he
  rw [if_neg h92] at he ⊢
  by_cases h91 : bt s i = 91
  · rw [if_pos h91] at he ⊢
    cases hc : ObLex.cls s i with
    | ok p => rw [hc] at he; cases he
    | error f =>
      rw [hc] at he
      have hf : f = (e, r.size) := by injection he
      subst hf
      rw [h.cls_cut hc hi]
  rw [if_neg h91] at he ⊢
  by_cases h123 : bt s i = 123
  · rw [if_pos h123] at he ⊢
    cases hb : ObLex.braces s i with
    | ok p => rw [hb] at he; cases he
    | error f =>
      rw [hb] at he
      have hf : f = (e, r.size) := by injection he
      subst hf
      rw [h.braces_cut hb hi]
  rw [if_neg h123] at he ⊢
  exfalso
  repeat' split at he
  all_goals first
    | (have := pl he; omega)
    | cases he
/-- So many words stand from a place to another one. -/
def Run (s : ByteArray) : Nat → List T → Nat → Prop
  | i, [], p => p = i
  | i, t :: l, p => i < s.size ∧ ∃ j, word s i = .ok (t, j) ∧ i < j ∧ Run s j l p
theorem run_of : ∀ {s : ByteArray} (n i : Nat) (f : F), s.size - i ≤ n → (∀ k t j, word s k = .ok (t, j) → k < s.size → k < j) → toks s i = .error f → ∃ l p, Run s i l p ∧ i ≤ p ∧ p < s.size ∧ word s p = .error f
  | s, n, i, f, hn, hw, h => by
    rcases Nat.lt_or_ge i s.size with hi | hi
    · cases hv : word s i with
      | error g =>
        rw [toks_bad hi hv] at h
        injection h with h; subst h
        exact ⟨[], i, rfl, Nat.le_refl _, hi, hv⟩
      | ok p =>
        obtain ⟨t, j⟩ := p
        have hij := hw i t j hv hi
        rw [toks_ok hi hv] at h
        cases n with
        | zero => omega
        | succ n =>
          cases hj : toks s j with
          | ok l => rw [hj] at h; cases h
          | error g =>
            rw [hj] at h
            have hg : g = f := by injection h
            subst hg
            obtain ⟨l, p, h1, h2, h3, h4⟩ := run_of n j g (by omega) hw hj
            exact ⟨t :: l, p, ⟨hi, j, hv, hij, h1⟩, by omega, h3, h4⟩
    · rw [toks_end hi] at h; cases h
theorem Run.le {s : ByteArray} : ∀ {l : List T} {i p : Nat}, Run s i l p → i ≤ p
  | [], i, p, h => by have h : p = i := h; omega
  | t :: l, i, p, h => by obtain ⟨_, j, _, hij, hr⟩ := h; have := Run.le hr; omega
theorem Run.pre {r s : ByteArray} (h : Pre r s) : ∀ {l : List T} {i p : Nat}, Run s i l p → p ≤ r.size → Run r i l p
  | [], i, p, hr, _ => hr
  | t :: l, i, p, hr, hp => by
    obtain ⟨_, j, hv, hij, hr⟩ := hr
    have hjp := hr.le
    exact ⟨by omega, j, h.word hv (by omega) hij (by omega), hij, Run.pre h hr hp⟩
theorem Run.toks {s : ByteArray} : ∀ {l : List T} {i p : Nat}, Run s i l p → ObLex.toks s i = ObLex.pre l (ObLex.toks s p)
  | [], i, p, h => by have h : p = i := h; subst h; rw [pre_nil]
  | t :: l, i, p, h => by
    obtain ⟨hi, j, hv, _, hr⟩ := h
    rw [toks_ok hi hv, Run.toks hr, pre_pre]; rfl
end ObLex

namespace ObLex
open ObUtf ObSets Go.Lib
open Go.Proofs.YtceeimolfalmpaaDoor (toks_bad toks_ok toks_end word_next)

theorem err_pl {α : Type} {e f : Int} {p q : Nat} (h : (Except.error (e, p) : Res α) = .error (f, q)) : p = q := by injection h with h; injection h
theorem item_err_ge {s : ByteArray} {p : Nat} {e : Int} {q : Nat} (h : item s p = .error (e, q)) : p ≤ q := by
  unfold item at h
  split at h
  · have := err_pl h; omega
  · cases h
  · split at h
    · split at h
      · split at h
        · have := err_pl h; omega
        · cases h
      · have := err_pl h; omega
    · cases h
theorem items_err_ge {s : ByteArray} {to : Nat} {e : Int} {q : Nat} : ∀ (n p : Nat), to - p ≤ n → cend s p = some to → items s to p = .error (e, q) → p ≤ q
  | n, p, hn, hc, h => by
    rcases Nat.lt_or_ge p to with hp | hp
    · cases hv : item s p with
      | error f =>
        rw [items_bad hp hv] at h
        injection h with h; subst h
        exact item_err_ge hv
      | ok m =>
        obtain ⟨m, j⟩ := m
        obtain ⟨g1, g2⟩ := item_next hc hv
        rw [items_ok hp hv g1] at h
        cases n with
        | zero => omega
        | succ n =>
          cases hi : items s to j with
          | error f =>
            rw [hi] at h
            have hf : f = (e, q) := by injection h
            subst hf
            have := items_err_ge n j (by omega) g2 hi
            omega
          | ok l => rw [hi] at h; cases h
    · rw [items_end hp] at h; cases h
theorem cls_err_lt {s : ByteArray} {i : Nat} {e : Int} {q : Nat} (hi : i < s.size) (h : cls s i = .error (e, q)) : i ≤ q ∧ q < s.size := by
  revert h
  unfold cls
  cases hc : cend s (i + 1) with
  | none => intro h; have := err_pl h; omega
  | some to =>
    have hto := cend_some hc
    have hfr : cend s (if bt s (i + 1) = 94 then i + 1 + 1 else i + 1) = some to := by rw [cend_from]; exact hc
    have hge : i + 1 ≤ (if bt s (i + 1) = 94 then i + 1 + 1 else i + 1) := by split <;> omega
    dsimp only
    generalize (if bt s (i + 1) = 94 then i + 2 else i + 1) = f at hfr hge ⊢
    intro h
    by_cases ht : to = f
    · rw [if_pos ht] at h; have := err_pl h; omega
    · rw [if_neg ht] at h
      cases hr : items s to f with
      | error g =>
        obtain ⟨e2, q2⟩ := g
        rw [hr] at h
        have h1 := err_pl h
        have h2 := items_err_le _ f (Nat.le_refl _) hfr hr
        have h3 := items_err_ge _ f (Nat.le_refl _) hfr hr
        omega
      | ok m => rw [hr] at h; cases h
theorem dg_in {s : ByteArray} {i : Nat} (h : dg s i ≠ 0) : i < s.size := by
  rcases Nat.lt_or_ge i s.size with g | g
  · exact g
  · exact absurd (dg_out g) h
theorem braces_err_lt {s : ByteArray} {i : Nat} {e : Int} {q : Nat} (hi : i < s.size) (h : braces s i = .error (e, q)) : i ≤ q ∧ q < s.size := by
  revert h
  unfold braces
  dsimp only
  intro h
  by_cases h1 : bt s (i + 1) = 126
  · rw [if_pos h1] at h
    by_cases h2 : dg s (i + 2) = 0 ∨ bt s (i + 2 + dg s (i + 2)) ≠ 125
    · rw [if_pos h2] at h; have := err_pl h; omega
    · rw [if_neg h2] at h
      have := dg_in (fun g => h2 (.inl g))
      by_cases h3 : 255 < num s (i + 2)
      · rw [if_pos h3] at h; have := err_pl h; omega
      · rw [if_neg h3] at h; cases h
  · rw [if_neg h1] at h
    by_cases h2 : dg s (i + 1) = 0
    · rw [if_pos h2] at h; have := err_pl h; omega
    · rw [if_neg h2] at h
      have := dg_in h2
      by_cases h3 : bt s (i + 1 + dg s (i + 1)) = 44
      · rw [if_pos h3] at h
        by_cases h4 : bt s (i + 1 + dg s (i + 1) + 1 + dg s (i + 1 + dg s (i + 1) + 1)) ≠ 125
        · rw [if_pos h4] at h; have := err_pl h; omega
        · rw [if_neg h4] at h
          by_cases h5 : 255 < num s (i + 1)
          · rw [if_pos h5] at h; have := err_pl h; omega
          · rw [if_neg h5] at h
            by_cases h6 : dg s (i + 1 + dg s (i + 1) + 1) = 0
            · rw [if_pos h6] at h; cases h
            · rw [if_neg h6] at h
              have := dg_in h6
              by_cases h7 : 255 < num s (i + 1 + dg s (i + 1) + 1) ∨ num s (i + 1 + dg s (i + 1) + 1) < num s (i + 1)
              · rw [if_pos h7] at h; have := err_pl h; omega
              · rw [if_neg h7] at h; cases h
      · rw [if_neg h3] at h
        by_cases h4 : bt s (i + 1 + dg s (i + 1)) = 125
        · rw [if_pos h4] at h
          by_cases h5 : 255 < num s (i + 1)
          · rw [if_pos h5] at h; have := err_pl h; omega
          · rw [if_neg h5] at h; cases h
        · rw [if_neg h4] at h; have := err_pl h; omega
theorem word_err_lt {s : ByteArray} {i : Nat} {e : Int} {q : Nat} (hi : i < s.size) (h : word s i = .error (e, q)) : i ≤ q ∧ q < s.size := by
  revert h
  unfold word
  dsimp only
  intro h
  by_cases h1 : bt s i = 92
  · rw [if_pos h1] at h
    cases he : esc s i with
    | bad e => rw [he] at h; have := err_pl h; omega
    | one x n => rw [he] at h; cases h
    | many l => rw [he] at h; cases h
  · rw [if_neg h1] at h
    by_cases h2 : bt s i = 91
    · rw [if_pos h2] at h
      cases hc : cls s i with
      | error f =>
        obtain ⟨e2, q2⟩ := f
        rw [hc] at h
        have h1 := err_pl h
        have h2 := cls_err_lt hi hc
        omega
      | ok y => obtain ⟨l, j⟩ := y; rw [hc] at h; cases h
    · rw [if_neg h2] at h
      by_cases h3 : bt s i = 123
      · rw [if_pos h3] at h
        cases hc : braces s i with
        | error f =>
          obtain ⟨e2, q2⟩ := f
          rw [hc] at h
          have h1 := err_pl h
          have h2 := braces_err_lt hi hc
          omega
        | ok y => obtain ⟨k, a, b, j⟩ := y; rw [hc] at h; cases h
      · rw [if_neg h3] at h
        by_cases h4 : bt s i = 93 ∨ bt s i = 125
        · rw [if_pos h4] at h; have := err_pl h; omega
        · rw [if_neg h4] at h
          revert h
          repeat' split
          all_goals (intro h; cases h)
/-- The words ahead of the first fault: a text cut at the fault has them, or has a fault where they end; cut there, it has them. -/
theorem cut_words {s : ByteArray} {e : Int} {q : Nat} (h : toks s 0 = .error (e, q)) : ∃ l p, Run s 0 l p ∧ p ≤ q ∧ q < s.size ∧ ∀ r, Pre r s → r.size = q → (p = q ∧ toks r 0 = .ok l) ∨ (p < q ∧ toks r 0 = .error (4, p) ∧ ∀ t, Pre t r → t.size = p → toks t 0 = .ok l) := by
  obtain ⟨l, p, h1, _, h3, h4⟩ := run_of _ 0 _ (Nat.le_refl _) (fun k t j hk hs => (word_next hs hk).1) h
  have h5 := word_err_lt h3 h4
  refine ⟨l, p, h1, h5.1, h5.2, fun r hr hq => ?_⟩
  subst hq
  have hrun := Run.pre hr h1 h5.1
  rcases Nat.lt_or_ge p r.size with g | g
  · refine .inr ⟨g, ?_, fun t ht hp => ?_⟩
    · rw [hrun.toks, toks_bad g (hr.word_cut h4 g)]; rfl
    · subst hp
      rw [(Run.pre ht hrun (Nat.le_refl _)).toks, toks_end (Nat.le_refl _)]
      simp [pre]
  · refine .inl ⟨by omega, ?_⟩
    rw [hrun.toks, toks_end g]
    simp [pre]
end ObLex

namespace ObLex
open ObUtf ObSets Go.Lib
open Go.Proofs.YtceeimolfalmpaaDoor (toks_bad toks_ok toks_end word_next)

theorem bt_get (s : ByteArray) (i : Nat) (h : i < s.size) : bt s i = (s[i]'h).toNat := by
  have : s.get! i = s[i]'h := by cases s with | mk d => exact getElem!_pos d i h
  unfold bt
  rw [this]
theorem pre_extract (s : ByteArray) {q : Nat} (h : q ≤ s.size) : Pre (s.extract 0 q) s ∧ (s.extract 0 q).size = q := by
  have hz : (s.extract 0 q).size = q := by rw [ByteArray.size_extract]; omega
  refine ⟨⟨by omega, fun i => ?_⟩, hz⟩
  by_cases hi : i < q
  · have h1 : i < (s.extract 0 q).size := by omega
    have h2 : i < s.size := by omega
    rw [if_pos h1, bt_get _ _ h1, bt_get _ _ h2, ByteArray.getElem_extract]
    simp
  · rw [if_neg (by omega)]
    exact bt_out (by omega)
/-- The words that stand ahead of a text's first fault: all of them, if it has none. -/
def Ahead (s : ByteArray) (l : List T) : Prop :=
  toks s 0 = .ok l ∨ ∃ e q p, toks s 0 = .error (e, q) ∧ Run s 0 l p ∧ p ≤ q ∧ p < s.size ∧ word s p = .error (e, q)
/-- A text, or what is left of it when it has been cut at a fault. -/
def Chain (s r : ByteArray) : Prop :=
  r = s ∨ ∃ l p e q, toks s 0 = .error (e, q) ∧ Run s 0 l p ∧ p ≤ q ∧ p < s.size ∧ word s p = .error (e, q) ∧ (toks r 0 = .ok l ∨ (toks r 0 = .error (4, p) ∧ p < r.size ∧ ∀ t, Pre t r → t.size = p → toks t 0 = .ok l))
theorem Chain.fin {s r : ByteArray} {l : List T} (h : Chain s r) (hl : toks r 0 = .ok l) : Ahead s l := by
  rcases h with rfl | ⟨m, p, e, q, h1, h2, h3, h4, h5, h6⟩
  · exact .inl hl
  · rcases h6 with h6 | ⟨h6, _, _⟩
    · rw [h6] at hl
      injection hl with hl; subst hl
      exact .inr ⟨e, q, p, h1, h2, h3, h4, h5⟩
    · rw [h6] at hl; cases hl
theorem Chain.step {s r : ByteArray} {f : Int} {a : Nat} (h : Chain s r) (hl : toks r 0 = .error (f, a)) : a < r.size ∧ ∀ t, Pre t r → t.size = a → Chain s t := by
  rcases h with rfl | ⟨m, p, e, q, h1, h2, h3, h4, h5, h6⟩
  · obtain ⟨l, p, h1, _, h3, h4⟩ := run_of _ 0 _ (Nat.le_refl _) (fun k t j hk hs => (word_next hs hk).1) hl
    have h5 := word_err_lt h3 h4
    refine ⟨h5.2, fun t ht hz => .inr ⟨l, p, f, a, hl, h1, h5.1, h3, h4, ?_⟩⟩
    subst hz
    have hrun := Run.pre ht h1 h5.1
    rcases Nat.lt_or_ge p t.size with g | g
    · refine .inr ⟨?_, g, fun u hu hp => ?_⟩
      · rw [hrun.toks, toks_bad g (ht.word_cut h4 g)]; rfl
      · subst hp
        rw [(Run.pre hu hrun (Nat.le_refl _)).toks, toks_end (Nat.le_refl _)]
        simp [pre]
    · refine .inl ?_
      rw [hrun.toks, toks_end g]
      simp [pre]
  · rcases h6 with h6 | ⟨h6, h7, h8⟩
    · rw [h6] at hl; cases hl
    · rw [h6] at hl
      have ha := err_pl hl
      subst ha
      exact ⟨h7, fun t ht hz => .inr ⟨m, p, e, q, h1, h2, h3, h4, h5, .inl (h8 t ht hz)⟩⟩
end ObLex
