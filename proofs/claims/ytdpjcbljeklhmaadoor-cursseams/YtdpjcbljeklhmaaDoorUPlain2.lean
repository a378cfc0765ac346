/-
  Plain arithmetic: the table of first bytes (how many bytes a valid sequence has, between what its second one lies) tells the width and the symbol at each place. No conditions beyond bytes being below 256.
-/
import Derived.Test.YtdpjcbljeklhmaaDoorUPlain
namespace ObUtf
open Go.Lib

def rowN (c : Nat) : Nat := if c < 128 then 1 else if c < 194 then 0 else if c < 224 then 2 else if c < 240 then 3 else if c < 245 then 4 else 0
def rowLo (c : Nat) : Nat := if c < 194 then 0 else if c = 224 then 160 else if c = 240 then 144 else if c < 245 then 128 else 0
def rowHi (c : Nat) : Nat := if c < 194 then 0 else if c = 237 then 159 else if c = 244 then 143 else if c < 245 then 191 else 0
theorem rowN_le (c : Nat) : rowN c ≤ 4 := by unfold rowN; repeat' split
                                             all_goals omega
theorem rowLo_lt (c : Nat) : rowLo c < 256 := by unfold rowLo; repeat' split
                                                 all_goals omega
theorem rowHi_lt (c : Nat) : rowHi c < 256 := by unfold rowHi; repeat' split
                                                 all_goals omega
/-- How many bytes the valid sequence has that begins at a place; 0: none does. -/
def sqn (s : ByteArray) (i : Nat) : Nat := if wd s i = 1 ∧ 128 ≤ bt s i then 0 else wd s i

set_option maxHeartbeats 4000000 in
theorem dec_row (n c b1 b2 b3 : Nat) (hn : 1 ≤ n) (hc : c < 256) (h1 : b1 < 256) (h2 : b2 < 256) (h3 : b3 < 256) (h : 2 ≤ rowN c) : decodeN n c b1 b2 b3 = slowN n c b1 b2 b3 (rowN c) (rowLo c) (rowHi c) := by
  have hcl : (194 ≤ c ∧ c < 224) ∨ c = 224 ∨ ((225 ≤ c ∧ c < 237) ∨ (238 ≤ c ∧ c < 240)) ∨ c = 237 ∨ c = 240 ∨ (241 ≤ c ∧ c < 244) ∨ c = 244 := by
    unfold rowN at h; revert h; repeat' split
    all_goals omega
  rcases hcl with k | k | k | k | k | k | k
  · rw [← slow_C2 n c b1 b2 b3 hn h1 h2 h3 k]
    rw [show rowN c = 2 by unfold rowN; repeat' split
                           all_goals omega, show rowLo c = 128 by unfold rowLo; repeat' split
                                                                  all_goals omega, show rowHi c = 191 by unfold rowHi; repeat' split
                                                                                                         all_goals omega]
  · subst k; exact (slow_E0 n _ b1 b2 b3 hn h1 h2 h3 rfl).symm
  · rw [← slow_E1 n c b1 b2 b3 hn h1 h2 h3 k]
    rw [show rowN c = 3 by unfold rowN; repeat' split
                           all_goals omega, show rowLo c = 128 by unfold rowLo; repeat' split
                                                                  all_goals omega, show rowHi c = 191 by unfold rowHi; repeat' split
                                                                                                         all_goals omega]
  · subst k; exact (slow_ED n _ b1 b2 b3 hn h1 h2 h3 rfl).symm
  · subst k; exact (slow_F0 n _ b1 b2 b3 hn h1 h2 h3 rfl).symm
  · rw [← slow_F1 n c b1 b2 b3 hn h1 h2 h3 k]
    rw [show rowN c = 4 by unfold rowN; repeat' split
                           all_goals omega, show rowLo c = 128 by unfold rowLo; repeat' split
                                                                  all_goals omega, show rowHi c = 191 by unfold rowHi; repeat' split
                                                                                                         all_goals omega]
  · subst k; exact (slow_F4 n _ b1 b2 b3 hn h1 h2 h3 rfl).symm
theorem dec_none (n c b1 b2 b3 : Nat) (hc : c < 256) (h : rowN c = 0) : decodeN n c b1 b2 b3 = (65533, 1) := by
  have hcl : (128 ≤ c ∧ c < 194) ∨ 245 ≤ c := by
    unfold rowN at h; revert h; repeat' split
    all_goals omega
  unfold decodeN
  repeat' split
  all_goals first | rfl | (exfalso; omega)
theorem dec_one (n c b1 b2 b3 : Nat) (h : rowN c = 1) : decodeN n c b1 b2 b3 = (c, 1) ∧ c < 128 := by
  have hcl : c < 128 := by
    unfold rowN at h; revert h; repeat' split
    all_goals omega
  exact ⟨by unfold decodeN; rw [if_pos hcl], hcl⟩

section
variable {s : ByteArray} {i : Nat} (hi : i < s.size)
include hi
theorem sqn_few (h : rowN (bt s i) < 2) : sqn s i = rowN (bt s i) := by
  rcases (show rowN (bt s i) = 0 ∨ rowN (bt s i) = 1 by omega) with h0 | h0
  · have e := dec_none (s.size - i) (bt s i) (bt s (i + 1)) (bt s (i + 2)) (bt s (i + 3)) (bt_lt _ _) h0
    have hb : 128 ≤ bt s i := by
      unfold rowN at h0; revert h0; repeat' split
      all_goals omega
    have hw : wd s i = 1 := by unfold wd; rw [if_pos hi, e]
    unfold sqn; rw [if_pos ⟨hw, hb⟩, h0]
  · obtain ⟨e, hb⟩ := dec_one (s.size - i) (bt s i) (bt s (i + 1)) (bt s (i + 2)) (bt s (i + 3)) h0
    have hw : wd s i = 1 := by unfold wd; rw [if_pos hi, e]
    unfold sqn; rw [if_neg (by omega), h0, hw]
omit hi in
theorem row_big (h : 2 ≤ rowN (bt s i)) : 194 ≤ bt s i := by
  unfold rowN at h; revert h; repeat' split
  all_goals omega
theorem wd_row (h : 2 ≤ rowN (bt s i)) : wd s i = (slowN (s.size - i) (bt s i) (bt s (i + 1)) (bt s (i + 2)) (bt s (i + 3)) (rowN (bt s i)) (rowLo (bt s i)) (rowHi (bt s i))).2 := by
  unfold wd
  rw [if_pos hi, dec_row _ _ _ _ _ (by omega) (bt_lt _ _) (bt_lt _ _) (bt_lt _ _) (bt_lt _ _) h]
omit hi in
theorem sqn_zero (h : 2 ≤ rowN (bt s i)) (hw : wd s i = 1) : sqn s i = 0 := by
  have := row_big h
  unfold sqn; rw [if_pos ⟨hw, by omega⟩]
theorem sqn_short (h : 2 ≤ rowN (bt s i)) (hl : s.size - i < rowN (bt s i)) : sqn s i = 0 := by
  refine sqn_zero h ?_
  rw [wd_row hi h]; unfold slowN; rw [if_pos hl]
theorem sqn_second (h : 2 ≤ rowN (bt s i)) (hb : bt s (i + 1) < rowLo (bt s i) ∨ rowHi (bt s i) < bt s (i + 1)) : sqn s i = 0 := by
  refine sqn_zero h ?_
  rw [wd_row hi h]; unfold slowN
  split
  · rfl
  · rfl
theorem sqn_later (h : 2 ≤ rowN (bt s i)) {k : Nat} (hk : 2 ≤ k) (hk2 : k < rowN (bt s i)) (hb : bt s (i + k) < 128 ∨ 191 < bt s (i + k)) : sqn s i = 0 := by
  refine sqn_zero h ?_
  have hl := rowN_le (bt s i)
  rw [wd_row hi h]; unfold slowN
  split
  · rfl
  split
  · rfl
  rw [if_neg (by omega)]
  split
  · rfl
  rename_i h3
  rcases (show k = 2 ∨ k = 3 by omega) with rfl | rfl
  · exact absurd hb h3
  · rw [if_neg (by omega), if_pos hb]
theorem sqn_whole (h : 2 ≤ rowN (bt s i)) (hl : rowN (bt s i) ≤ s.size - i) (h1 : rowLo (bt s i) ≤ bt s (i + 1)) (h2 : bt s (i + 1) ≤ rowHi (bt s i))
    (hb : ∀ k, 2 ≤ k → k < rowN (bt s i) → 128 ≤ bt s (i + k) ∧ bt s (i + k) ≤ 191) : sqn s i = rowN (bt s i) := by
  have hle := rowN_le (bt s i)
  have hw : wd s i = rowN (bt s i) := by
    rw [wd_row hi h]; unfold slowN
    rw [if_neg (by omega), if_neg (by omega)]
    split
    · dsimp only; omega
    · have b2 := hb 2 (by omega) (by omega)
      rw [if_neg (by omega)]
      split
      · dsimp only; omega
      · have b3 := hb 3 (by omega) (by omega)
        rw [if_neg (by omega)]
        dsimp only; omega
  unfold sqn; rw [if_neg (by omega), hw]
omit hi in
theorem sqn_le : sqn s i ≤ 4 := by unfold sqn; split; omega; exact wd_le s i
/-- The symbol by the sequence's width. -/
theorem sy_0 (h : sqn s i = 0) : wd s i = 1 ∧ sy s i = 1114112 + (bt s i : Int) := by
  have hp := wd_pos hi
  unfold sqn at h
  split at h
  · rename_i hc
    refine ⟨hc.1, ?_⟩
    unfold sy; rw [if_pos hi, if_pos hc.1, if_neg (by omega)]
  · omega
theorem sy_1 (h : sqn s i = 1) : wd s i = 1 ∧ sy s i = (bt s i : Int) := by
  unfold sqn at h
  split at h
  · omega
  · refine ⟨h, ?_⟩
    unfold sy; rw [if_pos hi, if_pos h, if_pos (by omega)]
theorem sy_2 (h : sqn s i = 2) : wd s i = 2 ∧ i + 2 ≤ s.size ∧ sy s i = (bt s i : Int) % 32 * 64 + (bt s (i + 1) : Int) % 64 := by
  have hw : wd s i = 2 := by unfold sqn at h; split at h; omega; exact h
  have hf := wd_fit (s := s) (i := i) (by omega)
  refine ⟨hw, by omega, ?_⟩
  unfold sy; rw [if_pos hi, if_neg (by omega)]
  unfold wd at hw; rw [if_pos hi] at hw
  unfold decodeN at hw ⊢
  revert hw
  repeat' split
  all_goals (intro hw; first | (exfalso; revert hw; dsimp only; omega) | (dsimp only; omega))
theorem sy_3 (h : sqn s i = 3) : wd s i = 3 ∧ i + 3 ≤ s.size ∧ sy s i = (bt s i : Int) % 16 * 4096 + (bt s (i + 1) : Int) % 64 * 64 + (bt s (i + 2) : Int) % 64 := by
  have hw : wd s i = 3 := by unfold sqn at h; split at h; omega; exact h
  have hf := wd_fit (s := s) (i := i) (by omega)
  refine ⟨hw, by omega, ?_⟩
  unfold sy; rw [if_pos hi, if_neg (by omega)]
  unfold wd at hw; rw [if_pos hi] at hw
  unfold decodeN at hw ⊢
  revert hw
  repeat' split
  all_goals (intro hw; first | (exfalso; revert hw; dsimp only; omega) | (dsimp only; omega))
theorem sy_4 (h : sqn s i = 4) : wd s i = 4 ∧ i + 4 ≤ s.size ∧ sy s i = (bt s i : Int) % 8 * 262144 + (bt s (i + 1) : Int) % 64 * 4096 + (bt s (i + 2) : Int) % 64 * 64 + (bt s (i + 3) : Int) % 64 := by
  have hw : wd s i = 4 := by unfold sqn at h; split at h; omega; exact h
  have hf := wd_fit (s := s) (i := i) (by omega)
  refine ⟨hw, by omega, ?_⟩
  unfold sy; rw [if_pos hi, if_neg (by omega)]
  unfold wd at hw; rw [if_pos hi] at hw
  unfold decodeN at hw ⊢
  revert hw
  repeat' split
  all_goals (intro hw; first | (exfalso; revert hw; dsimp only; omega) | (dsimp only; omega))
end
end ObUtf
