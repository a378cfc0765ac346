/-
  Plain: the bytes of the symbol at a place are the text's own bytes there, so that the symbols of a text, joined, are the text. For every text.
-/
import Derived.Test.YteabicdmgbcpaaaDoorEnc
import Derived.Test.YteabicdmgbcpaaaDoorW11
namespace Go.Proofs.YteabicdmgbcpaaaDoor
open ObUtf Go.Lib

theorem bt_list (s : ByteArray) (i : Nat) (h : i < s.size) : ∃ b : UInt8, s.data.toList[i]? = some b ∧ b.toNat = bt s i := by
  have hl : i < s.data.toList.length := by rw [Array.length_toList]; exact h
  refine ⟨s.data.toList[i], List.getElem?_eq_getElem hl, ?_⟩
  unfold bt
  congr 1
  have e : s.get! i = s.data[i]'h := by cases s with | mk d => exact getElem!_pos d i h
  rw [e]; simp
theorem of_toNat (b : UInt8) (n : Nat) (h : n = b.toNat) : UInt8.ofNat n = b := by rw [h]; exact UInt8.ofNat_toNat
theorem take_1 (l : List UInt8) (i : Nat) (a : UInt8) (h : l[i]? = some a) : (l.drop i).take 1 = [a] := by
  have hl : i < l.length := (List.getElem?_eq_some_iff.1 h).1
  rw [List.drop_eq_getElem_cons hl]
  have : l[i] = a := by rw [List.getElem?_eq_getElem hl] at h; exact Option.some.inj h
  simp [this]
theorem take_more (l : List UInt8) (i n : Nat) (a : UInt8) (h : l[i]? = some a) : (l.drop i).take (n + 1) = a :: (l.drop (i + 1)).take n := by
  have hl : i < l.length := (List.getElem?_eq_some_iff.1 h).1
  rw [List.drop_eq_getElem_cons hl]
  have : l[i] = a := by rw [List.getElem?_eq_getElem hl] at h; exact Option.some.inj h
  simp [this]
section
variable {s : ByteArray} {i : Nat} (hi : i < s.size)
include hi
theorem facts2 (h : wd s i = 2) : bt s i / 32 = 6 ∧ bt s (i + 1) / 64 = 2 ∧ 128 ≤ bt s i % 32 * 64 + bt s (i + 1) % 64 := by
  unfold wd at h; rw [if_pos hi] at h
  unfold decodeN at h
  revert h
  repeat' split
  all_goals (intro h; first | (exfalso; revert h; dsimp only; omega) | omega)
theorem facts3 (h : wd s i = 3) : bt s i / 16 = 14 ∧ bt s (i + 1) / 64 = 2 ∧ bt s (i + 2) / 64 = 2 ∧ 2048 ≤ bt s i % 16 * 4096 + bt s (i + 1) % 64 * 64 + bt s (i + 2) % 64 ∧
    (bt s i % 16 * 4096 + bt s (i + 1) % 64 * 64 + bt s (i + 2) % 64 < 55296 ∨ 57344 ≤ bt s i % 16 * 4096 + bt s (i + 1) % 64 * 64 + bt s (i + 2) % 64) := by
  unfold wd at h; rw [if_pos hi] at h
  unfold decodeN at h
  revert h
  repeat' split
  all_goals (intro h; first | (exfalso; revert h; dsimp only; omega) | omega)
theorem facts4 (h : wd s i = 4) : bt s i / 8 = 30 ∧ bt s (i + 1) / 64 = 2 ∧ bt s (i + 2) / 64 = 2 ∧ bt s (i + 3) / 64 = 2 ∧
    65536 ≤ bt s i % 8 * 262144 + bt s (i + 1) % 64 * 4096 + bt s (i + 2) % 64 * 64 + bt s (i + 3) % 64 ∧ bt s i % 8 * 262144 + bt s (i + 1) % 64 * 4096 + bt s (i + 2) % 64 * 64 + bt s (i + 3) % 64 ≤ 1114111 := by
  unfold wd at h; rw [if_pos hi] at h
  unfold decodeN at h
  revert h
  repeat' split
  all_goals (intro h; first | (exfalso; revert h; dsimp only; omega) | omega)
set_option maxHeartbeats 1000000 in
theorem piece : bytesL (sy s i) = (s.data.toList.drop i).take (wd s i) := by
  have hl4 := sqn_le (s := s) (i := i)
  obtain ⟨c0, g0, e0⟩ := bt_list s i hi
  have l0 := bt_lt s i
  rcases (show sqn s i = 0 ∨ sqn s i = 1 ∨ sqn s i = 2 ∨ sqn s i = 3 ∨ sqn s i = 4 by omega) with h | h | h | h | h
  · obtain ⟨h1, h2⟩ := sy_0 hi h
    have hb : 128 ≤ bt s i := by
      unfold sqn at h; split at h
      · rename_i hc; exact hc.2
      · omega
    have hg : goodB (sy s i) = true := by unfold goodB; simp; omega
    unfold bytesL
    rw [bytesB_raw hg (by omega), h1, take_1 _ _ _ g0]
    show [UInt8.ofNat _] = _
    rw [of_toNat c0 _ (by omega)]
  · obtain ⟨h1, h2⟩ := sy_1 hi h
    have hb : bt s i < 128 := by
      unfold sqn at h; split at h
      · omega
      · omega
    have hg : goodB (sy s i) = true := by unfold goodB; simp; omega
    unfold bytesL
    rw [bytesB_1 hg (by omega), h1, take_1 _ _ _ g0]
    show [UInt8.ofNat _] = _
    rw [of_toNat c0 _ (by omega)]
  · obtain ⟨h1, h2, h3⟩ := sy_2 hi h
    obtain ⟨c1, g1, e1⟩ := bt_list s (i + 1) (by omega)
    have l1 := bt_lt s (i + 1)
    obtain ⟨f1, f2, f3⟩ := facts2 hi h1
    have hg : goodB (sy s i) = true := by unfold goodB; simp; omega
    unfold bytesL
    rw [bytesB_2 hg (by omega) (by omega), h1, take_more _ _ _ _ g0, take_1 _ _ _ g1]
    show [UInt8.ofNat _, UInt8.ofNat _] = _
    rw [of_toNat c0 _ (by omega), of_toNat c1 _ (by omega)]
  · obtain ⟨h1, h2, h3⟩ := sy_3 hi h
    obtain ⟨c1, g1, e1⟩ := bt_list s (i + 1) (by omega)
    obtain ⟨c2, g2, e2⟩ := bt_list s (i + 2) (by omega)
    have l1 := bt_lt s (i + 1)
    have l2 := bt_lt s (i + 2)
    obtain ⟨f1, f2, f3, f4, f5⟩ := facts3 hi h1
    have hg : goodB (sy s i) = true := by unfold goodB; simp; omega
    unfold bytesL
    rw [bytesB_3 hg (by omega) (by omega), h1, take_more _ _ _ _ g0, take_more _ _ _ _ g1, take_1 _ _ _ g2]
    show [UInt8.ofNat _, UInt8.ofNat _, UInt8.ofNat _] = _
    rw [of_toNat c0 _ (by omega), of_toNat c1 _ (by omega), of_toNat c2 _ (by omega)]
  · obtain ⟨h1, h2, h3⟩ := sy_4 hi h
    obtain ⟨c1, g1, e1⟩ := bt_list s (i + 1) (by omega)
    obtain ⟨c2, g2, e2⟩ := bt_list s (i + 2) (by omega)
    obtain ⟨c3, g3, e3⟩ := bt_list s (i + 3) (by omega)
    have l1 := bt_lt s (i + 1)
    have l2 := bt_lt s (i + 2)
    have l3 := bt_lt s (i + 3)
    obtain ⟨f1, f2, f3, f4, f5, f6⟩ := facts4 hi h1
    have hg : goodB (sy s i) = true := by unfold goodB; simp; omega
    unfold bytesL
    rw [bytesB_4 hg (by omega) (by omega), h1, take_more _ _ _ _ g0, take_more _ _ _ _ g1, take_more _ _ _ _ g2, take_1 _ _ _ g3]
    show [UInt8.ofNat _, UInt8.ofNat _, UInt8.ofNat _, UInt8.ofNat _] = _
    rw [of_toNat c0 _ (by omega), of_toNat c1 _ (by omega), of_toNat c2 _ (by omega), of_toNat c3 _ (by omega)]
end
theorem join_take (s : ByteArray) (f : Nat → Int) (hf : ∀ j, j < cnt s → f j = sy s (bd s j)) (k : Nat) (hk : k ≤ cnt s) : joinTo f k = s.data.toList.take (bd s k) := by
  induction k with
  | zero => simp [joinTo, bd]
  | succ k ih =>
    show joinTo f k ++ bytesL (f k) = s.data.toList.take (bd s k + wd s (bd s k))
    rw [ih (by omega), hf k (by omega), piece (cnt_lt s (by omega)), List.take_add]
theorem join_all (s : ByteArray) (f : Nat → Int) (hf : ∀ j, j < cnt s → f j = sy s (bd s j)) : (⟨(joinTo f (cnt s)).toArray⟩ : ByteArray) = s := by
  rw [join_take s f hf _ (Nat.le_refl _), cnt_end, List.take_of_length_le (by rw [Array.length_toList]; exact Nat.le_refl _), str_mk]
end Go.Proofs.YteabicdmgbcpaaaDoor
