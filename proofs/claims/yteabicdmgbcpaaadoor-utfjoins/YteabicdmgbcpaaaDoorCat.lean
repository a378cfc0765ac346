/-
  Plain: where the second text does not begin with a byte from 80 to BF, the symbols of two texts are those of both, one behind the other. For all texts.
-/
import Derived.Test.YteabicdmgbcpaaaDoorPlain2
namespace ObUtf
open Go.Lib

theorem size_cat (a b : ByteArray) : (a ++ b).size = a.size + b.size := ByteArray.size_append
theorem get_cat (a b : ByteArray) (i : Nat) : (a ++ b).get! i = if i < a.size then a.get! i else b.get! (i - a.size) := by
  have pos : ∀ (s : ByteArray) (k : Nat) (h : k < s.size), s.get! k = s[k]'h := fun s k h => by cases s with | mk d => exact getElem!_pos d k h
  have neg : ∀ (s : ByteArray) (k : Nat), ¬ k < s.size → s.get! k = default := fun s k h => by cases s with | mk d => exact getElem!_neg d k h
  have hs := size_cat a b
  split
  · rename_i h
    rw [pos _ _ (by omega), pos _ _ h, ByteArray.getElem_append_left h]
  · rename_i h
    by_cases h2 : i < a.size + b.size
    · rw [pos _ _ (by omega), pos _ _ (by omega), ByteArray.getElem_append_right (by omega)]
    · rw [neg _ _ (by omega), neg _ _ (by omega)]
theorem bt_left {a b : ByteArray} {i : Nat} (h : i < a.size) : bt (a ++ b) i = bt a i := by unfold bt; rw [get_cat, if_pos h]
theorem bt_right (a b : ByteArray) (i : Nat) : bt (a ++ b) (a.size + i) = bt b i := by unfold bt; rw [get_cat, if_neg (by omega), show a.size + i - a.size = i by omega]
/-- The second text does not go on with the first one's last symbol. -/
def Fresh (b : ByteArray) : Prop := 0 < b.size → bt b 0 < 128 ∨ 192 ≤ bt b 0
theorem dec_left {a b : ByteArray} (hf : Fresh b) {i : Nat} (h : i < a.size) :
    decodeN ((a ++ b).size - i) (bt (a ++ b) i) (bt (a ++ b) (i + 1)) (bt (a ++ b) (i + 2)) (bt (a ++ b) (i + 3)) = decodeN (a.size - i) (bt a i) (bt a (i + 1)) (bt a (i + 2)) (bt a (i + 3)) := by
  have hs := size_cat a b
  have e0 := bt_left (b := b) h
  have l0 := bt_lt a i
  have hb0 : ∀ k, i + k = a.size → bt (a ++ b) (i + k) = bt b 0 := fun k hk => by rw [hk]; exact bt_right a b 0
  rcases (show a.size - i = 1 ∨ a.size - i = 2 ∨ a.size - i = 3 ∨ 4 ≤ a.size - i by omega) with k | k | k | k
  · have c := hb0 1 (by omega)
    have hc : ¬ (1 < (a ++ b).size - i ∧ bt (a ++ b) (i + 1) / 64 = 2) := fun ⟨h1, h2⟩ => by
      have := hf (by omega); omega
    have hd : ¬ (1 < a.size - i ∧ bt a (i + 1) / 64 = 2) := fun ⟨h1, _⟩ => by omega
    rw [e0]
    unfold decodeN
    simp only [hc, hd, and_false, false_and, if_false]
  · have c := hb0 2 (by omega)
    have e1 := bt_left (a := a) (b := b) (i := i + 1) (by omega)
    have hc : ¬ (2 < (a ++ b).size - i ∧ bt (a ++ b) (i + 2) / 64 = 2) := fun ⟨h1, h2⟩ => by
      have := hf (by omega); omega
    have hd : ¬ (2 < a.size - i ∧ bt a (i + 2) / 64 = 2) := fun ⟨h1, _⟩ => by omega
    have g1 : (1 < (a ++ b).size - i) = (1 < a.size - i) := propext ⟨fun _ => by omega, fun _ => by omega⟩
    rw [e0, e1]
    unfold decodeN
    simp only [hc, hd, g1, and_false, false_and, if_false]
  · have c := hb0 3 (by omega)
    have e1 := bt_left (a := a) (b := b) (i := i + 1) (by omega)
    have e2 := bt_left (a := a) (b := b) (i := i + 2) (by omega)
    have hc : ¬ (3 < (a ++ b).size - i ∧ bt (a ++ b) (i + 3) / 64 = 2) := fun ⟨h1, h2⟩ => by
      have := hf (by omega); omega
    have hd : ¬ (3 < a.size - i ∧ bt a (i + 3) / 64 = 2) := fun ⟨h1, _⟩ => by omega
    have g1 : (1 < (a ++ b).size - i) = (1 < a.size - i) := propext ⟨fun _ => by omega, fun _ => by omega⟩
    have g2 : (2 < (a ++ b).size - i) = (2 < a.size - i) := propext ⟨fun _ => by omega, fun _ => by omega⟩
    rw [e0, e1, e2]
    unfold decodeN
    simp only [hc, hd, g1, g2, and_false, if_false]
  · have e1 := bt_left (a := a) (b := b) (i := i + 1) (by omega)
    have e2 := bt_left (a := a) (b := b) (i := i + 2) (by omega)
    have e3 := bt_left (a := a) (b := b) (i := i + 3) (by omega)
    have g1 : (1 < (a ++ b).size - i) = (1 < a.size - i) := propext ⟨fun _ => by omega, fun _ => by omega⟩
    have g2 : (2 < (a ++ b).size - i) = (2 < a.size - i) := propext ⟨fun _ => by omega, fun _ => by omega⟩
    have g3 : (3 < (a ++ b).size - i) = (3 < a.size - i) := propext ⟨fun _ => by omega, fun _ => by omega⟩
    rw [e0, e1, e2, e3]
    unfold decodeN
    simp only [g1, g2, g3]
theorem wd_left {a b : ByteArray} (hf : Fresh b) {i : Nat} (h : i < a.size) : wd (a ++ b) i = wd a i := by
  have hs := size_cat a b
  unfold wd; rw [if_pos (by omega), if_pos h, dec_left hf h]
theorem sy_left {a b : ByteArray} (hf : Fresh b) {i : Nat} (h : i < a.size) : sy (a ++ b) i = sy a i := by
  have hs := size_cat a b
  unfold sy; rw [if_pos (by omega), if_pos h, wd_left hf h, dec_left hf h, bt_left h]
theorem dec_right (a b : ByteArray) (i : Nat) :
    decodeN ((a ++ b).size - (a.size + i)) (bt (a ++ b) (a.size + i)) (bt (a ++ b) (a.size + i + 1)) (bt (a ++ b) (a.size + i + 2)) (bt (a ++ b) (a.size + i + 3)) = decodeN (b.size - i) (bt b i) (bt b (i + 1)) (bt b (i + 2)) (bt b (i + 3)) := by
  rw [size_cat, show a.size + b.size - (a.size + i) = b.size - i by omega, show a.size + i + 1 = a.size + (i + 1) by omega, show a.size + i + 2 = a.size + (i + 2) by omega, show a.size + i + 3 = a.size + (i + 3) by omega,
    bt_right, bt_right, bt_right, bt_right]
theorem wd_right (a b : ByteArray) (i : Nat) : wd (a ++ b) (a.size + i) = wd b i := by
  have hs := size_cat a b
  unfold wd
  rw [dec_right]
  by_cases h : i < b.size
  · rw [if_pos (by omega), if_pos h]
  · rw [if_neg (by omega), if_neg h]
theorem sy_right (a b : ByteArray) (i : Nat) : sy (a ++ b) (a.size + i) = sy b i := by
  have hs := size_cat a b
  unfold sy
  rw [dec_right, wd_right, bt_right]
  by_cases h : i < b.size
  · rw [if_pos (by omega), if_pos h]
  · rw [if_neg (by omega), if_neg h]
theorem bd_left {a b : ByteArray} (hf : Fresh b) {k : Nat} (h : k ≤ cnt a) : bd (a ++ b) k = bd a k := by
  induction k with
  | zero => rfl
  | succ k ih =>
    have e := ih (by omega)
    show bd (a ++ b) k + wd (a ++ b) (bd (a ++ b) k) = bd a k + wd a (bd a k)
    rw [e, wd_left hf (cnt_lt a (by omega))]
theorem bd_right {a b : ByteArray} (hf : Fresh b) (k : Nat) : bd (a ++ b) (cnt a + k) = a.size + bd b k := by
  induction k with
  | zero =>
    have h1 := bd_left hf (Nat.le_refl (cnt a))
    have h2 := cnt_end a
    show bd (a ++ b) (cnt a) = a.size + 0
    omega
  | succ k ih =>
    show bd (a ++ b) (cnt a + k) + wd (a ++ b) (bd (a ++ b) (cnt a + k)) = a.size + (bd b k + wd b (bd b k))
    rw [ih, wd_right]; omega
theorem cnt_cat {a b : ByteArray} (hf : Fresh b) : cnt (a ++ b) = cnt a + cnt b := by
  have hs := size_cat a b
  refine (cnt_uniq ?_ ?_).symm
  · rw [bd_right hf, cnt_end, hs]
  · intro c hc
    rcases Nat.lt_or_ge c (cnt a) with h | h
    · rw [bd_left hf (by omega)]
      have := cnt_lt a h; omega
    · have h1 := cnt_lt b (c := c - cnt a) (by omega)
      have h2 := bd_right hf (a := a) (c - cnt a)
      rw [show cnt a + (c - cnt a) = c by omega] at h2
      omega
theorem syms_cat {a b : ByteArray} (hf : Fresh b) : syms (a ++ b) = syms a ++ syms b := by
  unfold syms symsTo
  rw [cnt_cat hf, List.range_add, List.map_append, List.map_map]
  congr 1
  · apply List.map_congr_left
    intro c hc
    have hc' : c < cnt a := List.mem_range.1 hc
    rw [bd_left hf (by omega), sy_left hf (cnt_lt a hc')]
  · apply List.map_congr_left
    intro c _
    show sy (a ++ b) (bd (a ++ b) (cnt a + c)) = sy b (bd b c)
    rw [bd_right hf, sy_right]
theorem isB_cat {a b : ByteArray} (hf : Fresh b) : IsB (a ++ b) a.size := ⟨cnt a, by rw [bd_left hf (Nat.le_refl _), cnt_end]⟩
end ObUtf
