/-
  Plain: of a part of a text the symbols are told as of the whole, as far as they lie in it: what stands ahead of a place and behind it, three bytes to each side, tells all. For all texts.
-/
import Derived.Test.YtdpjcbljeklhmaaDoorUW10
import Derived.Test.YtdpjcbljeklhmaaDoorPlain
namespace ObUtf
open Go.Lib

/-- A part of a text, from f on. -/
def Part (a v : ByteArray) (f : Nat) : Prop := f + v.size ≤ a.size ∧ ∀ j, j < v.size → bt v j = bt a (f + j)
theorem dec_fit (n m b0 b1 b2 b3 c1 c2 c3 : Nat) (hn : 1 ≤ n) (hm : n ≤ m) (h1 : 1 < n → c1 = b1) (h2 : 2 < n → c2 = b2) (h3 : 3 < n → c3 = b3) (hf : (decodeN m b0 b1 b2 b3).2 ≤ n) :
    (decodeN n b0 c1 c2 c3).2 = (decodeN m b0 b1 b2 b3).2 ∧ ((decodeN m b0 b1 b2 b3).2 ≠ 1 → (decodeN n b0 c1 c2 c3).1 = (decodeN m b0 b1 b2 b3).1) := by
  by_cases k3 : 3 < n
  · obtain rfl := h1 (by omega)
    obtain rfl := h2 (by omega)
    obtain rfl := h3 (by omega)
    have g1 : (1 < n) = (1 < m) := propext ⟨fun _ => by omega, fun _ => by omega⟩
    have g2 : (2 < n) = (2 < m) := propext ⟨fun _ => by omega, fun _ => by omega⟩
    have g3 : (3 < n) = (3 < m) := propext ⟨fun _ => by omega, fun _ => by omega⟩
    unfold decodeN
    simp only [g1, g2, g3]
    simp
  · by_cases k2 : 2 < n
    · obtain rfl := h1 (by omega)
      obtain rfl := h2 (by omega)
      clear h1 h2 h3
      obtain rfl : n = 3 := by omega
      revert hf
      unfold decodeN
      repeat' split
      all_goals first | (exfalso; omega) | (intro hf; simp at hf; done) | (intro hf; exfalso; simp only at hf; omega) | (intro hf; refine ⟨rfl, fun _ => rfl⟩) | (intro hf; refine ⟨rfl, fun h => absurd rfl h⟩)
    · by_cases k1 : 1 < n
      · obtain rfl := h1 (by omega)
        clear h1 h2 h3
        obtain rfl : n = 2 := by omega
        revert hf
        unfold decodeN
        repeat' split
        all_goals first | (exfalso; omega) | (intro hf; simp at hf; done) | (intro hf; exfalso; simp only at hf; omega) | (intro hf; refine ⟨rfl, fun _ => rfl⟩) | (intro hf; refine ⟨rfl, fun h => absurd rfl h⟩)
      · clear h1 h2 h3
        obtain rfl : n = 1 := by omega
        revert hf
        unfold decodeN
        repeat' split
        all_goals first | (exfalso; omega) | (intro hf; simp at hf; done) | (intro hf; exfalso; simp only at hf; omega) | (intro hf; refine ⟨rfl, fun _ => rfl⟩) | (intro hf; refine ⟨rfl, fun h => absurd rfl h⟩)
/-- A symbol that lies in the part is told alike. -/
theorem Part.dec {a v : ByteArray} {f : Nat} (h : Part a v f) {j : Nat} (hj : j < v.size) (hf : j + wd a (f + j) ≤ v.size) : wd v j = wd a (f + j) ∧ sy v j = sy a (f + j) := by
  have hs := h.1
  have e0 := h.2 j hj
  have e1 : 1 < v.size - j → bt v (j + 1) = bt a (f + j + 1) := fun _ => h.2 (j + 1) (by omega)
  have e2 : 2 < v.size - j → bt v (j + 2) = bt a (f + j + 2) := fun _ => h.2 (j + 2) (by omega)
  have e3 : 3 < v.size - j → bt v (j + 3) = bt a (f + j + 3) := fun _ => h.2 (j + 3) (by omega)
  have hw : wd a (f + j) = (decodeN (a.size - (f + j)) (bt a (f + j)) (bt a (f + j + 1)) (bt a (f + j + 2)) (bt a (f + j + 3))).2 := by unfold wd; rw [if_pos (by omega)]
  have hv : wd v j = (decodeN (v.size - j) (bt v j) (bt v (j + 1)) (bt v (j + 2)) (bt v (j + 3))).2 := by unfold wd; rw [if_pos hj]
  have k := dec_fit (v.size - j) (a.size - (f + j)) (bt a (f + j)) _ _ _ _ _ _ (by omega) (by omega) e1 e2 e3 (by rw [← hw]; omega)
  rw [e0] at hv
  have w1 : wd v j = wd a (f + j) := by rw [hv, hw]; exact k.1
  refine ⟨w1, ?_⟩
  unfold sy
  rw [if_pos hj, if_pos (show f + j < a.size by omega), w1, e0]
  by_cases h1 : wd a (f + j) = 1
  · rw [if_pos h1, if_pos h1]
  · rw [if_neg h1, if_neg h1, k.2 (by rw [← hw]; exact h1)]
/-- Where a part ends three bytes behind, or with the text, a symbol that begins ahead of there lies in it. -/
theorem Part.dec' {a v : ByteArray} {f : Nat} (h : Part a v f) {j : Nat} (hj : j < v.size) (he : f + v.size = a.size ∨ j + 4 ≤ v.size) : wd v j = wd a (f + j) ∧ sy v j = sy a (f + j) := by
  refine h.dec hj ?_
  have := wd_le a (f + j)
  have := wd_fit (s := a) (i := f + j) (by have := h.1; omega)
  omega
/-- A boundary, by a part that goes three bytes to each side. -/
theorem Part.is {a v : ByteArray} {f i : Nat} (h : Part a v f) (hfi : f ≤ i) (hi : i ≤ f + v.size) (hl : f = 0 ∨ f + 3 ≤ i) (he : f + v.size = a.size ∨ i + 3 ≤ f + v.size) : Go.Proofs.YtdpjcbljeklhmaaDoor.U.locB v (i - f) = Go.Proofs.YtdpjcbljeklhmaaDoor.U.locB a i := by
  have hs := h.1
  have key : ∀ k, 1 ≤ k → k ≤ 3 → k ≤ i - f → wd v (i - f - k) = wd a (i - k) := fun k h1 h2 h3 => by
    have := (h.dec' (j := i - f - k) (by omega) (by omega)).1
    rw [this, show f + (i - f - k) = i - k by omega]
  unfold Go.Proofs.YtdpjcbljeklhmaaDoor.U.locB
  rw [decide_eq_decide]
  have q : ∀ k, 1 ≤ k → k ≤ 3 → ((i - f < k ∨ wd v (i - f - k) ≤ k) ↔ (i < k ∨ wd a (i - k) ≤ k)) := fun k h1 h2 => by
    by_cases hk : k ≤ i - f
    · rw [key k h1 h2 hk]; omega
    · constructor
      · intro _; left; omega
      · intro _; left; omega
  have q1 := q 1 (by omega) (by omega)
  have q2 := q 2 (by omega) (by omega)
  have q3 := q 3 (by omega) (by omega)
  rw [q1, q2, q3]
  have : i - f ≤ v.size ↔ i ≤ a.size := by omega
  rw [this]
end ObUtf
