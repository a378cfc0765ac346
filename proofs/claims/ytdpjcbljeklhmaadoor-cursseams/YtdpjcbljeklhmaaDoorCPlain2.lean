/-
  Plain: a window of a list of bytes is a part of its text; the symbol at a place, and the one that ends at a boundary, by such a window. For all lists.
-/
import Derived.Test.YtdpjcbljeklhmaaDoorCPlain
namespace ObUtf
open Go.Lib ObGap Go.Proofs.YtdpjcbljeklhmaaDoor.U

/-- The text of a list of bytes. -/
abbrev ba (s : Bs) : ByteArray := ⟨⟨s⟩⟩
theorem ba_size (s : Bs) : (ba s).size = s.length := rfl
theorem bt_ba (s : Bs) (i : Nat) : bt (ba s) i = (s.getD i 0).toNat := by
  unfold bt
  congr 1
  show (s.toArray)[i]! = _
  by_cases h : i < s.length
  · rw [getElem!_pos _ _ (by simpa using h), List.getD_eq_getElem?_getD, List.getElem?_eq_getElem h]
    simp
  · rw [getElem!_neg _ _ (by simpa using h), List.getD_eq_getElem?_getD, List.getElem?_eq_none (by omega)]
    rfl
/-- The bytes from one place up to another one. -/
def win (s : Bs) (f t : Nat) : Bs := (s.take t).drop f
theorem win_len (s : Bs) (f t : Nat) : (win s f t).length = min t s.length - f := by simp [win]
theorem win_part {s : Bs} {f t : Nat} (h : f ≤ s.length) : Part (ba s) (ba (win s f t)) f := by
  refine ⟨?_, fun j hj => ?_⟩
  · rw [ba_size, ba_size, win_len]; omega
  · rw [ba_size, win_len] at hj
    rw [bt_ba, bt_ba]
    congr 1
    rw [List.getD_eq_getElem?_getD, List.getD_eq_getElem?_getD]
    unfold win
    rw [List.getElem?_drop, List.getElem?_take_of_lt (by omega)]
theorem byt_in {s : Bs} {n : Nat} (h : n < s.length) : byt s (n : Int) = (bt (ba s) n : Int) := by
  unfold byt
  rw [if_neg (by omega), bt_ba]
  simp [List.getElem?_eq_getElem h]
theorem byt_out {s : Bs} {i : Int} (h : i < 0 ∨ (s.length : Int) ≤ i) : byt s i = -1 := by
  unfold byt
  by_cases h0 : i < 0
  · rw [if_pos h0]
  · rw [if_neg h0, List.getElem?_eq_none (by omega)]
theorem dec_low {s : ByteArray} {i : Nat} (h : i < s.size) (hb : bt s i < 128) : wd s i = 1 ∧ sy s i = (bt s i : Int) := by
  have : wd s i = 1 := by unfold wd; rw [if_pos h]; unfold decodeN; rw [if_pos hb]
  refine ⟨this, ?_⟩
  unfold sy
  rw [if_pos h, if_pos this, if_pos hb]
/-- The symbol at a place, by the four bytes from there on. -/
theorem next_win {s : Bs} {n : Nat} (h : n < s.length) : syI (ba (win s n (n + 4))) 0 = sy (ba s) n ∧ wdI (ba (win s n (n + 4))) 0 = (wd (ba s) n : Int) := by
  have hp := win_part (s := s) (f := n) (t := n + 4) (by omega)
  have hl := win_len s n (n + 4)
  have hz : (ba (win s n (n + 4))).size = min (n + 4) s.length - n := hl
  have := hp.dec' (j := 0) (by omega) (by rw [hz, ba_size]; omega)
  simp only [Nat.add_zero] at this
  unfold syI wdI
  rw [if_neg (by omega), if_neg (by omega)]
  exact ⟨this.2, by rw [show (0 : Int).toNat = 0 from rfl, this.1]⟩
/-- A boundary, by the bytes about it. -/
theorem is_win {s : Bs} {n : Nat} (h : n ≤ s.length) : isBI (ba (win s (n - 3) (n + 3))) ((n - (n - 3) : Nat) : Int) = isBI (ba s) (n : Int) := by
  have hp := win_part (s := s) (f := n - 3) (t := n + 3) (by omega)
  have hz : (ba (win s (n - 3) (n + 3))).size = min (n + 3) s.length - (n - 3) := win_len s _ _
  rw [isBI_nat, isBI_nat]
  exact hp.is (by omega) (by rw [hz]; omega) (by omega) (by rw [hz, ba_size]; omega)
/-- How far back the symbol begins that ends at a boundary, and which it is: by the four bytes ahead of it. -/
theorem prev_win {s : Bs} {n : Nat} (h : n ≤ s.length) (h0 : 0 < n) (hb : IsB (ba s) n) :
    befS (ba (win s (n - 4) n)) ((n - (n - 4) : Nat) : Int) = sy (ba s) (n - pw (ba s) n) ∧ befW (ba (win s (n - 4) n)) ((n - (n - 4) : Nat) : Int) = (pw (ba s) n : Int) := by
  have hp := win_part (s := s) (f := n - 4) (t := n) (by omega)
  have hz : (ba (win s (n - 4) n)).size = n - (n - 4) := by rw [ba_size, win_len]; omega
  obtain ⟨v, hv⟩ : ∃ v, v = ba (win s (n - 4) n) := ⟨_, rfl⟩
  rw [← hv] at hp hz ⊢
  clear hv
  have hl := (locB_iff (ba s) n).2 hb
  unfold locB at hl
  rw [decide_eq_true_eq] at hl
  have key : ∀ k, 1 ≤ k → k ≤ 4 → k ≤ n → wd v (n - (n - 4) - k) = wd (ba s) (n - k) ∧ sy v (n - (n - 4) - k) = sy (ba s) (n - k) := fun k h1 h2 h3 => by
    have hk : wd (ba s) (n - k) ≤ k := by
      rcases (show k = 1 ∨ k = 2 ∨ k = 3 ∨ k = 4 by omega) with rfl | rfl | rfl | rfl
      · exact hl.2.1.resolve_left (by omega)
      · exact hl.2.2.1.resolve_left (by omega)
      · exact hl.2.2.2.resolve_left (by omega)
      · exact wd_le _ _
    have e : n - 4 + (n - (n - 4) - k) = n - k := by omega
    have := hp.dec (j := n - (n - 4) - k) (by omega) (by rw [e]; omega)
    rwa [e] at this
  have hpw : pw v (n - (n - 4)) = pw (ba s) n := by
    have q : ∀ k, 1 ≤ k → k ≤ 4 → ((k ≤ n - (n - 4) ∧ wd v (n - (n - 4) - k) = k) ↔ (k ≤ n ∧ wd (ba s) (n - k) = k)) := fun k h1 h2 => by
      by_cases hk : k ≤ n
      · rw [(key k h1 h2 hk).1]; omega
      · constructor
        · intro ⟨h, _⟩; omega
        · intro ⟨h, _⟩; omega
    unfold pw
    simp only [q 4 (by omega) (by omega), q 3 (by omega) (by omega), q 2 (by omega) (by omega)]
  have hw := pw_wd hb h0
  have hloc : locB v (n - (n - 4)) = true := (locB_iff v _).2 (by rw [← hz]; exact IsB.size v)
  unfold befS befW
  have hc : (0 : Int) < ((n - (n - 4) : Nat) : Int) ∧ locB v ((n - (n - 4) : Nat) : Int).toNat = true := ⟨by omega, by rw [Int.toNat_natCast]; exact hloc⟩
  rw [if_pos hc, if_pos hc, Int.toNat_natCast, hpw]
  exact ⟨(key _ hw.1 hw.2.2.1 hw.2.1).2, rfl⟩
/-- A byte below 128 ahead of a boundary is the symbol that ends there. -/
theorem prev_low {s : Bs} {n : Nat} (h : n ≤ s.length) (h0 : 0 < n) (hb : IsB (ba s) n) (hx : bt (ba s) (n - 1) < 128) : pw (ba s) n = 1 ∧ sy (ba s) (n - 1) = (bt (ba s) (n - 1) : Int) := by
  have hw := pw_wd hb h0
  refine ⟨?_, (dec_low (by rw [ba_size]; omega) hx).2⟩
  rcases Nat.lt_or_ge (pw (ba s) n) 2 with h2 | h2
  · omega
  · have := wd_cont (s := ba s) (i := n - pw (ba s) n) (k := pw (ba s) n - 1) (by omega) (by omega)
    rw [show n - pw (ba s) n + (pw (ba s) n - 1) = n - 1 by omega] at this
    omega
end ObUtf
