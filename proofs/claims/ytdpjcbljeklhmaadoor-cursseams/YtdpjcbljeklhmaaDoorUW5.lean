/-
  What Is and Before of utf answer at every text and place. Conditions: a text of at most maxLen bytes; the two tables of unicode/utf8 lie as their text lays them.
-/
import Derived.Test.YtdpjcbljeklhmaaDoorUW4
namespace Go.Proofs.YtdpjcbljeklhmaaDoor.U
open Go.RowKit ObUtf

def Tb (w : World) : Prop := Lib.Utf8Tabs 0 1 w ∧ 2 ≤ w.heap.size
theorem Tb.below {w w' : World} (h : Tb w) (hb : Below w.heap.size w w') : Tb w' := by
  obtain ⟨⟨h1, h2⟩, h3⟩ := h
  refine ⟨⟨fun c hc => ?_, fun c hc => ?_⟩, Nat.le_trans h3 hb.size⟩
  · exact (hb.cell (p := ⟨0, c, none⟩) (by show 0 < w.heap.size; omega)).trans (h1 c hc)
  · have := h2 c hc
    first
      | exact (hb.cell (p := ⟨1, _, none⟩) (by show 1 < w.heap.size; omega)).trans this
      | exact ⟨(hb.cell (p := ⟨1, _, none⟩) (by show 1 < w.heap.size; omega)).trans this.1, (hb.cell (p := ⟨1, _, none⟩) (by show 1 < w.heap.size; omega)).trans this.2⟩
theorem bel_trans {w w1 w2 : World} (h1 : Below w.heap.size w w1) (h2 : Below w1.heap.size w1 w2) : Below w.heap.size w w2 := h1.trans (h2.mono h1.size)
theorem bel_trans' {B : Nat} {w w1 w2 : World} (hB : B ≤ w.heap.size) (h1 : Below B w w1) (h2 : Below w1.heap.size w1 w2) : Below B w w2 := h1.trans (h2.mono (Nat.le_trans hB h1.size))

/-- Is a place a boundary, by the bytes ahead of it? -/
def locB (s : ByteArray) (i : Nat) : Bool := decide (i ≤ s.size ∧ (i < 1 ∨ wd s (i - 1) ≤ 1) ∧ (i < 2 ∨ wd s (i - 2) ≤ 2) ∧ (i < 3 ∨ wd s (i - 3) ≤ 3))
theorem locB_iff (s : ByteArray) (i : Nat) : locB s i = true ↔ IsB s i := by
  unfold locB
  rw [decide_eq_true_iff]
  constructor
  · intro h
    rw [local_bd h.1]
    intro k h1 h2 h3
    rcases (show k = 1 ∨ k = 2 ∨ k = 3 by omega) with rfl | rfl | rfl <;> omega
  · intro h
    have hl := (local_bd h.le).1 h
    refine ⟨h.le, ?_, ?_, ?_⟩
    · rcases Nat.lt_or_ge i 1 with h1 | h1
      · exact Or.inl h1
      · exact Or.inr (hl 1 (by omega) (by omega) h1)
    · rcases Nat.lt_or_ge i 2 with h1 | h1
      · exact Or.inl h1
      · exact Or.inr (hl 2 (by omega) (by omega) h1)
    · rcases Nat.lt_or_ge i 3 with h1 | h1
      · exact Or.inl h1
      · exact Or.inr (hl 3 (by omega) (by omega) h1)
def isBI (s : ByteArray) (i : Int) : Bool := decide (0 ≤ i) && locB s i.toNat
theorem isBI_nat (s : ByteArray) (n : Nat) : isBI s n = locB s n := by simp [isBI]
theorem isBI_true {s : ByteArray} {n : Nat} (h : IsB s n) : isBI s n = true := by rw [isBI_nat, (locB_iff s n).2 h]
theorem isBI_false {s : ByteArray} {n : Nat} (h : ¬ IsB s n) : isBI s n = false := by
  rw [isBI_nat]; cases e : locB s n with
  | false => rfl
  | true => exact absurd ((locB_iff s n).1 e) h
def LocTo (s : ByteArray) (n k : Nat) : Prop := ∀ c, 1 ≤ c → c < k → c ≤ n → wd s (n - c) ≤ c

set_option maxHeartbeats 1000000 in
set_option maxRecDepth 100000 in
theorem is_any (s : ByteArray) (i : Int) (w : World) (hs : s.size ≤ maxLen) (hT : Tb w) :
    Calls Tryd.prog 42 #[.string s, .int .i64 i] w fun e w' => e = .returned (.bool (isBI s i)) ∧ Below w.heap.size w w' := by
  unfold maxLen at hs
  by_cases h0 : i < 0
  · have e1 : isBI s i = false := by simp [isBI]; omega
    rw [e1]; clear e1 hT
    go_enter Tryd.func42, Tryd.ntmps42
    go_wp2
    go_ret
    exact ⟨rfl, Below.refl _ _⟩
  · obtain ⟨n, rfl⟩ := Int.eq_ofNat_of_zero_le (show 0 ≤ i by omega)
    clear h0
    by_cases hn : n ≤ s.size
    · have HT := Lib.hid hT
      have hn' : (n : Int) ≤ (s.size : Int) := by omega
      have hd : decide (s.size < n) = false := by simp; omega
      have hd0 : decide ((n : Int) < 0) = false := by simp
      clear hT
      go_enter Tryd.func42, Tryd.ntmps42
      go_wp2
      go_loopw [5] (fun t wr => ∃ k : Nat, 1 ≤ k ∧ k ≤ 4 ∧ t = .int .i64 k ∧ LocTo s n k ∧ Below w.heap.size w wr) (fun t _ => 4 - (intOf t).toNat)
      case atStart => exact ⟨1, by omega, by omega, rfl, fun c h1 h2 => by omega, Below.refl _ _⟩
      case round =>
        obtain ⟨k, hk1, hk2, rfl, hloc, hb⟩ := hrel
        have HL := Lib.hid hloc
        have HAT := Lib.hid (at_any s ((n : Int) - k) wr (HT.out.below hb).1)
        clear hloc
        by_cases hk : k < 4 ∧ k ≤ n
        · obtain ⟨hk3, hk4⟩ := hk
          have e2 : wdI s ((n : Int) - k) = wd s (n - k) := by unfold wdI; rw [if_neg (by omega), show ((n : Int) - k).toNat = n - k by omega]
          generalize syI s ((n : Int) - k) = y at *
          rw [e2] at HAT
          clear e2
          have hd1 : decide ((k : Int) < 4) = true := by simp; omega
          have hd2 : decide (k ≤ n) = true := by simp; omega
          have hwl := wd_le s (n - k)
          by_cases hw : k < wd s (n - k)
          · have HF := Lib.hid (isBI_false (s := s) (n := n) fun h => by
              have := (local_bd hn).1 h k hk1 (by omega) hk4
              omega)
            have hd3 : decide (k < wd s (n - k)) = true := by simp; omega
            generalize wd s (n - k) = v at *
            go_wp2_with (go_at_call 37; refine HAT.out.mono ?_; rintro e w' ⟨rfl, hbl⟩)
            go_ret
            exact ⟨ret_bool HF.out.symm, bel_trans hb hbl⟩
          · have hd3 : decide (k < wd s (n - k)) = false := by simp; omega
            have HW := Lib.hid hw
            clear hw
            generalize hv : wd s (n - k) = v at *
            have HV := Lib.hid hv; clear hv
            go_wp2_with (go_at_call 37; refine HAT.out.mono ?_; rintro e w' ⟨rfl, hbl⟩)
            go_roundw
            case rel => exact ⟨k + 1, by omega, by omega, by go_num, fun c h1 h2 h3 => by
              rcases Nat.lt_or_ge c k with h4 | h4
              · exact HL.out c h1 h4 h3
              · obtain rfl : c = k := by omega
                have := HW.out; rw [HV.out]; omega, bel_trans hb hbl⟩
            case measure => simp [intOf]; omega
        · have HT2 := Lib.hid (isBI_true (s := s) (n := n) ((local_bd hn).2 fun c h1 h2 h3 => HL.out c h1 (by omega) h3))
          by_cases hk3 : k < 4
          · have hk4 : n < k := by omega
            have hd1 : decide ((k : Int) < 4) = true := by simp; omega
            have hd2 : decide (k ≤ n) = false := by simp; omega
            clear HAT
            go_wp2
            go_ret
            exact ⟨ret_bool HT2.out.symm, hb⟩
          · have hd1 : decide ((k : Int) < 4) = false := by simp; omega
            clear HAT
            go_wp2
            go_ret
            exact ⟨ret_bool HT2.out.symm, hb⟩
    · have e1 : isBI s n = false := isBI_false fun h => by have := h.le; omega
      rw [e1]; clear e1 hT
      have hn' : (s.size : Int) < n := by omega
      go_enter Tryd.func42, Tryd.ntmps42
      go_wp2
      go_ret
      exact ⟨rfl, Below.refl _ _⟩
end Go.Proofs.YtdpjcbljeklhmaaDoor.U
