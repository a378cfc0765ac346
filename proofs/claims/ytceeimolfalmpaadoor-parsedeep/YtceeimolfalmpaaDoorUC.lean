/-
  What row, seq and At of the page's own, and At of utf, answer at every text and place. Conditions: a text of at most maxLen bytes; for utf's At: the two tables of unicode/utf8 lie as their text lays them.
  What At of the page's own and At of utf answer at every text and place, and what Cut and Within answer. Conditions: a text of at most maxLen bytes; for utf's At: the two tables of unicode/utf8 lie as their text lays them.
  What Is and Before of utf answer at every text and place. Conditions: a text of at most maxLen bytes; the two tables of unicode/utf8 lie as their text lays them.
  What Cut, Within, Ints and EqInts answer: a text's beginning, a number's rest, a list's beginning, whether two lists are the same. Conditions: lists of at most 1000000 numbers whose cells lie below a block.
-/
import Derived.Test.YtceeimolfalmpaaDoorUB
import Derived.Test.YtceeimolfalmpaaDoorUA
import Derived.Test.YtceeimolfalmpaaDoorUShelf
import Derived.Deep.QuietTactic
import Derived.BigQuiet
import Derived.Lib.Hide
import Derived.Laws.BitsAllLaws
import Derived.Laws.BitsLemmas
import Derived.IntWalk
namespace Go.Proofs.YtceeimolfalmpaaDoor.U
open Go.RowKit ObUtf

theorem bt_eq (s : ByteArray) (i : Nat) (h : i < s.size) : bt s i = (s[i]'h).toNat := by
  unfold bt; rw [show s.get! i = s[i]'h from by cases s with | mk d => exact getElem!_pos d i h]
theorem ret3 {a b : Int} {c d e f : Int} (h1 : a = b) (h2 : c = d) (h3 : e = f) : Ending.returned (.tuple #[.int .i64 a, .int .u8 c, .int .u8 e]) = .returned (.tuple #[.int .i64 b, .int .u8 d, .int .u8 f]) := by rw [h1, h2, h3]
theorem ret2 {a b : Int} {c d : Int} (h1 : a = b) (h2 : c = d) : Ending.returned (.tuple #[.int .i64 a, .int .i64 c]) = .returned (.tuple #[.int .i64 b, .int .i64 d]) := by rw [h1, h2]

/-- The bytes from the third on that were looked at are such as continue. -/
def Conts (s : ByteArray) (i k : Nat) : Prop := ∀ j, 2 ≤ j → j < k → 128 ≤ bt s (i + j) ∧ bt s (i + j) ≤ 191
end Go.Proofs.YtceeimolfalmpaaDoor.U

namespace Go.Proofs.YtceeimolfalmpaaDoor.U
open Go.RowKit ObUtf

def syI (s : ByteArray) (i : Int) : Int := if i < 0 then -1 else sy s i.toNat
def wdI (s : ByteArray) (i : Int) : Int := if i < 0 then 0 else (wd s i.toNat : Int)
set_option maxRecDepth 100000 in
theorem a31 : ∀ x : Fin 256, bits .and .u8 ((x.val : Nat) : Int) 31 = ((x.val : Nat) : Int) % 32 := by decide
set_option maxRecDepth 100000 in
theorem a15 : ∀ x : Fin 256, bits .and .u8 ((x.val : Nat) : Int) 15 = ((x.val : Nat) : Int) % 16 := by decide
set_option maxRecDepth 100000 in
theorem a7 : ∀ x : Fin 256, bits .and .u8 ((x.val : Nat) : Int) 7 = ((x.val : Nat) : Int) % 8 := by decide
set_option maxRecDepth 100000 in
theorem a63 : ∀ x : Fin 256, bits .and .u8 ((x.val : Nat) : Int) 63 = ((x.val : Nat) : Int) % 64 := by decide
theorem b31 (x : UInt8) : bits .and .u8 (x.toNat : Int) 31 = (x.toNat : Int) % 32 := a31 ⟨x.toNat, x.toNat_lt⟩
theorem b15 (x : UInt8) : bits .and .u8 (x.toNat : Int) 15 = (x.toNat : Int) % 16 := a15 ⟨x.toNat, x.toNat_lt⟩
theorem b7 (x : UInt8) : bits .and .u8 (x.toNat : Int) 7 = (x.toNat : Int) % 8 := a7 ⟨x.toNat, x.toNat_lt⟩
theorem b63 (x : UInt8) : bits .and .u8 (x.toNat : Int) 63 = (x.toNat : Int) % 64 := a63 ⟨x.toNat, x.toNat_lt⟩
theorem below_drews {B : Nat} {a w : World} (h : Below B a w) (n : Nat) : Below B a (w.drewN n) := ⟨h.os, h.tape, h.output, h.size, h.block⟩

theorem get_lt (s : ByteArray) (k : Nat) (h : k < s.size) : s.get! k = s[k]'h := by cases s with | mk d => exact getElem!_pos d k h
theorem get_ge (s : ByteArray) (k : Nat) (h : ¬ k < s.size) : s.get! k = default := by cases s with | mk d => exact getElem!_neg d k h
theorem get_extract (s : ByteArray) (n k : Nat) (hn : n ≤ s.size) : (s.extract n s.size).get! k = s.get! (n + k) := by
  have hz : (s.extract n s.size).size = s.size - n := by rw [ByteArray.size_extract]; omega
  by_cases h : n + k < s.size
  · have h1 : k < (s.extract n s.size).size := by omega
    rw [get_lt _ _ h1, get_lt _ _ h, ByteArray.getElem_extract]
  · rw [get_ge _ _ (by omega), get_ge _ _ h]
theorem decodeGo_at (s : ByteArray) (n : Nat) (hn : n < s.size) : Lib.decodeGo (s.extract n s.size) = Lib.decodeN (s.size - n) (bt s n) (bt s (n + 1)) (bt s (n + 2)) (bt s (n + 3)) := by
  have hz : (s.extract n s.size).size = s.size - n := by rw [ByteArray.size_extract]; omega
  unfold Lib.decodeGo
  rw [if_neg (by omega), Lib.decode_at, get_extract s n 0 (by omega), get_extract s n (0 + 1) (by omega), get_extract s n (0 + 2) (by omega), get_extract s n (0 + 3) (by omega), hz]
  rfl
/-- The library's answer, in the words of width and symbol. -/
theorem decode_big (s : ByteArray) (n : Nat) (hn : n < s.size) (hb : 128 ≤ bt s n) : (Lib.decodeGo (s.extract n s.size)).2 = wd s n ∧ (wd s n = 1 → sy s n = 1114112 + (bt s n : Int)) ∧ (wd s n ≠ 1 → ((Lib.decodeGo (s.extract n s.size)).1 : Int) = sy s n) := by
  have e := decodeGo_at s n hn
  have hw : wd s n = (Lib.decodeN (s.size - n) (bt s n) (bt s (n + 1)) (bt s (n + 2)) (bt s (n + 3))).2 := by unfold wd; rw [if_pos hn]
  rw [e, ← hw]
  refine ⟨rfl, fun h => ?_, fun h => ?_⟩
  · unfold sy; rw [if_pos hn, if_pos h, if_neg (by omega)]
  · unfold sy; rw [if_pos hn, if_neg h]
set_option maxHeartbeats 1000000 in
set_option maxRecDepth 100000 in
theorem at_any (s : ByteArray) (i : Int) (w : World) (hT : Lib.Utf8Tabs 0 1 w) :
    Calls Tryd.prog 48 #[.string s, .int .i64 i] w fun e w' => e = .returned (.tuple #[.int .i64 (syI s i), .int .i64 (wdI s i)]) ∧ Below w.heap.size w w' := by
  by_cases h0 : i < 0
  · have e1 : syI s i = -1 := by unfold syI; rw [if_pos h0]
    have e2 : wdI s i = 0 := by unfold wdI; rw [if_pos h0]
    rw [e1, e2]; clear e1 e2 hT
    go_enter Tryd.func48, Tryd.ntmps48
    go_wp2
    go_ret2
    exact ⟨rfl, Below.refl _ _⟩
  · obtain ⟨n, rfl⟩ := Int.eq_ofNat_of_zero_le (show 0 ≤ i by omega)
    have e1 : syI s (n : Int) = sy s n := by unfold syI; rw [if_neg (by omega)]; rfl
    have e2 : wdI s (n : Int) = wd s n := by unfold wdI; rw [if_neg (by omega)]; rfl
    rw [e1, e2]; clear e1 e2 h0
    by_cases hn : n < s.size
    · have hb0 := bt_eq s n hn
      have hdec := Lib.hid (Tryd.utf8_DecodeRuneInString (s.extract n s.size) w hT)
      have hbig := decode_big s n hn
      have hwr := sy_range hn
      have hwl := wd_le s n
      have hasc : bt s n < 128 → wd s n = 1 ∧ sy s n = (bt s n : Int) := fun h => by
        have hw : wd s n = 1 := by unfold wd Lib.decodeN; rw [if_pos hn, if_pos h]
        exact ⟨hw, by unfold sy; rw [if_pos hn, if_pos hw, if_pos h]⟩
      rw [hb0] at hbig hasc
      have g0 := (s[n]'hn).toNat_lt
      have hn' : (n : Int) < (s.size : Int) := by omega
      clear hT hb0
      by_cases ha : (s[n]'hn).toNat < 128
      · obtain ⟨e1, e2⟩ := hasc ha
        rw [e1, e2]; clear e1 e2 hbig hasc hwr hwl
        go_enter Tryd.func48, Tryd.ntmps48
        go_wp2
        go_ret2
        exact ⟨rfl, Below.refl _ _⟩
      · obtain ⟨d1, d2, d3⟩ := hbig (by omega)
        clear hasc hbig
        generalize Lib.decodeGo (s.extract n s.size) = D at *
        obtain ⟨r, v⟩ := D
        dsimp only at *
        subst d1
        have ha' : 128 ≤ (s[n]'hn).toNat := by omega
        by_cases hv : wd s n = 1
        · have Y := Lib.hid (d2 hv)
          clear d2 d3 ha hwr
          generalize wd s n = v at *
          subst hv
          go_enter Tryd.func48, Tryd.ntmps48
          go_wp2_with (go_at_call 66; refine hdec.out.mono ?_; rintro e w' ⟨rfl, hbl⟩)
          go_ret2
          exact ⟨ret2 (by rw [Y.out]) rfl, hbl⟩
        · have Y := d3 hv
          generalize wd s n = v at *
          generalize sy s n = y at *
          subst Y
          have hv' : ((v : Int) == 1) = false := by simp; omega
          clear d2 d3 hv ha
          go_enter Tryd.func48, Tryd.ntmps48
          go_wp2_with (go_at_call 66; refine hdec.out.mono ?_; rintro e w' ⟨rfl, hbl⟩)
          go_ret2
          exact ⟨rfl, hbl⟩
    · have e1 : sy s n = -1 := by unfold sy; rw [if_neg hn]
      have e2 : wd s n = 0 := wd_out (by omega)
      rw [e1, e2]; clear e1 e2 hT
      have hn' : (s.size : Int) ≤ n := by omega
      go_enter Tryd.func48, Tryd.ntmps48
      go_wp2
      go_ret2
      exact ⟨rfl, Below.refl _ _⟩
end Go.Proofs.YtceeimolfalmpaaDoor.U

namespace Go.Proofs.YtceeimolfalmpaaDoor.U
open Go.RowKit ObUtf

def Tb (w : World) : Prop := Lib.Utf8Tabs 0 1 w ∧ 2 ≤ w.heap.size
theorem Tb.below {w w' : World} (h : Tb w) (hb : Below w.heap.size w w') : Tb w' := by
  obtain ⟨⟨h1, h2⟩, h3⟩ := h
  refine ⟨⟨fun c hc => ?_, fun c hc => ?_⟩, Nat.le_trans h3 hb.size⟩
  · exact (hb.cell (p := ⟨0, c, none⟩) (by show 0 < w.heap.size; omega)).trans (h1 c hc)
  · have := h2 c hc
    first
      | exact (hb.cell (p := ⟨1, _, none⟩) (by show 1 < w.heap.size; omega)).trans this
      | exact ⟨(hb.cell (p := ⟨1, _, none⟩) (by show 1 < w.heap.size; omega)).trans this.1, (hb.cell (p := ⟨1, _, none⟩) (by show 1 < w.heap.size; omega)).trans this.2⟩
theorem bel_trans {w w1 w2 : World} (h1 : Below w.heap.size w w1) (h2 : Below w1.heap.size w1 w2) : Below w.heap.size w w2 := h1.trans (h2.mono h1.size)
theorem bel_trans' {B : Nat} {w w1 w2 : World} (hB : B ≤ w.heap.size) (h1 : Below B w w1) (h2 : Below w1.heap.size w1 w2) : Below B w w2 := h1.trans (h2.mono (Nat.le_trans hB h1.size))

/-- Is a place a boundary, by the bytes ahead of it? -/
def locB (s : ByteArray) (i : Nat) : Bool := decide (i ≤ s.size ∧ (i < 1 ∨ wd s (i - 1) ≤ 1) ∧ (i < 2 ∨ wd s (i - 2) ≤ 2) ∧ (i < 3 ∨ wd s (i - 3) ≤ 3))
theorem locB_iff (s : ByteArray) (i : Nat) : locB s i = true ↔ IsB s i := by
  unfold locB
  rw [decide_eq_true_iff]
  constructor
  · intro h
    rw [local_bd h.1]
    intro k h1 h2 h3
    rcases (show k = 1 ∨ k = 2 ∨ k = 3 by omega) with rfl | rfl | rfl <;> omega
  · intro h
    have hl := (local_bd h.le).1 h
    refine ⟨h.le, ?_, ?_, ?_⟩
    · rcases Nat.lt_or_ge i 1 with h1 | h1
      · exact Or.inl h1
      · exact Or.inr (hl 1 (by omega) (by omega) h1)
    · rcases Nat.lt_or_ge i 2 with h1 | h1
      · exact Or.inl h1
      · exact Or.inr (hl 2 (by omega) (by omega) h1)
    · rcases Nat.lt_or_ge i 3 with h1 | h1
      · exact Or.inl h1
      · exact Or.inr (hl 3 (by omega) (by omega) h1)
def isBI (s : ByteArray) (i : Int) : Bool := decide (0 ≤ i) && locB s i.toNat
theorem isBI_nat (s : ByteArray) (n : Nat) : isBI s n = locB s n := by simp [isBI]
theorem isBI_true {s : ByteArray} {n : Nat} (h : IsB s n) : isBI s n = true := by rw [isBI_nat, (locB_iff s n).2 h]
theorem isBI_false {s : ByteArray} {n : Nat} (h : ¬ IsB s n) : isBI s n = false := by
  rw [isBI_nat]; cases e : locB s n with
  | false => rfl
  | true => exact absurd ((locB_iff s n).1 e) h
def LocTo (s : ByteArray) (n k : Nat) : Prop := ∀ c, 1 ≤ c → c < k → c ≤ n → wd s (n - c) ≤ c

end Go.Proofs.YtceeimolfalmpaaDoor.U

namespace Go.Proofs.YtceeimolfalmpaaDoor.U
open Go.RowKit ObUtf

def cutB (s : ByteArray) (m : Nat) : ByteArray := if m < s.size then s.extract 0 m else s
theorem cutB_size (s : ByteArray) (m : Nat) : (cutB s m).size ≤ m := by
  unfold cutB; split
  · rw [ByteArray.size_extract]; omega
  · omega
end Go.Proofs.YtceeimolfalmpaaDoor.U
