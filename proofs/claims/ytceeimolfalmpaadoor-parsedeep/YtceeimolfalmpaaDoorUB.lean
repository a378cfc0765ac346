/-
  What the small functions on numbers answer: Good, Next, Prev of utf and of the page's own, and Within, for every int.
  What Bytes of utf and of the page's own answer, for every int: the bytes of a symbol, nothing of what is none; they make a block, and leave what was.
  Plain: a symbol's bytes tell that symbol and no other; symbols above and below are each other's. For every symbol.
-/
import Derived.Test.YtceeimolfalmpaaDoorProg
import Derived.WalkKit
import Derived.WalkSpells
import Derived.WalkLawsBesides
import Derived.Laws.BitsAllLaws
import Derived.Laws.BitsLemmas
import Derived.Test.YtceeimolfalmpaaDoorUA
namespace Go.Proofs.YtceeimolfalmpaaDoor.U
open Go.RowKit

def goodB (x : Int) : Bool := decide ((0 ≤ x ∧ x ≤ 55295) ∨ (57344 ≤ x ∧ x ≤ 1114111) ∨ (1114240 ≤ x ∧ x ≤ 1114367))
def nextI (x : Int) : Int := if x < 0 then 0 else if x < 55295 then x + 1 else if x < 57344 then 57344 else if x < 1114111 then x + 1 else if x < 1114240 then 1114240 else if x < 1114367 then x + 1 else -1
def prevI (x : Int) : Int := if 1114367 < x then 1114367 else if 1114240 < x then x - 1 else if 1114111 < x then 1114111 else if 57344 < x then x - 1 else if 55295 < x then 55295 else if 0 < x then x - 1 else -1
theorem ret_bool {a b : Bool} (h : a = b) : Ending.returned (.bool a) = .returned (.bool b) := by rw [h]
theorem ret_int {k : IntKind} {a b : Int} (h : a = b) : Ending.returned (.int k a) = .returned (.int k b) := by rw [h]

set_option maxHeartbeats 400000 in
theorem good_any (x : Int) (w : World) : Calls Tryd.prog 67 #[.int .i64 x] w fun e w' => e = .returned (.bool (goodB x)) ∧ w = w' := by
  go_enter Tryd.func67, Tryd.ntmps67
  go_wp2
  all_goals (go_ret; exact ⟨ret_bool (by unfold goodB; rw [Bool.eq_iff_iff]; simp; omega), rfl⟩)

set_option maxHeartbeats 400000 in
theorem next_any (x : Int) (w : World) : Calls Tryd.prog 51 #[.int .i64 x] w fun e w' => e = .returned (.int .i64 (nextI x)) ∧ w = w' := by
  go_enter Tryd.func51, Tryd.ntmps51
  go_wp2
  all_goals (go_ret; exact ⟨ret_int (by unfold nextI; repeat' split; all_goals omega), rfl⟩)

set_option maxHeartbeats 400000 in
theorem prev_any (x : Int) (w : World) : Calls Tryd.prog 50 #[.int .i64 x] w fun e w' => e = .returned (.int .i64 (prevI x)) ∧ w = w' := by
  go_enter Tryd.func50, Tryd.ntmps50
  go_wp2
  all_goals (go_ret; exact ⟨ret_int (by unfold prevI; repeat' split; all_goals omega), rfl⟩)

end Go.Proofs.YtceeimolfalmpaaDoor.U

namespace Go.Proofs.YtceeimolfalmpaaDoor.U
open Go.RowKit

def bytesB (x : Int) : ByteArray := if goodB x = true then (if x < 1114112 then Utf8.encode x else ⟨#[UInt8.ofNat (x - 1114112).toNat]⟩) else ⟨#[]⟩

theorem and63 (x : Int) (h0 : 0 ≤ x) (h1 : x < 9223372036854775808) : bits .and .i64 x 63 = x % 64 := by
  obtain ⟨n, rfl⟩ := Int.eq_ofNat_of_zero_le h0
  have e1 : (BitVec.ofInt 64 (n : Int)).toNat = n := by rw [BitVec.ofInt_natCast, BitVec.toNat_ofNat]; exact Nat.mod_eq_of_lt (by omega)
  have e2 : (BitVec.ofInt 64 (63 : Int)).toNat = 63 := by decide
  have e3 : n &&& 63 = n % 64 := Nat.and_two_pow_sub_one_eq_mod n 6
  show IntKind.i64.wrap ((BitVec.ofInt 64 (n : Int) &&& BitVec.ofInt 64 (63 : Int)).toNat : Int) = _
  rw [BitVec.toNat_and, e1, e2, e3, IntKind.wrap_i64]
  omega
theorem ret_str {a b : ByteArray} (h : a = b) : Ending.returned (.string a) = .returned (.string b) := by rw [h]
theorem good_cases {x : Int} (h : goodB x = true) : (0 ≤ x ∧ x ≤ 55295) ∨ (57344 ≤ x ∧ x ≤ 1114111) ∨ (1114240 ≤ x ∧ x ≤ 1114367) := by simpa [goodB] using h
theorem bytesB_raw {x : Int} (h : goodB x = true) (hx : 1114112 ≤ x) : bytesB x = ⟨#[UInt8.ofNat (x - 1114112).toNat]⟩ := by unfold bytesB; rw [if_pos h, if_neg (by omega)]
theorem enc_of {x : Int} (h : goodB x = true) (hx : x < 1114112) : bytesB x = Utf8.encode x ∧ 0 ≤ x ∧ Utf8.valid x = true := by
  have hc := good_cases h
  refine ⟨by unfold bytesB; rw [if_pos h, if_pos hx], by omega, ?_⟩
  rw [validRune_eq]; unfold validRune; simp; omega
theorem bytesB_1 {x : Int} (h : goodB x = true) (hx : x < 128) : bytesB x = ⟨#[UInt8.ofNat x.toNat]⟩ := by
  obtain ⟨e, h0, hv⟩ := enc_of h (by omega)
  rw [e]; unfold Utf8.encode
  simp only [hv, if_true]
  rw [if_pos (by omega)]
theorem bytesB_2 {x : Int} (h : goodB x = true) (h1 : 128 ≤ x) (hx : x < 2048) : bytesB x = ⟨#[UInt8.ofNat (192 + x / 64).toNat, UInt8.ofNat (128 + x % 64).toNat]⟩ := by
  obtain ⟨e, h0, hv⟩ := enc_of h (by omega)
  rw [e]; unfold Utf8.encode
  simp only [hv, if_true]
  rw [if_neg (by omega), if_pos (by omega), show 0xC0 + x.toNat / 64 = (192 + x / 64).toNat by omega, show 0x80 + x.toNat % 64 = (128 + x % 64).toNat by omega]
theorem bytesB_3 {x : Int} (h : goodB x = true) (h1 : 2048 ≤ x) (hx : x < 65536) : bytesB x = ⟨#[UInt8.ofNat (224 + x / 4096).toNat, UInt8.ofNat (128 + x / 64 % 64).toNat, UInt8.ofNat (128 + x % 64).toNat]⟩ := by
  obtain ⟨e, h0, hv⟩ := enc_of h (by omega)
  rw [e]; unfold Utf8.encode
  simp only [hv, if_true]
  rw [if_neg (by omega), if_neg (by omega), if_pos (by omega), show 0xE0 + x.toNat / 4096 = (224 + x / 4096).toNat by omega, show 0x80 + x.toNat / 64 % 64 = (128 + x / 64 % 64).toNat by omega, show 0x80 + x.toNat % 64 = (128 + x % 64).toNat by omega]
theorem bytesB_4 {x : Int} (h : goodB x = true) (h1 : 65536 ≤ x) (hx : x < 1114112) : bytesB x = ⟨#[UInt8.ofNat (240 + x / 262144).toNat, UInt8.ofNat (128 + x / 4096 % 64).toNat, UInt8.ofNat (128 + x / 64 % 64).toNat, UInt8.ofNat (128 + x % 64).toNat]⟩ := by
  obtain ⟨e, h0, hv⟩ := enc_of h (by omega)
  rw [e]; unfold Utf8.encode
  simp only [hv, if_true]
  rw [if_neg (by omega), if_neg (by omega), if_neg (by omega), show 0xF0 + x.toNat / 262144 = (240 + x / 262144).toNat by omega, show 0x80 + x.toNat / 4096 % 64 = (128 + x / 4096 % 64).toNat by omega, show 0x80 + x.toNat / 64 % 64 = (128 + x / 64 % 64).toNat by omega, show 0x80 + x.toNat % 64 = (128 + x % 64).toNat by omega]

end Go.Proofs.YtceeimolfalmpaaDoor.U

namespace Go.Proofs.YtceeimolfalmpaaDoor.U
open ObUtf Go.Lib

theorem bt_mk (l : List UInt8) (i : Nat) : bt ⟨l.toArray⟩ i = (l.getD i 0).toNat := by
  unfold bt
  congr 1
  rcases Nat.lt_or_ge i l.length with h | h
  · have hk : i < l.toArray.size := by simpa using h
    have e : (⟨l.toArray⟩ : ByteArray).get! i = l.toArray[i]'hk := getElem!_pos l.toArray i hk
    rw [e]; simp [h]
  · have hk : ¬ i < l.toArray.size := by simpa using h
    have e : (⟨l.toArray⟩ : ByteArray).get! i = default := getElem!_neg l.toArray i hk
    rw [e]; simp [h]; rfl
theorem u8 (n : Nat) (h : n < 256) : (UInt8.ofNat n).toNat = n := by
  rw [UInt8.toNat_ofNat']; exact Nat.mod_eq_of_lt h
theorem size_mk (l : List UInt8) : (⟨l.toArray⟩ : ByteArray).size = l.length := List.size_toArray
/-- One, two, three, four bytes that stand for a scalar. -/
theorem sy_l1 (a : Nat) (ha : a < 128) : sy ⟨[UInt8.ofNat a].toArray⟩ 0 = (a : Int) ∧ wd ⟨[UInt8.ofNat a].toArray⟩ 0 = 1 := by
  have hs : (⟨[UInt8.ofNat a].toArray⟩ : ByteArray).size = 1 := rfl
  have b0 : bt ⟨[UInt8.ofNat a].toArray⟩ 0 = a := (bt_mk _ _).trans (u8 a (by omega))
  have hw : wd ⟨[UInt8.ofNat a].toArray⟩ 0 = 1 := by
    unfold wd decodeN; rw [if_pos (by rw [hs]; omega), if_pos (by rw [b0]; exact ha)]
  refine ⟨?_, hw⟩
  unfold sy; rw [if_pos (by rw [hs]; omega), if_pos hw, if_pos (by rw [b0]; exact ha), b0]
theorem sy_raw (a : Nat) (ha : 128 ≤ a) (ha2 : a < 256) : sy ⟨[UInt8.ofNat a].toArray⟩ 0 = 1114112 + (a : Int) ∧ wd ⟨[UInt8.ofNat a].toArray⟩ 0 = 1 := by
  have hs : (⟨[UInt8.ofNat a].toArray⟩ : ByteArray).size = 1 := rfl
  have b0 : bt ⟨[UInt8.ofNat a].toArray⟩ 0 = a := (bt_mk _ _).trans (u8 a (by omega))
  have hw : wd ⟨[UInt8.ofNat a].toArray⟩ 0 = 1 := by
    have hc := wd_cases ⟨[UInt8.ofNat a].toArray⟩ 0 (by rw [hs]; omega)
    rw [hs] at hc
    omega
  refine ⟨?_, hw⟩
  unfold sy; rw [if_pos (by rw [hs]; omega), if_pos hw, if_neg (by rw [b0]; omega), b0]
theorem sy_l2 (a b : Nat) (ha : 194 ≤ a ∧ a < 224) (hb : 128 ≤ b ∧ b < 192) : sy ⟨[UInt8.ofNat a, UInt8.ofNat b].toArray⟩ 0 = ((a - 192) * 64 + (b - 128) : Nat) ∧ wd ⟨[UInt8.ofNat a, UInt8.ofNat b].toArray⟩ 0 = 2 := by
  have hs : (⟨[UInt8.ofNat a, UInt8.ofNat b].toArray⟩ : ByteArray).size = 2 := rfl
  have b0 : bt ⟨[UInt8.ofNat a, UInt8.ofNat b].toArray⟩ 0 = a := (bt_mk _ _).trans (u8 a (by omega))
  have b1 : bt ⟨[UInt8.ofNat a, UInt8.ofNat b].toArray⟩ (0 + 1) = b := (bt_mk _ _).trans (u8 b (by omega))
  have hn : rowN a = 2 := by unfold rowN; (repeat' split) <;> omega
  have hq : sqn ⟨[UInt8.ofNat a, UInt8.ofNat b].toArray⟩ 0 = 2 := by
    have h := sqn_whole (s := ⟨[UInt8.ofNat a, UInt8.ofNat b].toArray⟩) (i := 0) (by rw [hs]; omega) (by rw [b0, hn]; omega) (by rw [b0, hn, hs]; omega)
      (by rw [b0, b1]; unfold rowLo; (repeat' split) <;> omega) (by rw [b0, b1]; unfold rowHi; (repeat' split) <;> omega) (by rw [b0, hn]; intro k h1 h2; omega)
    rw [b0, hn] at h; exact h
  obtain ⟨h1, _, h3⟩ := sy_2 (s := ⟨[UInt8.ofNat a, UInt8.ofNat b].toArray⟩) (i := 0) (by rw [hs]; omega) hq
  refine ⟨?_, h1⟩
  rw [h3, b0, b1]; omega
theorem sy_l3 (a b c : Nat) (ha : 224 ≤ a ∧ a < 240) (hb : 128 ≤ b ∧ b < 192) (hc : 128 ≤ c ∧ c < 192) (h0 : a = 224 → 160 ≤ b) (hD : a = 237 → b < 160) :
    sy ⟨[UInt8.ofNat a, UInt8.ofNat b, UInt8.ofNat c].toArray⟩ 0 = ((a - 224) * 4096 + (b - 128) * 64 + (c - 128) : Nat) ∧ wd ⟨[UInt8.ofNat a, UInt8.ofNat b, UInt8.ofNat c].toArray⟩ 0 = 3 := by
  have hs : (⟨[UInt8.ofNat a, UInt8.ofNat b, UInt8.ofNat c].toArray⟩ : ByteArray).size = 3 := rfl
  have b0 : bt ⟨[UInt8.ofNat a, UInt8.ofNat b, UInt8.ofNat c].toArray⟩ 0 = a := (bt_mk _ _).trans (u8 a (by omega))
  have b1 : bt ⟨[UInt8.ofNat a, UInt8.ofNat b, UInt8.ofNat c].toArray⟩ (0 + 1) = b := (bt_mk _ _).trans (u8 b (by omega))
  have b2 : bt ⟨[UInt8.ofNat a, UInt8.ofNat b, UInt8.ofNat c].toArray⟩ (0 + 2) = c := (bt_mk _ _).trans (u8 c (by omega))
  have hn : rowN a = 3 := by unfold rowN; (repeat' split) <;> omega
  have hq : sqn ⟨[UInt8.ofNat a, UInt8.ofNat b, UInt8.ofNat c].toArray⟩ 0 = 3 := by
    have h := sqn_whole (s := ⟨[UInt8.ofNat a, UInt8.ofNat b, UInt8.ofNat c].toArray⟩) (i := 0) (by rw [hs]; omega) (by rw [b0, hn]; omega) (by rw [b0, hn, hs]; omega)
      (by rw [b0, b1]; unfold rowLo; (repeat' split) <;> omega) (by rw [b0, b1]; unfold rowHi; (repeat' split) <;> omega)
      (by rw [b0, hn]; intro k h1 h2; obtain rfl : k = 2 := by omega
          rw [b2]; omega)
    rw [b0, hn] at h; exact h
  obtain ⟨h1, _, h3⟩ := sy_3 (s := ⟨[UInt8.ofNat a, UInt8.ofNat b, UInt8.ofNat c].toArray⟩) (i := 0) (by rw [hs]; omega) hq
  refine ⟨?_, h1⟩
  rw [h3, b0, b1, b2]; omega
theorem sy_l4 (a b c d : Nat) (ha : 240 ≤ a ∧ a < 245) (hb : 128 ≤ b ∧ b < 192) (hc : 128 ≤ c ∧ c < 192) (hd : 128 ≤ d ∧ d < 192) (h0 : a = 240 → 144 ≤ b) (hD : a = 244 → b < 144) :
    sy ⟨[UInt8.ofNat a, UInt8.ofNat b, UInt8.ofNat c, UInt8.ofNat d].toArray⟩ 0 = ((a - 240) * 262144 + (b - 128) * 4096 + (c - 128) * 64 + (d - 128) : Nat) ∧ wd ⟨[UInt8.ofNat a, UInt8.ofNat b, UInt8.ofNat c, UInt8.ofNat d].toArray⟩ 0 = 4 := by
  have hs : (⟨[UInt8.ofNat a, UInt8.ofNat b, UInt8.ofNat c, UInt8.ofNat d].toArray⟩ : ByteArray).size = 4 := rfl
  have b0 : bt ⟨[UInt8.ofNat a, UInt8.ofNat b, UInt8.ofNat c, UInt8.ofNat d].toArray⟩ 0 = a := (bt_mk _ _).trans (u8 a (by omega))
  have b1 : bt ⟨[UInt8.ofNat a, UInt8.ofNat b, UInt8.ofNat c, UInt8.ofNat d].toArray⟩ (0 + 1) = b := (bt_mk _ _).trans (u8 b (by omega))
  have b2 : bt ⟨[UInt8.ofNat a, UInt8.ofNat b, UInt8.ofNat c, UInt8.ofNat d].toArray⟩ (0 + 2) = c := (bt_mk _ _).trans (u8 c (by omega))
  have b3 : bt ⟨[UInt8.ofNat a, UInt8.ofNat b, UInt8.ofNat c, UInt8.ofNat d].toArray⟩ (0 + 3) = d := (bt_mk _ _).trans (u8 d (by omega))
  have hn : rowN a = 4 := by unfold rowN; (repeat' split) <;> omega
  have hq : sqn ⟨[UInt8.ofNat a, UInt8.ofNat b, UInt8.ofNat c, UInt8.ofNat d].toArray⟩ 0 = 4 := by
    have h := sqn_whole (s := ⟨[UInt8.ofNat a, UInt8.ofNat b, UInt8.ofNat c, UInt8.ofNat d].toArray⟩) (i := 0) (by rw [hs]; omega) (by rw [b0, hn]; omega) (by rw [b0, hn, hs]; omega)
      (by rw [b0, b1]; unfold rowLo; (repeat' split) <;> omega) (by rw [b0, b1]; unfold rowHi; (repeat' split) <;> omega)
      (by rw [b0, hn]; intro k h1 h2
          rcases (show k = 2 ∨ k = 3 by omega) with rfl | rfl
          · rw [b2]; omega
          · rw [b3]; omega)
    rw [b0, hn] at h; exact h
  obtain ⟨h1, _, h3⟩ := sy_4 (s := ⟨[UInt8.ofNat a, UInt8.ofNat b, UInt8.ofNat c, UInt8.ofNat d].toArray⟩) (i := 0) (by rw [hs]; omega) hq
  refine ⟨?_, h1⟩
  rw [h3, b0, b1, b2, b3]; omega
theorem enc_at (y : Int) (h : goodB y = true) : sy (bytesB y) 0 = y ∧ wd (bytesB y) 0 = (bytesB y).size ∧ 1 ≤ (bytesB y).size := by
  have hc := good_cases h
  rcases (show y < 128 ∨ (128 ≤ y ∧ y < 2048) ∨ (2048 ≤ y ∧ y < 65536) ∨ (65536 ≤ y ∧ y < 1114112) ∨ 1114112 ≤ y by omega) with k | k | k | k | k
  · rw [bytesB_1 h k]
    obtain ⟨e1, e2⟩ := sy_l1 y.toNat (by omega)
    exact ⟨e1.trans (by omega), e2, Nat.le_refl _⟩
  · rw [bytesB_2 h k.1 k.2]
    obtain ⟨e1, e2⟩ := sy_l2 (192 + y / 64).toNat (128 + y % 64).toNat (by omega) (by omega)
    exact ⟨e1.trans (by omega), e2, by show 1 ≤ 2; omega⟩
  · rw [bytesB_3 h k.1 k.2]
    obtain ⟨e1, e2⟩ := sy_l3 (224 + y / 4096).toNat (128 + y / 64 % 64).toNat (128 + y % 64).toNat (by omega) (by omega) (by omega) (by omega) (by omega)
    exact ⟨e1.trans (by omega), e2, by show 1 ≤ 3; omega⟩
  · rw [bytesB_4 h k.1 k.2]
    obtain ⟨e1, e2⟩ := sy_l4 (240 + y / 262144).toNat (128 + y / 4096 % 64).toNat (128 + y / 64 % 64).toNat (128 + y % 64).toNat (by omega) (by omega) (by omega) (by omega) (by omega) (by omega)
    exact ⟨e1.trans (by omega), e2, by show 1 ≤ 4; omega⟩
  · rw [bytesB_raw h k]
    obtain ⟨e1, e2⟩ := sy_raw (y - 1114112).toNat (by omega) (by omega)
    exact ⟨e1.trans (by omega), e2, Nat.le_refl _⟩
theorem next_prev (y : Int) (h : goodB y = true) (hn : 0 ≤ nextI y) : prevI (nextI y) = y := by
  have hc := good_cases h
  unfold nextI prevI at *
  (repeat' split at hn) <;> (repeat' split) <;> omega
theorem prev_next (y : Int) (h : goodB y = true) (hn : 0 ≤ prevI y) : nextI (prevI y) = y := by
  have hc := good_cases h
  unfold nextI prevI at *
  (repeat' split at hn) <;> (repeat' split) <;> omega
end Go.Proofs.YtceeimolfalmpaaDoor.U
