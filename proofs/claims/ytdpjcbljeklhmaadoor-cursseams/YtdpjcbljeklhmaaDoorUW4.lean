/-
  What At of the page's own and At of utf answer at every text and place, and what Cut and Within answer. Conditions: a text of at most maxLen bytes; for utf's At: the two tables of unicode/utf8 lie as their text lays them.
-/
import Derived.Test.YtdpjcbljeklhmaaDoorUW3
import Derived.IntWalk
namespace Go.Proofs.YtdpjcbljeklhmaaDoor.U
open Go.RowKit ObUtf

def syI (s : ByteArray) (i : Int) : Int := if i < 0 then -1 else sy s i.toNat
def wdI (s : ByteArray) (i : Int) : Int := if i < 0 then 0 else (wd s i.toNat : Int)
set_option maxRecDepth 100000 in
theorem a31 : ∀ x : Fin 256, bits .and .u8 ((x.val : Nat) : Int) 31 = ((x.val : Nat) : Int) % 32 := by decide
set_option maxRecDepth 100000 in
theorem a15 : ∀ x : Fin 256, bits .and .u8 ((x.val : Nat) : Int) 15 = ((x.val : Nat) : Int) % 16 := by decide
set_option maxRecDepth 100000 in
theorem a7 : ∀ x : Fin 256, bits .and .u8 ((x.val : Nat) : Int) 7 = ((x.val : Nat) : Int) % 8 := by decide
set_option maxRecDepth 100000 in
theorem a63 : ∀ x : Fin 256, bits .and .u8 ((x.val : Nat) : Int) 63 = ((x.val : Nat) : Int) % 64 := by decide
theorem b31 (x : UInt8) : bits .and .u8 (x.toNat : Int) 31 = (x.toNat : Int) % 32 := a31 ⟨x.toNat, x.toNat_lt⟩
theorem b15 (x : UInt8) : bits .and .u8 (x.toNat : Int) 15 = (x.toNat : Int) % 16 := a15 ⟨x.toNat, x.toNat_lt⟩
theorem b7 (x : UInt8) : bits .and .u8 (x.toNat : Int) 7 = (x.toNat : Int) % 8 := a7 ⟨x.toNat, x.toNat_lt⟩
theorem b63 (x : UInt8) : bits .and .u8 (x.toNat : Int) 63 = (x.toNat : Int) % 64 := a63 ⟨x.toNat, x.toNat_lt⟩
theorem below_drews {B : Nat} {a w : World} (h : Below B a w) (n : Nat) : Below B a (w.drewN n) := ⟨h.os, h.tape, h.output, h.size, h.block⟩

set_option maxHeartbeats 1000000 in
set_option maxRecDepth 100000 in
theorem rat_any (s : ByteArray) (i : Int) (w : World) (hs : s.size ≤ maxLen) :
    Calls Tryd.prog 17 #[.string s, .int .i64 i] w fun e w' => e = .returned (.tuple #[.int .i64 (syI s i), .int .i64 (wdI s i)]) ∧ Below w.heap.size w w' := by
  by_cases h0 : i < 0
  · have e1 : syI s i = -1 := by unfold syI; rw [if_pos h0]
    have e2 : wdI s i = 0 := by unfold wdI; rw [if_pos h0]
    rw [e1, e2]; clear e1 e2
    go_enter Tryd.func17, Tryd.ntmps17
    go_wp2
    go_ret2
    exact ⟨rfl, Below.refl _ _⟩
  · obtain ⟨n, rfl⟩ := Int.eq_ofNat_of_zero_le (show 0 ≤ i by omega)
    have e1 : syI s (n : Int) = sy s n := by unfold syI; rw [if_neg (by omega)]; rfl
    have e2 : wdI s (n : Int) = wd s n := by unfold wdI; rw [if_neg (by omega)]; rfl
    rw [e1, e2]; clear e1 e2 h0
    by_cases hn : n < s.size
    · have hseq := Lib.hid (seq_any s n w hs hn)
      have hb0 := Lib.hid (bt_eq s n hn)
      have hq4 := sqn_le (s := s) (i := n)
      unfold maxLen at hs
      have L0 := Lib.hid (@sy_0 s n hn); have L1 := Lib.hid (@sy_1 s n hn); have L2 := Lib.hid (@sy_2 s n hn); have L3 := Lib.hid (@sy_3 s n hn); have L4 := Lib.hid (@sy_4 s n hn)
      generalize sqn s n = q at *
      generalize hw : wd s n = v at *
      generalize hy : sy s n = y at *
      clear hw hy
      have hn' : (n : Int) < (s.size : Int) := by omega
      have g0 := (s[n]'hn).toNat_lt
      rcases (show q = 0 ∨ q = 1 ∨ q = 2 ∨ q = 3 ∨ q = 4 by omega) with rfl | rfl | rfl | rfl | rfl
      · obtain ⟨rfl, hy⟩ := L0.out rfl
        have Y := Lib.hid hy; clear hy L0 L1 L2 L3 L4
        go_enter Tryd.func17, Tryd.ntmps17
        go_wp2_with (go_at_call 39; refine hseq.out.mono ?_; rintro e w' ⟨rfl, rfl⟩)
        go_ret2
        exact ⟨ret2 (by rw [Y.out, hb0.out]) rfl, Below.refl _ _⟩
      · obtain ⟨rfl, hy⟩ := L1.out rfl
        have Y := Lib.hid hy; clear hy L0 L1 L2 L3 L4
        go_enter Tryd.func17, Tryd.ntmps17
        go_wp2_with (go_at_call 39; refine hseq.out.mono ?_; rintro e w' ⟨rfl, rfl⟩)
        go_ret2
        exact ⟨ret2 (by rw [Y.out, hb0.out]) rfl, Below.refl _ _⟩
      · obtain ⟨rfl, hf, hy⟩ := L2.out rfl
        have h1 : n + 1 < s.size := by omega
        have c1 : (n : Int) + 1 < (s.size : Int) := by omega
        have hb1 := Lib.hid (bt_eq s (n + 1) h1)
        have x0 := b31 (s[n]'hn)
        have x1 := b63 (s[n + 1]'h1)
        have g1 := (s[n + 1]'h1).toNat_lt
        have Y := Lib.hid hy; clear hy L0 L1 L2 L3 L4
        have w1 : IntKind.i64.wrap ((n : Int) + 1) = (n : Int) + 1 := IntWalk.i64_in _ (by omega)
        have t1 : ((n : Int) + 1).toNat = n + 1 := by omega
        have p1 : 0 ≤ (n : Int) + 1 := by omega
        have u0 : IntKind.i64.wrap (((s[n]'hn).toNat : Int) % 32) = ((s[n]'hn).toNat : Int) % 32 := IntWalk.i64_in _ (by omega)
        have v0 : IntKind.i64.wrap (((s[n]'hn).toNat : Int) % 32 * 64) = ((s[n]'hn).toNat : Int) % 32 * 64 := IntWalk.i64_in _ (by omega)
        have u1 : IntKind.i64.wrap (((s[n + 1]'h1).toNat : Int) % 64) = ((s[n + 1]'h1).toNat : Int) % 64 := IntWalk.i64_in _ (by omega)
        have z1 : IntKind.i64.wrap (((s[n]'hn).toNat : Int) % 32 * 64 + ((s[n + 1]'h1).toNat : Int) % 64) = ((s[n]'hn).toNat : Int) % 32 * 64 + ((s[n + 1]'h1).toNat : Int) % 64 := IntWalk.i64_in _ (by omega)
        go_enter Tryd.func17, Tryd.ntmps17
        go_wp2_with (go_at_call 39; refine hseq.out.mono ?_; rintro e w' ⟨rfl, rfl⟩)
        go_quiet (fail)
        go_wp2
        go_ret2
        exact ⟨ret2 (by rw [Y.out, hb0.out, hb1.out]) rfl, below_drews (Below.refl _ _) _⟩
      · obtain ⟨rfl, hf, hy⟩ := L3.out rfl
        have h1 : n + 1 < s.size := by omega
        have c1 : (n : Int) + 1 < (s.size : Int) := by omega
        have hb1 := Lib.hid (bt_eq s (n + 1) h1)
        have h2 : n + 2 < s.size := by omega
        have c2 : (n : Int) + 2 < (s.size : Int) := by omega
        have hb2 := Lib.hid (bt_eq s (n + 2) h2)
        have x0 := b15 (s[n]'hn)
        have x1 := b63 (s[n + 1]'h1)
        have x2 := b63 (s[n + 2]'h2)
        have g1 := (s[n + 1]'h1).toNat_lt
        have g2 := (s[n + 2]'h2).toNat_lt
        have Y := Lib.hid hy; clear hy L0 L1 L2 L3 L4
        have w1 : IntKind.i64.wrap ((n : Int) + 1) = (n : Int) + 1 := IntWalk.i64_in _ (by omega)
        have t1 : ((n : Int) + 1).toNat = n + 1 := by omega
        have p1 : 0 ≤ (n : Int) + 1 := by omega
        have w2 : IntKind.i64.wrap ((n : Int) + 2) = (n : Int) + 2 := IntWalk.i64_in _ (by omega)
        have t2 : ((n : Int) + 2).toNat = n + 2 := by omega
        have p2 : 0 ≤ (n : Int) + 2 := by omega
        have u0 : IntKind.i64.wrap (((s[n]'hn).toNat : Int) % 16) = ((s[n]'hn).toNat : Int) % 16 := IntWalk.i64_in _ (by omega)
        have v0 : IntKind.i64.wrap (((s[n]'hn).toNat : Int) % 16 * 4096) = ((s[n]'hn).toNat : Int) % 16 * 4096 := IntWalk.i64_in _ (by omega)
        have u1 : IntKind.i64.wrap (((s[n + 1]'h1).toNat : Int) % 64) = ((s[n + 1]'h1).toNat : Int) % 64 := IntWalk.i64_in _ (by omega)
        have v1 : IntKind.i64.wrap (((s[n + 1]'h1).toNat : Int) % 64 * 64) = ((s[n + 1]'h1).toNat : Int) % 64 * 64 := IntWalk.i64_in _ (by omega)
        have z1 : IntKind.i64.wrap (((s[n]'hn).toNat : Int) % 16 * 4096 + ((s[n + 1]'h1).toNat : Int) % 64 * 64) = ((s[n]'hn).toNat : Int) % 16 * 4096 + ((s[n + 1]'h1).toNat : Int) % 64 * 64 := IntWalk.i64_in _ (by omega)
        have u2 : IntKind.i64.wrap (((s[n + 2]'h2).toNat : Int) % 64) = ((s[n + 2]'h2).toNat : Int) % 64 := IntWalk.i64_in _ (by omega)
        have z2 : IntKind.i64.wrap (((s[n]'hn).toNat : Int) % 16 * 4096 + ((s[n + 1]'h1).toNat : Int) % 64 * 64 + ((s[n + 2]'h2).toNat : Int) % 64) = ((s[n]'hn).toNat : Int) % 16 * 4096 + ((s[n + 1]'h1).toNat : Int) % 64 * 64 + ((s[n + 2]'h2).toNat : Int) % 64 := IntWalk.i64_in _ (by omega)
        go_enter Tryd.func17, Tryd.ntmps17
        go_wp2_with (go_at_call 39; refine hseq.out.mono ?_; rintro e w' ⟨rfl, rfl⟩)
        go_quiet (fail)
        go_wp2
        go_ret2
        exact ⟨ret2 (by rw [Y.out, hb0.out, hb1.out, hb2.out]) rfl, below_drews (Below.refl _ _) _⟩
      · obtain ⟨rfl, hf, hy⟩ := L4.out rfl
        have h1 : n + 1 < s.size := by omega
        have c1 : (n : Int) + 1 < (s.size : Int) := by omega
        have hb1 := Lib.hid (bt_eq s (n + 1) h1)
        have h2 : n + 2 < s.size := by omega
        have c2 : (n : Int) + 2 < (s.size : Int) := by omega
        have hb2 := Lib.hid (bt_eq s (n + 2) h2)
        have h3 : n + 3 < s.size := by omega
        have c3 : (n : Int) + 3 < (s.size : Int) := by omega
        have hb3 := Lib.hid (bt_eq s (n + 3) h3)
        have x0 := b7 (s[n]'hn)
        have x1 := b63 (s[n + 1]'h1)
        have x2 := b63 (s[n + 2]'h2)
        have x3 := b63 (s[n + 3]'h3)
        have g1 := (s[n + 1]'h1).toNat_lt
        have g2 := (s[n + 2]'h2).toNat_lt
        have g3 := (s[n + 3]'h3).toNat_lt
        have Y := Lib.hid hy; clear hy L0 L1 L2 L3 L4
        have w1 : IntKind.i64.wrap ((n : Int) + 1) = (n : Int) + 1 := IntWalk.i64_in _ (by omega)
        have t1 : ((n : Int) + 1).toNat = n + 1 := by omega
        have p1 : 0 ≤ (n : Int) + 1 := by omega
        have w2 : IntKind.i64.wrap ((n : Int) + 2) = (n : Int) + 2 := IntWalk.i64_in _ (by omega)
        have t2 : ((n : Int) + 2).toNat = n + 2 := by omega
        have p2 : 0 ≤ (n : Int) + 2 := by omega
        have w3 : IntKind.i64.wrap ((n : Int) + 3) = (n : Int) + 3 := IntWalk.i64_in _ (by omega)
        have t3 : ((n : Int) + 3).toNat = n + 3 := by omega
        have p3 : 0 ≤ (n : Int) + 3 := by omega
        have u0 : IntKind.i64.wrap (((s[n]'hn).toNat : Int) % 8) = ((s[n]'hn).toNat : Int) % 8 := IntWalk.i64_in _ (by omega)
        have v0 : IntKind.i64.wrap (((s[n]'hn).toNat : Int) % 8 * 262144) = ((s[n]'hn).toNat : Int) % 8 * 262144 := IntWalk.i64_in _ (by omega)
        have u1 : IntKind.i64.wrap (((s[n + 1]'h1).toNat : Int) % 64) = ((s[n + 1]'h1).toNat : Int) % 64 := IntWalk.i64_in _ (by omega)
        have v1 : IntKind.i64.wrap (((s[n + 1]'h1).toNat : Int) % 64 * 4096) = ((s[n + 1]'h1).toNat : Int) % 64 * 4096 := IntWalk.i64_in _ (by omega)
        have z1 : IntKind.i64.wrap (((s[n]'hn).toNat : Int) % 8 * 262144 + ((s[n + 1]'h1).toNat : Int) % 64 * 4096) = ((s[n]'hn).toNat : Int) % 8 * 262144 + ((s[n + 1]'h1).toNat : Int) % 64 * 4096 := IntWalk.i64_in _ (by omega)
        have u2 : IntKind.i64.wrap (((s[n + 2]'h2).toNat : Int) % 64) = ((s[n + 2]'h2).toNat : Int) % 64 := IntWalk.i64_in _ (by omega)
        have v2 : IntKind.i64.wrap (((s[n + 2]'h2).toNat : Int) % 64 * 64) = ((s[n + 2]'h2).toNat : Int) % 64 * 64 := IntWalk.i64_in _ (by omega)
        have z2 : IntKind.i64.wrap (((s[n]'hn).toNat : Int) % 8 * 262144 + ((s[n + 1]'h1).toNat : Int) % 64 * 4096 + ((s[n + 2]'h2).toNat : Int) % 64 * 64) = ((s[n]'hn).toNat : Int) % 8 * 262144 + ((s[n + 1]'h1).toNat : Int) % 64 * 4096 + ((s[n + 2]'h2).toNat : Int) % 64 * 64 := IntWalk.i64_in _ (by omega)
        have u3 : IntKind.i64.wrap (((s[n + 3]'h3).toNat : Int) % 64) = ((s[n + 3]'h3).toNat : Int) % 64 := IntWalk.i64_in _ (by omega)
        have z3 : IntKind.i64.wrap (((s[n]'hn).toNat : Int) % 8 * 262144 + ((s[n + 1]'h1).toNat : Int) % 64 * 4096 + ((s[n + 2]'h2).toNat : Int) % 64 * 64 + ((s[n + 3]'h3).toNat : Int) % 64) = ((s[n]'hn).toNat : Int) % 8 * 262144 + ((s[n + 1]'h1).toNat : Int) % 64 * 4096 + ((s[n + 2]'h2).toNat : Int) % 64 * 64 + ((s[n + 3]'h3).toNat : Int) % 64 := IntWalk.i64_in _ (by omega)
        go_enter Tryd.func17, Tryd.ntmps17
        go_wp2_with (go_at_call 39; refine hseq.out.mono ?_; rintro e w' ⟨rfl, rfl⟩)
        go_quiet (fail)
        go_wp2
        go_ret2
        exact ⟨ret2 (by rw [Y.out, hb0.out, hb1.out, hb2.out, hb3.out]) rfl, below_drews (Below.refl _ _) _⟩
    · have e1 : sy s n = -1 := by unfold sy; rw [if_neg hn]
      have e2 : wd s n = 0 := wd_out (by omega)
      rw [e1, e2]; clear e1 e2
      have hn' : (s.size : Int) ≤ n := by omega
      go_enter Tryd.func17, Tryd.ntmps17
      go_wp2
      go_ret2
      exact ⟨rfl, Below.refl _ _⟩

theorem get_lt (s : ByteArray) (k : Nat) (h : k < s.size) : s.get! k = s[k]'h := by cases s with | mk d => exact getElem!_pos d k h
theorem get_ge (s : ByteArray) (k : Nat) (h : ¬ k < s.size) : s.get! k = default := by cases s with | mk d => exact getElem!_neg d k h
theorem get_extract (s : ByteArray) (n k : Nat) (hn : n ≤ s.size) : (s.extract n s.size).get! k = s.get! (n + k) := by
  have hz : (s.extract n s.size).size = s.size - n := by rw [ByteArray.size_extract]; omega
  by_cases h : n + k < s.size
  · have h1 : k < (s.extract n s.size).size := by omega
    rw [get_lt _ _ h1, get_lt _ _ h, ByteArray.getElem_extract]
  · rw [get_ge _ _ (by omega), get_ge _ _ h]
theorem decodeGo_at (s : ByteArray) (n : Nat) (hn : n < s.size) : Lib.decodeGo (s.extract n s.size) = Lib.decodeN (s.size - n) (bt s n) (bt s (n + 1)) (bt s (n + 2)) (bt s (n + 3)) := by
  have hz : (s.extract n s.size).size = s.size - n := by rw [ByteArray.size_extract]; omega
  unfold Lib.decodeGo
  rw [if_neg (by omega), Lib.decode_at, get_extract s n 0 (by omega), get_extract s n (0 + 1) (by omega), get_extract s n (0 + 2) (by omega), get_extract s n (0 + 3) (by omega), hz]
  rfl
/-- The library's answer, in the words of width and symbol. -/
theorem decode_big (s : ByteArray) (n : Nat) (hn : n < s.size) (hb : 128 ≤ bt s n) : (Lib.decodeGo (s.extract n s.size)).2 = wd s n ∧ (wd s n = 1 → sy s n = 1114112 + (bt s n : Int)) ∧ (wd s n ≠ 1 → ((Lib.decodeGo (s.extract n s.size)).1 : Int) = sy s n) := by
  have e := decodeGo_at s n hn
  have hw : wd s n = (Lib.decodeN (s.size - n) (bt s n) (bt s (n + 1)) (bt s (n + 2)) (bt s (n + 3))).2 := by unfold wd; rw [if_pos hn]
  rw [e, ← hw]
  refine ⟨rfl, fun h => ?_, fun h => ?_⟩
  · unfold sy; rw [if_pos hn, if_pos h, if_neg (by omega)]
  · unfold sy; rw [if_pos hn, if_neg h]
set_option maxHeartbeats 1000000 in
set_option maxRecDepth 100000 in
theorem at_any (s : ByteArray) (i : Int) (w : World) (hT : Lib.Utf8Tabs 0 1 w) :
    Calls Tryd.prog 37 #[.string s, .int .i64 i] w fun e w' => e = .returned (.tuple #[.int .i64 (syI s i), .int .i64 (wdI s i)]) ∧ Below w.heap.size w w' := by
  by_cases h0 : i < 0
  · have e1 : syI s i = -1 := by unfold syI; rw [if_pos h0]
    have e2 : wdI s i = 0 := by unfold wdI; rw [if_pos h0]
    rw [e1, e2]; clear e1 e2 hT
    go_enter Tryd.func37, Tryd.ntmps37
    go_wp2
    go_ret2
    exact ⟨rfl, Below.refl _ _⟩
  · obtain ⟨n, rfl⟩ := Int.eq_ofNat_of_zero_le (show 0 ≤ i by omega)
    have e1 : syI s (n : Int) = sy s n := by unfold syI; rw [if_neg (by omega)]; rfl
    have e2 : wdI s (n : Int) = wd s n := by unfold wdI; rw [if_neg (by omega)]; rfl
    rw [e1, e2]; clear e1 e2 h0
    by_cases hn : n < s.size
    · have hb0 := bt_eq s n hn
      have hdec := Lib.hid (Tryd.utf8_DecodeRuneInString (s.extract n s.size) w hT)
      have hbig := decode_big s n hn
      have hwr := sy_range hn
      have hwl := wd_le s n
      have hasc : bt s n < 128 → wd s n = 1 ∧ sy s n = (bt s n : Int) := fun h => by
        have hw : wd s n = 1 := by unfold wd Lib.decodeN; rw [if_pos hn, if_pos h]
        exact ⟨hw, by unfold sy; rw [if_pos hn, if_pos hw, if_pos h]⟩
      rw [hb0] at hbig hasc
      have g0 := (s[n]'hn).toNat_lt
      have hn' : (n : Int) < (s.size : Int) := by omega
      clear hT hb0
      by_cases ha : (s[n]'hn).toNat < 128
      · obtain ⟨e1, e2⟩ := hasc ha
        rw [e1, e2]; clear e1 e2 hbig hasc hwr hwl
        go_enter Tryd.func37, Tryd.ntmps37
        go_wp2
        go_ret2
        exact ⟨rfl, Below.refl _ _⟩
      · obtain ⟨d1, d2, d3⟩ := hbig (by omega)
        clear hasc hbig
        generalize Lib.decodeGo (s.extract n s.size) = D at *
        obtain ⟨r, v⟩ := D
        dsimp only at *
        subst d1
        have ha' : 128 ≤ (s[n]'hn).toNat := by omega
        by_cases hv : wd s n = 1
        · have Y := Lib.hid (d2 hv)
          clear d2 d3 ha hwr
          generalize wd s n = v at *
          subst hv
          go_enter Tryd.func37, Tryd.ntmps37
          go_wp2_with (go_at_call 55; refine hdec.out.mono ?_; rintro e w' ⟨rfl, hbl⟩)
          go_ret2
          exact ⟨ret2 (by rw [Y.out]) rfl, hbl⟩
        · have Y := d3 hv
          generalize wd s n = v at *
          generalize sy s n = y at *
          subst Y
          have hv' : ((v : Int) == 1) = false := by simp; omega
          clear d2 d3 hv ha
          go_enter Tryd.func37, Tryd.ntmps37
          go_wp2_with (go_at_call 55; refine hdec.out.mono ?_; rintro e w' ⟨rfl, hbl⟩)
          go_ret2
          exact ⟨rfl, hbl⟩
    · have e1 : sy s n = -1 := by unfold sy; rw [if_neg hn]
      have e2 : wd s n = 0 := wd_out (by omega)
      rw [e1, e2]; clear e1 e2 hT
      have hn' : (s.size : Int) ≤ n := by omega
      go_enter Tryd.func37, Tryd.ntmps37
      go_wp2
      go_ret2
      exact ⟨rfl, Below.refl _ _⟩
end Go.Proofs.YtdpjcbljeklhmaaDoor.U
