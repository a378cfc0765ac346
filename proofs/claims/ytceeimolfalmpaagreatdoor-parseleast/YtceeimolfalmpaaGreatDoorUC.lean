/-
  What row, seq and At of the page's own, and At of utf, answer at every text and place. Conditions: a text of at most maxLen bytes; for utf's At: the two tables of unicode/utf8 lie as their text lays them.
  What At of the page's own and At of utf answer at every text and place, and what Cut and Within answer. Conditions: a text of at most maxLen bytes; for utf's At: the two tables of unicode/utf8 lie as their text lays them.
  What Is and Before of utf answer at every text and place. Conditions: a text of at most maxLen bytes; the two tables of unicode/utf8 lie as their text lays them.
  What Cut, Within, Ints and EqInts answer: a text's beginning, a number's rest, a list's beginning, whether two lists are the same. Conditions: lists of at most 1000000 numbers whose cells lie below a block.
-/
import Derived.Test.YtceeimolfalmpaaGreatDoorUB
import Derived.Test.YtceeimolfalmpaaGreatDoorUA
import Derived.Test.YtceeimolfalmpaaGreatDoorUShelf
import Derived.Deep.QuietTactic
import Derived.BigQuiet
import Derived.Lib.Hide
import Derived.Laws.BitsAllLaws
import Derived.Laws.BitsLemmas
import Derived.IntWalk
namespace Go.Proofs.YtceeimolfalmpaaGreatDoor.U
open Go.RowKit ObUtf

theorem bt_eq (s : ByteArray) (i : Nat) (h : i < s.size) : bt s i = (s[i]'h).toNat := by
  unfold bt; rw [show s.get! i = s[i]'h from by cases s with | mk d => exact getElem!_pos d i h]
theorem ret3 {a b : Int} {c d e f : Int} (h1 : a = b) (h2 : c = d) (h3 : e = f) : Ending.returned (.tuple #[.int .i64 a, .int .u8 c, .int .u8 e]) = .returned (.tuple #[.int .i64 b, .int .u8 d, .int .u8 f]) := by rw [h1, h2, h3]
theorem ret2 {a b : Int} {c d : Int} (h1 : a = b) (h2 : c = d) : Ending.returned (.tuple #[.int .i64 a, .int .i64 c]) = .returned (.tuple #[.int .i64 b, .int .i64 d]) := by rw [h1, h2]

set_option maxHeartbeats 400000 in
set_option maxRecDepth 100000 in
theorem row_any (c : Nat) (w : World) (hc : c < 256) : Calls Tryz.prog 150 #[.int .u8 c] w fun e w' => e = .returned (.tuple #[.int .i64 (rowN c), .int .u8 (rowLo c), .int .u8 (rowHi c)]) ∧ w = w' := by
  rcases (show c < 128 ∨ (128 ≤ c ∧ c < 194) ∨ (194 ≤ c ∧ c ≤ 223) ∨ c = 224 ∨ (225 ≤ c ∧ c < 237) ∨ c = 237 ∨ (237 < c ∧ c ≤ 239) ∨ c = 240 ∨ (241 ≤ c ∧ c ≤ 243) ∨ c = 244 ∨ 244 < c by omega) with h | h | h | rfl | h | rfl | h | rfl | h | rfl | h
  all_goals first | (have h' : (128 : Int) ≤ (c : Int) := by omega) | skip
  all_goals (go_enter Tryz.func150, Tryz.ntmps150)
  all_goals go_wp2
  all_goals (go_ret3; refine ⟨ret3 ?_ ?_ ?_, rfl⟩)
  all_goals first | rfl | (unfold rowN; (repeat' split) <;> omega) | (unfold rowLo; (repeat' split) <;> omega) | (unfold rowHi; (repeat' split) <;> omega)

/-- The bytes from the third on that were looked at are such as continue. -/
def Conts (s : ByteArray) (i k : Nat) : Prop := ∀ j, 2 ≤ j → j < k → 128 ≤ bt s (i + j) ∧ bt s (i + j) ≤ 191
set_option maxHeartbeats 1000000 in
set_option maxRecDepth 100000 in
theorem seq_any (s : ByteArray) (i : Nat) (w : World) (hs : s.size ≤ maxLen) (hi : i < s.size) :
    Calls Tryz.prog 117 #[.string s, .int .i64 i] w fun e w' => e = .returned (.int .i64 (sqn s i)) ∧ w = w' := by
  unfold maxLen at hs
  have hN := rowN_le (bt s i)
  have hLo := rowLo_lt (bt s i)
  have hHi := rowHi_lt (bt s i)
  have L0 := @sqn_few s i hi
  have L1 := @sqn_short s i hi
  have L2 := @sqn_second s i hi
  have L3 := @sqn_later s i hi
  have L4 := @sqn_whole s i hi
  have hb0 := bt_eq s i hi
  have hrow := row_any (bt s i) w (bt_lt s i)
  rw [hb0] at hrow hN hLo hHi L0 L1 L2 L3 L4
  generalize (rowN (s[i]'hi).toNat) = n at *
  generalize (rowLo (s[i]'hi).toNat) = lo at *
  generalize (rowHi (s[i]'hi).toNat) = hh at *
  generalize hq : sqn s i = q at *
  have H0 := Lib.hid L0; have H1 := Lib.hid L1; have H2 := Lib.hid L2; have H3 := Lib.hid L3; have H4 := Lib.hid L4
  have HR := Lib.hid hrow
  clear L0 L1 L2 L3 L4 hrow hb0 hq
  by_cases hn : n < 2
  · go_enter Tryz.func117, Tryz.ntmps117
    go_wp2_with (go_at_call 150; refine HR.out.mono ?_; rintro e w' ⟨rfl, rfl⟩)
    go_ret
    exact ⟨ret_int (by rw [H0.out hn]), rfl⟩
  · by_cases hl : s.size - i < n
    · have hl' : (s.size : Int) - i < n := by omega
      go_enter Tryz.func117, Tryz.ntmps117
      go_wp2_with (go_at_call 150; refine HR.out.mono ?_; rintro e w' ⟨rfl, rfl⟩)
      go_ret
      exact ⟨ret_int (by rw [H1.out (by omega) hl]; rfl), rfl⟩
    · have hl' : (n : Int) ≤ (s.size : Int) - i := by omega
      have hi1 : i + 1 < s.size := by omega
      have hb1 := Lib.hid (bt_eq s (i + 1) hi1)
      have hdl : decide ((s.size : Int) - i < n) = false := by simp; omega
      have hdn : decide ((n : Int) < 2) = false := by simp; omega
      by_cases hlo : (s[i + 1]'hi1).toNat < lo
      · have hd : decide ((s[i + 1]'hi1).toNat < lo) = true := by simp [hlo]
        go_enter Tryz.func117, Tryz.ntmps117
        go_wp2_with (go_at_call 150; refine HR.out.mono ?_; rintro e w' ⟨rfl, rfl⟩)
        go_ret
        exact ⟨ret_int (by rw [H2.out (by omega) (Or.inl (by rw [hb1.out]; exact hlo))]; rfl), rfl⟩
      · have hd : decide ((s[i + 1]'hi1).toNat < lo) = false := by simp; omega
        by_cases hhi : hh < (s[i + 1]'hi1).toNat
        · have hd2 : decide (hh < (s[i + 1]'hi1).toNat) = true := by simp [hhi]
          go_enter Tryz.func117, Tryz.ntmps117
          go_wp2_with (go_at_call 150; refine HR.out.mono ?_; rintro e w' ⟨rfl, rfl⟩)
          go_ret
          exact ⟨ret_int (by rw [H2.out (by omega) (Or.inr (by rw [hb1.out]; exact hhi))]; rfl), rfl⟩
        · have hd2 : decide (hh < (s[i + 1]'hi1).toNat) = false := by simp; omega
          go_enter Tryz.func117, Tryz.ntmps117
          go_wp2_with (go_at_call 150; refine HR.out.mono ?_; rintro e w' ⟨rfl, rfl⟩)
          go_loop [8] (fun t => ∃ k : Nat, 2 ≤ k ∧ k ≤ n ∧ t = .int .i64 k ∧ Conts s i k) (fun t => n - (intOf t).toNat)
          case atStart => exact ⟨2, by omega, by omega, rfl, fun j h1 h2 => by omega⟩
          case round =>
            obtain ⟨k, hk1, hk2, rfl, hc⟩ := hrel
            have HC := Lib.hid hc
            clear hc
            by_cases hkn : k < n
            · have hik : i + k < s.size := by omega
              have hbk := Lib.hid (bt_eq s (i + k) hik)
              have hdk : decide (k < n) = true := by simp [hkn]
              by_cases hbad : (s[i + k]'hik).toNat < 128 ∨ 191 < (s[i + k]'hik).toNat
              · rcases hbad with hbad | hbad
                · go_wp2
                  go_ret
                  exact ⟨ret_int (by rw [H3.out (by omega) (k := k) hk1 hkn (by rw [hbk.out]; exact Or.inl hbad)]; rfl), rfl⟩
                · go_wp2
                  go_ret
                  exact ⟨ret_int (by rw [H3.out (by omega) (k := k) hk1 hkn (by rw [hbk.out]; exact Or.inr hbad)]; rfl), rfl⟩
              · have g1 : 128 ≤ (s[i + k]'hik).toNat := by omega
                have g2 : (s[i + k]'hik).toNat ≤ 191 := by omega
                clear hbad
                go_wp2
                go_round
                case rel => exact ⟨k + 1, by omega, by omega, by go_num, fun j h1 h2 => by
                  rcases Nat.lt_or_ge j k with h3 | h3
                  · exact HC.out j h1 h3
                  · obtain rfl : j = k := by omega
                    rw [hbk.out]; exact ⟨g1, g2⟩⟩
                case measure => simp [intOf]; omega
            · have hdk : decide (k < n) = false := by simp; omega
              go_wp2
              go_ret
              obtain rfl : k = n := by omega
              exact ⟨ret_int (by rw [H4.out (by omega) (by omega) (by rw [hb1.out]; omega) (by rw [hb1.out]; omega) HC.out]), rfl⟩
end Go.Proofs.YtceeimolfalmpaaGreatDoor.U

namespace Go.Proofs.YtceeimolfalmpaaGreatDoor.U
open Go.RowKit ObUtf

def syI (s : ByteArray) (i : Int) : Int := if i < 0 then -1 else sy s i.toNat
def wdI (s : ByteArray) (i : Int) : Int := if i < 0 then 0 else (wd s i.toNat : Int)
set_option maxRecDepth 100000 in
theorem a31 : ∀ x : Fin 256, bits .and .u8 ((x.val : Nat) : Int) 31 = ((x.val : Nat) : Int) % 32 := by decide
set_option maxRecDepth 100000 in
theorem a15 : ∀ x : Fin 256, bits .and .u8 ((x.val : Nat) : Int) 15 = ((x.val : Nat) : Int) % 16 := by decide
set_option maxRecDepth 100000 in
theorem a7 : ∀ x : Fin 256, bits .and .u8 ((x.val : Nat) : Int) 7 = ((x.val : Nat) : Int) % 8 := by decide
set_option maxRecDepth 100000 in
theorem a63 : ∀ x : Fin 256, bits .and .u8 ((x.val : Nat) : Int) 63 = ((x.val : Nat) : Int) % 64 := by decide
theorem b31 (x : UInt8) : bits .and .u8 (x.toNat : Int) 31 = (x.toNat : Int) % 32 := a31 ⟨x.toNat, x.toNat_lt⟩
theorem b15 (x : UInt8) : bits .and .u8 (x.toNat : Int) 15 = (x.toNat : Int) % 16 := a15 ⟨x.toNat, x.toNat_lt⟩
theorem b7 (x : UInt8) : bits .and .u8 (x.toNat : Int) 7 = (x.toNat : Int) % 8 := a7 ⟨x.toNat, x.toNat_lt⟩
theorem b63 (x : UInt8) : bits .and .u8 (x.toNat : Int) 63 = (x.toNat : Int) % 64 := a63 ⟨x.toNat, x.toNat_lt⟩
theorem below_drews {B : Nat} {a w : World} (h : Below B a w) (n : Nat) : Below B a (w.drewN n) := ⟨h.os, h.tape, h.output, h.size, h.block⟩

set_option maxHeartbeats 1000000 in
set_option maxRecDepth 100000 in
theorem rat_any (s : ByteArray) (i : Int) (w : World) (hs : s.size ≤ maxLen) :
    Calls Tryz.prog 74 #[.string s, .int .i64 i] w fun e w' => e = .returned (.tuple #[.int .i64 (syI s i), .int .i64 (wdI s i)]) ∧ Below w.heap.size w w' := by
  by_cases h0 : i < 0
  · have e1 : syI s i = -1 := by unfold syI; rw [if_pos h0]
    have e2 : wdI s i = 0 := by unfold wdI; rw [if_pos h0]
    rw [e1, e2]; clear e1 e2
    go_enter Tryz.func74, Tryz.ntmps74
    go_wp2
    go_ret2
    exact ⟨rfl, Below.refl _ _⟩
  · obtain ⟨n, rfl⟩ := Int.eq_ofNat_of_zero_le (show 0 ≤ i by omega)
    have e1 : syI s (n : Int) = sy s n := by unfold syI; rw [if_neg (by omega)]; rfl
    have e2 : wdI s (n : Int) = wd s n := by unfold wdI; rw [if_neg (by omega)]; rfl
    rw [e1, e2]; clear e1 e2 h0
    by_cases hn : n < s.size
    · have hseq := Lib.hid (seq_any s n w hs hn)
      have hb0 := Lib.hid (bt_eq s n hn)
      have hq4 := sqn_le (s := s) (i := n)
      unfold maxLen at hs
      have L0 := Lib.hid (@sy_0 s n hn); have L1 := Lib.hid (@sy_1 s n hn); have L2 := Lib.hid (@sy_2 s n hn); have L3 := Lib.hid (@sy_3 s n hn); have L4 := Lib.hid (@sy_4 s n hn)
      generalize sqn s n = q at *
      generalize hw : wd s n = v at *
      generalize hy : sy s n = y at *
      clear hw hy
      have hn' : (n : Int) < (s.size : Int) := by omega
      have g0 := (s[n]'hn).toNat_lt
      rcases (show q = 0 ∨ q = 1 ∨ q = 2 ∨ q = 3 ∨ q = 4 by omega) with rfl | rfl | rfl | rfl | rfl
      · obtain ⟨rfl, hy⟩ := L0.out rfl
        have Y := Lib.hid hy; clear hy L0 L1 L2 L3 L4
        go_enter Tryz.func74, Tryz.ntmps74
        go_wp2_with (go_at_call 117; refine hseq.out.mono ?_; rintro e w' ⟨rfl, rfl⟩)
        go_ret2
        exact ⟨ret2 (by rw [Y.out, hb0.out]) rfl, Below.refl _ _⟩
      · obtain ⟨rfl, hy⟩ := L1.out rfl
        have Y := Lib.hid hy; clear hy L0 L1 L2 L3 L4
        go_enter Tryz.func74, Tryz.ntmps74
        go_wp2_with (go_at_call 117; refine hseq.out.mono ?_; rintro e w' ⟨rfl, rfl⟩)
        go_ret2
        exact ⟨ret2 (by rw [Y.out, hb0.out]) rfl, Below.refl _ _⟩
      · obtain ⟨rfl, hf, hy⟩ := L2.out rfl
        have h1 : n + 1 < s.size := by omega
        have c1 : (n : Int) + 1 < (s.size : Int) := by omega
        have hb1 := Lib.hid (bt_eq s (n + 1) h1)
        have x0 := b31 (s[n]'hn)
        have x1 := b63 (s[n + 1]'h1)
        have g1 := (s[n + 1]'h1).toNat_lt
        have Y := Lib.hid hy; clear hy L0 L1 L2 L3 L4
        have w1 : IntKind.i64.wrap ((n : Int) + 1) = (n : Int) + 1 := IntWalk.i64_in _ (by omega)
        have t1 : ((n : Int) + 1).toNat = n + 1 := by omega
        have p1 : 0 ≤ (n : Int) + 1 := by omega
        have u0 : IntKind.i64.wrap (((s[n]'hn).toNat : Int) % 32) = ((s[n]'hn).toNat : Int) % 32 := IntWalk.i64_in _ (by omega)
        have v0 : IntKind.i64.wrap (((s[n]'hn).toNat : Int) % 32 * 64) = ((s[n]'hn).toNat : Int) % 32 * 64 := IntWalk.i64_in _ (by omega)
        have u1 : IntKind.i64.wrap (((s[n + 1]'h1).toNat : Int) % 64) = ((s[n + 1]'h1).toNat : Int) % 64 := IntWalk.i64_in _ (by omega)
        have z1 : IntKind.i64.wrap (((s[n]'hn).toNat : Int) % 32 * 64 + ((s[n + 1]'h1).toNat : Int) % 64) = ((s[n]'hn).toNat : Int) % 32 * 64 + ((s[n + 1]'h1).toNat : Int) % 64 := IntWalk.i64_in _ (by omega)
        go_enter Tryz.func74, Tryz.ntmps74
        go_wp2_with (go_at_call 117; refine hseq.out.mono ?_; rintro e w' ⟨rfl, rfl⟩)
        go_quiet (fail)
        go_wp2
        go_ret2
        exact ⟨ret2 (by rw [Y.out, hb0.out, hb1.out]) rfl, below_drews (Below.refl _ _) _⟩
      · obtain ⟨rfl, hf, hy⟩ := L3.out rfl
        have h1 : n + 1 < s.size := by omega
        have c1 : (n : Int) + 1 < (s.size : Int) := by omega
        have hb1 := Lib.hid (bt_eq s (n + 1) h1)
        have h2 : n + 2 < s.size := by omega
        have c2 : (n : Int) + 2 < (s.size : Int) := by omega
        have hb2 := Lib.hid (bt_eq s (n + 2) h2)
        have x0 := b15 (s[n]'hn)
        have x1 := b63 (s[n + 1]'h1)
        have x2 := b63 (s[n + 2]'h2)
        have g1 := (s[n + 1]'h1).toNat_lt
        have g2 := (s[n + 2]'h2).toNat_lt
        have Y := Lib.hid hy; clear hy L0 L1 L2 L3 L4
        have w1 : IntKind.i64.wrap ((n : Int) + 1) = (n : Int) + 1 := IntWalk.i64_in _ (by omega)
        have t1 : ((n : Int) + 1).toNat = n + 1 := by omega
        have p1 : 0 ≤ (n : Int) + 1 := by omega
        have w2 : IntKind.i64.wrap ((n : Int) + 2) = (n : Int) + 2 := IntWalk.i64_in _ (by omega)
        have t2 : ((n : Int) + 2).toNat = n + 2 := by omega
        have p2 : 0 ≤ (n : Int) + 2 := by omega
        have u0 : IntKind.i64.wrap (((s[n]'hn).toNat : Int) % 16) = ((s[n]'hn).toNat : Int) % 16 := IntWalk.i64_in _ (by omega)
        have v0 : IntKind.i64.wrap (((s[n]'hn).toNat : Int) % 16 * 4096) = ((s[n]'hn).toNat : Int) % 16 * 4096 := IntWalk.i64_in _ (by omega)
        have u1 : IntKind.i64.wrap (((s[n + 1]'h1).toNat : Int) % 64) = ((s[n + 1]'h1).toNat : Int) % 64 := IntWalk.i64_in _ (by omega)
        have v1 : IntKind.i64.wrap (((s[n + 1]'h1).toNat : Int) % 64 * 64) = ((s[n + 1]'h1).toNat : Int) % 64 * 64 := IntWalk.i64_in _ (by omega)
        have z1 : IntKind.i64.wrap (((s[n]'hn).toNat : Int) % 16 * 4096 + ((s[n + 1]'h1).toNat : Int) % 64 * 64) = ((s[n]'hn).toNat : Int) % 16 * 4096 + ((s[n + 1]'h1).toNat : Int) % 64 * 64 := IntWalk.i64_in _ (by omega)
        have u2 : IntKind.i64.wrap (((s[n + 2]'h2).toNat : Int) % 64) = ((s[n + 2]'h2).toNat : Int) % 64 := IntWalk.i64_in _ (by omega)
        have z2 : IntKind.i64.wrap (((s[n]'hn).toNat : Int) % 16 * 4096 + ((s[n + 1]'h1).toNat : Int) % 64 * 64 + ((s[n + 2]'h2).toNat : Int) % 64) = ((s[n]'hn).toNat : Int) % 16 * 4096 + ((s[n + 1]'h1).toNat : Int) % 64 * 64 + ((s[n + 2]'h2).toNat : Int) % 64 := IntWalk.i64_in _ (by omega)
        go_enter Tryz.func74, Tryz.ntmps74
        go_wp2_with (go_at_call 117; refine hseq.out.mono ?_; rintro e w' ⟨rfl, rfl⟩)
        go_quiet (fail)
        go_wp2
        go_ret2
        exact ⟨ret2 (by rw [Y.out, hb0.out, hb1.out, hb2.out]) rfl, below_drews (Below.refl _ _) _⟩
      · obtain ⟨rfl, hf, hy⟩ := L4.out rfl
        have h1 : n + 1 < s.size := by omega
        have c1 : (n : Int) + 1 < (s.size : Int) := by omega
        have hb1 := Lib.hid (bt_eq s (n + 1) h1)
        have h2 : n + 2 < s.size := by omega
        have c2 : (n : Int) + 2 < (s.size : Int) := by omega
        have hb2 := Lib.hid (bt_eq s (n + 2) h2)
        have h3 : n + 3 < s.size := by omega
        have c3 : (n : Int) + 3 < (s.size : Int) := by omega
        have hb3 := Lib.hid (bt_eq s (n + 3) h3)
        have x0 := b7 (s[n]'hn)
        have x1 := b63 (s[n + 1]'h1)
        have x2 := b63 (s[n + 2]'h2)
        have x3 := b63 (s[n + 3]'h3)
        have g1 := (s[n + 1]'h1).toNat_lt
        have g2 := (s[n + 2]'h2).toNat_lt
        have g3 := (s[n + 3]'h3).toNat_lt
        have Y := Lib.hid hy; clear hy L0 L1 L2 L3 L4
        have w1 : IntKind.i64.wrap ((n : Int) + 1) = (n : Int) + 1 := IntWalk.i64_in _ (by omega)
        have t1 : ((n : Int) + 1).toNat = n + 1 := by omega
        have p1 : 0 ≤ (n : Int) + 1 := by omega
        have w2 : IntKind.i64.wrap ((n : Int) + 2) = (n : Int) + 2 := IntWalk.i64_in _ (by omega)
        have t2 : ((n : Int) + 2).toNat = n + 2 := by omega
        have p2 : 0 ≤ (n : Int) + 2 := by omega
        have w3 : IntKind.i64.wrap ((n : Int) + 3) = (n : Int) + 3 := IntWalk.i64_in _ (by omega)
        have t3 : ((n : Int) + 3).toNat = n + 3 := by omega
        have p3 : 0 ≤ (n : Int) + 3 := by omega
        have u0 : IntKind.i64.wrap (((s[n]'hn).toNat : Int) % 8) = ((s[n]'hn).toNat : Int) % 8 := IntWalk.i64_in _ (by omega)
        have v0 : IntKind.i64.wrap (((s[n]'hn).toNat : Int) % 8 * 262144) = ((s[n]'hn).toNat : Int) % 8 * 262144 := IntWalk.i64_in _ (by omega)
        have u1 : IntKind.i64.wrap (((s[n + 1]'h1).toNat : Int) % 64) = ((s[n + 1]'h1).toNat : Int) % 64 := IntWalk.i64_in _ (by omega)
        have v1 : IntKind.i64.wrap (((s[n + 1]'h1).toNat : Int) % 64 * 4096) = ((s[n + 1]'h1).toNat : Int) % 64 * 4096 := IntWalk.i64_in _ (by omega)
        have z1 : IntKind.i64.wrap (((s[n]'hn).toNat : Int) % 8 * 262144 + ((s[n + 1]'h1).toNat : Int) % 64 * 4096) = ((s[n]'hn).toNat : Int) % 8 * 262144 + ((s[n + 1]'h1).toNat : Int) % 64 * 4096 := IntWalk.i64_in _ (by omega)
        have u2 : IntKind.i64.wrap (((s[n + 2]'h2).toNat : Int) % 64) = ((s[n + 2]'h2).toNat : Int) % 64 := IntWalk.i64_in _ (by omega)
        have v2 : IntKind.i64.wrap (((s[n + 2]'h2).toNat : Int) % 64 * 64) = ((s[n + 2]'h2).toNat : Int) % 64 * 64 := IntWalk.i64_in _ (by omega)
        have z2 : IntKind.i64.wrap (((s[n]'hn).toNat : Int) % 8 * 262144 + ((s[n + 1]'h1).toNat : Int) % 64 * 4096 + ((s[n + 2]'h2).toNat : Int) % 64 * 64) = ((s[n]'hn).toNat : Int) % 8 * 262144 + ((s[n + 1]'h1).toNat : Int) % 64 * 4096 + ((s[n + 2]'h2).toNat : Int) % 64 * 64 := IntWalk.i64_in _ (by omega)
        have u3 : IntKind.i64.wrap (((s[n + 3]'h3).toNat : Int) % 64) = ((s[n + 3]'h3).toNat : Int) % 64 := IntWalk.i64_in _ (by omega)
        have z3 : IntKind.i64.wrap (((s[n]'hn).toNat : Int) % 8 * 262144 + ((s[n + 1]'h1).toNat : Int) % 64 * 4096 + ((s[n + 2]'h2).toNat : Int) % 64 * 64 + ((s[n + 3]'h3).toNat : Int) % 64) = ((s[n]'hn).toNat : Int) % 8 * 262144 + ((s[n + 1]'h1).toNat : Int) % 64 * 4096 + ((s[n + 2]'h2).toNat : Int) % 64 * 64 + ((s[n + 3]'h3).toNat : Int) % 64 := IntWalk.i64_in _ (by omega)
        go_enter Tryz.func74, Tryz.ntmps74
        go_wp2_with (go_at_call 117; refine hseq.out.mono ?_; rintro e w' ⟨rfl, rfl⟩)
        go_quiet (fail)
        go_wp2
        go_ret2
        exact ⟨ret2 (by rw [Y.out, hb0.out, hb1.out, hb2.out, hb3.out]) rfl, below_drews (Below.refl _ _) _⟩
    · have e1 : sy s n = -1 := by unfold sy; rw [if_neg hn]
      have e2 : wd s n = 0 := wd_out (by omega)
      rw [e1, e2]; clear e1 e2
      have hn' : (s.size : Int) ≤ n := by omega
      go_enter Tryz.func74, Tryz.ntmps74
      go_wp2
      go_ret2
      exact ⟨rfl, Below.refl _ _⟩

theorem get_lt (s : ByteArray) (k : Nat) (h : k < s.size) : s.get! k = s[k]'h := by cases s with | mk d => exact getElem!_pos d k h
theorem get_ge (s : ByteArray) (k : Nat) (h : ¬ k < s.size) : s.get! k = default := by cases s with | mk d => exact getElem!_neg d k h
theorem get_extract (s : ByteArray) (n k : Nat) (hn : n ≤ s.size) : (s.extract n s.size).get! k = s.get! (n + k) := by
  have hz : (s.extract n s.size).size = s.size - n := by rw [ByteArray.size_extract]; omega
  by_cases h : n + k < s.size
  · have h1 : k < (s.extract n s.size).size := by omega
    rw [get_lt _ _ h1, get_lt _ _ h, ByteArray.getElem_extract]
  · rw [get_ge _ _ (by omega), get_ge _ _ h]
theorem decodeGo_at (s : ByteArray) (n : Nat) (hn : n < s.size) : Lib.decodeGo (s.extract n s.size) = Lib.decodeN (s.size - n) (bt s n) (bt s (n + 1)) (bt s (n + 2)) (bt s (n + 3)) := by
  have hz : (s.extract n s.size).size = s.size - n := by rw [ByteArray.size_extract]; omega
  unfold Lib.decodeGo
  rw [if_neg (by omega), Lib.decode_at, get_extract s n 0 (by omega), get_extract s n (0 + 1) (by omega), get_extract s n (0 + 2) (by omega), get_extract s n (0 + 3) (by omega), hz]
  rfl
/-- The library's answer, in the words of width and symbol. -/
theorem decode_big (s : ByteArray) (n : Nat) (hn : n < s.size) (hb : 128 ≤ bt s n) : (Lib.decodeGo (s.extract n s.size)).2 = wd s n ∧ (wd s n = 1 → sy s n = 1114112 + (bt s n : Int)) ∧ (wd s n ≠ 1 → ((Lib.decodeGo (s.extract n s.size)).1 : Int) = sy s n) := by
  have e := decodeGo_at s n hn
  have hw : wd s n = (Lib.decodeN (s.size - n) (bt s n) (bt s (n + 1)) (bt s (n + 2)) (bt s (n + 3))).2 := by unfold wd; rw [if_pos hn]
  rw [e, ← hw]
  refine ⟨rfl, fun h => ?_, fun h => ?_⟩
  · unfold sy; rw [if_pos hn, if_pos h, if_neg (by omega)]
  · unfold sy; rw [if_pos hn, if_neg h]
set_option maxHeartbeats 1000000 in
set_option maxRecDepth 100000 in
theorem at_any (s : ByteArray) (i : Int) (w : World) (hT : Lib.Utf8Tabs 0 1 w) :
    Calls Tryz.prog 125 #[.string s, .int .i64 i] w fun e w' => e = .returned (.tuple #[.int .i64 (syI s i), .int .i64 (wdI s i)]) ∧ Below w.heap.size w w' := by
  by_cases h0 : i < 0
  · have e1 : syI s i = -1 := by unfold syI; rw [if_pos h0]
    have e2 : wdI s i = 0 := by unfold wdI; rw [if_pos h0]
    rw [e1, e2]; clear e1 e2 hT
    go_enter Tryz.func125, Tryz.ntmps125
    go_wp2
    go_ret2
    exact ⟨rfl, Below.refl _ _⟩
  · obtain ⟨n, rfl⟩ := Int.eq_ofNat_of_zero_le (show 0 ≤ i by omega)
    have e1 : syI s (n : Int) = sy s n := by unfold syI; rw [if_neg (by omega)]; rfl
    have e2 : wdI s (n : Int) = wd s n := by unfold wdI; rw [if_neg (by omega)]; rfl
    rw [e1, e2]; clear e1 e2 h0
    by_cases hn : n < s.size
    · have hb0 := bt_eq s n hn
      have hdec := Lib.hid (Tryz.utf8_DecodeRuneInString (s.extract n s.size) w hT)
      have hbig := decode_big s n hn
      have hwr := sy_range hn
      have hwl := wd_le s n
      have hasc : bt s n < 128 → wd s n = 1 ∧ sy s n = (bt s n : Int) := fun h => by
        have hw : wd s n = 1 := by unfold wd Lib.decodeN; rw [if_pos hn, if_pos h]
        exact ⟨hw, by unfold sy; rw [if_pos hn, if_pos hw, if_pos h]⟩
      rw [hb0] at hbig hasc
      have g0 := (s[n]'hn).toNat_lt
      have hn' : (n : Int) < (s.size : Int) := by omega
      clear hT hb0
      by_cases ha : (s[n]'hn).toNat < 128
      · obtain ⟨e1, e2⟩ := hasc ha
        rw [e1, e2]; clear e1 e2 hbig hasc hwr hwl
        go_enter Tryz.func125, Tryz.ntmps125
        go_wp2
        go_ret2
        exact ⟨rfl, Below.refl _ _⟩
      · obtain ⟨d1, d2, d3⟩ := hbig (by omega)
        clear hasc hbig
        generalize Lib.decodeGo (s.extract n s.size) = D at *
        obtain ⟨r, v⟩ := D
        dsimp only at *
        subst d1
        have ha' : 128 ≤ (s[n]'hn).toNat := by omega
        by_cases hv : wd s n = 1
        · have Y := Lib.hid (d2 hv)
          clear d2 d3 ha hwr
          generalize wd s n = v at *
          subst hv
          go_enter Tryz.func125, Tryz.ntmps125
          go_wp2_with (go_at_call 152; refine hdec.out.mono ?_; rintro e w' ⟨rfl, hbl⟩)
          go_ret2
          exact ⟨ret2 (by rw [Y.out]) rfl, hbl⟩
        · have Y := d3 hv
          generalize wd s n = v at *
          generalize sy s n = y at *
          subst Y
          have hv' : ((v : Int) == 1) = false := by simp; omega
          clear d2 d3 hv ha
          go_enter Tryz.func125, Tryz.ntmps125
          go_wp2_with (go_at_call 152; refine hdec.out.mono ?_; rintro e w' ⟨rfl, hbl⟩)
          go_ret2
          exact ⟨rfl, hbl⟩
    · have e1 : sy s n = -1 := by unfold sy; rw [if_neg hn]
      have e2 : wd s n = 0 := wd_out (by omega)
      rw [e1, e2]; clear e1 e2 hT
      have hn' : (s.size : Int) ≤ n := by omega
      go_enter Tryz.func125, Tryz.ntmps125
      go_wp2
      go_ret2
      exact ⟨rfl, Below.refl _ _⟩
end Go.Proofs.YtceeimolfalmpaaGreatDoor.U

namespace Go.Proofs.YtceeimolfalmpaaGreatDoor.U
open Go.RowKit ObUtf

def Tb (w : World) : Prop := Lib.Utf8Tabs 0 1 w ∧ 2 ≤ w.heap.size
theorem Tb.below {w w' : World} (h : Tb w) (hb : Below w.heap.size w w') : Tb w' := by
  obtain ⟨⟨h1, h2⟩, h3⟩ := h
  refine ⟨⟨fun c hc => ?_, fun c hc => ?_⟩, Nat.le_trans h3 hb.size⟩
  · exact (hb.cell (p := ⟨0, c, none⟩) (by show 0 < w.heap.size; omega)).trans (h1 c hc)
  · have := h2 c hc
    first
      | exact (hb.cell (p := ⟨1, _, none⟩) (by show 1 < w.heap.size; omega)).trans this
      | exact ⟨(hb.cell (p := ⟨1, _, none⟩) (by show 1 < w.heap.size; omega)).trans this.1, (hb.cell (p := ⟨1, _, none⟩) (by show 1 < w.heap.size; omega)).trans this.2⟩
theorem bel_trans {w w1 w2 : World} (h1 : Below w.heap.size w w1) (h2 : Below w1.heap.size w1 w2) : Below w.heap.size w w2 := h1.trans (h2.mono h1.size)
theorem bel_trans' {B : Nat} {w w1 w2 : World} (hB : B ≤ w.heap.size) (h1 : Below B w w1) (h2 : Below w1.heap.size w1 w2) : Below B w w2 := h1.trans (h2.mono (Nat.le_trans hB h1.size))

/-- Is a place a boundary, by the bytes ahead of it? -/
def locB (s : ByteArray) (i : Nat) : Bool := decide (i ≤ s.size ∧ (i < 1 ∨ wd s (i - 1) ≤ 1) ∧ (i < 2 ∨ wd s (i - 2) ≤ 2) ∧ (i < 3 ∨ wd s (i - 3) ≤ 3))
theorem locB_iff (s : ByteArray) (i : Nat) : locB s i = true ↔ IsB s i := by
  unfold locB
  rw [decide_eq_true_iff]
  constructor
  · intro h
    rw [local_bd h.1]
    intro k h1 h2 h3
    rcases (show k = 1 ∨ k = 2 ∨ k = 3 by omega) with rfl | rfl | rfl <;> omega
  · intro h
    have hl := (local_bd h.le).1 h
    refine ⟨h.le, ?_, ?_, ?_⟩
    · rcases Nat.lt_or_ge i 1 with h1 | h1
      · exact Or.inl h1
      · exact Or.inr (hl 1 (by omega) (by omega) h1)
    · rcases Nat.lt_or_ge i 2 with h1 | h1
      · exact Or.inl h1
      · exact Or.inr (hl 2 (by omega) (by omega) h1)
    · rcases Nat.lt_or_ge i 3 with h1 | h1
      · exact Or.inl h1
      · exact Or.inr (hl 3 (by omega) (by omega) h1)
def isBI (s : ByteArray) (i : Int) : Bool := decide (0 ≤ i) && locB s i.toNat
theorem isBI_nat (s : ByteArray) (n : Nat) : isBI s n = locB s n := by simp [isBI]
theorem isBI_true {s : ByteArray} {n : Nat} (h : IsB s n) : isBI s n = true := by rw [isBI_nat, (locB_iff s n).2 h]
theorem isBI_false {s : ByteArray} {n : Nat} (h : ¬ IsB s n) : isBI s n = false := by
  rw [isBI_nat]; cases e : locB s n with
  | false => rfl
  | true => exact absurd ((locB_iff s n).1 e) h
def LocTo (s : ByteArray) (n k : Nat) : Prop := ∀ c, 1 ≤ c → c < k → c ≤ n → wd s (n - c) ≤ c

end Go.Proofs.YtceeimolfalmpaaGreatDoor.U

namespace Go.Proofs.YtceeimolfalmpaaGreatDoor.U
open Go.RowKit ObUtf

def cutB (s : ByteArray) (m : Nat) : ByteArray := if m < s.size then s.extract 0 m else s
theorem cutB_size (s : ByteArray) (m : Nat) : (cutB s m).size ≤ m := by
  unfold cutB; split
  · rw [ByteArray.size_extract]; omega
  · omega
set_option maxHeartbeats 400000 in
theorem cut_any (s : ByteArray) (M : Int) (w : World) (h0 : 0 ≤ M) : Calls Tryz.prog 14 #[.string s, .int .i64 M] w fun e w' => e = .returned (.string (cutB s M.toNat)) ∧ w = w' := by
  obtain ⟨m, rfl⟩ := Int.eq_ofNat_of_zero_le h0
  rw [Int.toNat_natCast]
  by_cases h : m < s.size
  · have e : cutB s m = s.extract 0 m := by unfold cutB; rw [if_pos h]
    rw [e]; clear e
    have hd : decide (m < s.size) = true := by simp [h]
    go_enter Tryz.func14, Tryz.ntmps14
    go_wp2
    go_ret
    exact ⟨rfl, rfl⟩
  · have e : cutB s m = s := by unfold cutB; rw [if_neg h]
    rw [e]; clear e
    have hd : decide (m < s.size) = false := by simp; omega
    go_enter Tryz.func14, Tryz.ntmps14
    go_wp2
    go_ret
    exact ⟨rfl, rfl⟩
end Go.Proofs.YtceeimolfalmpaaGreatDoor.U
