/-
  What row, seq and At of the page's own, and At of utf, answer at every text and place. Conditions: a text of at most maxLen bytes; for utf's At: the two tables of unicode/utf8 lie as their text lays them.
-/
import Derived.Test.YtdpjcbljeklhmaaDoorUW1
import Derived.Test.YtdpjcbljeklhmaaDoorUPlain2
import Derived.Test.YtdpjcbljeklhmaaDoorShelf
import Derived.Deep.QuietTactic
import Derived.BigQuiet
import Derived.Lib.Hide
import Derived.Laws.BitsAllLaws
import Derived.Laws.BitsLemmas
namespace Go.Proofs.YtdpjcbljeklhmaaDoor.U
open Go.RowKit ObUtf

theorem bt_eq (s : ByteArray) (i : Nat) (h : i < s.size) : bt s i = (s[i]'h).toNat := by
  unfold bt; rw [show s.get! i = s[i]'h from by cases s with | mk d => exact getElem!_pos d i h]
theorem ret3 {a b : Int} {c d e f : Int} (h1 : a = b) (h2 : c = d) (h3 : e = f) : Ending.returned (.tuple #[.int .i64 a, .int .u8 c, .int .u8 e]) = .returned (.tuple #[.int .i64 b, .int .u8 d, .int .u8 f]) := by rw [h1, h2, h3]
theorem ret2 {a b : Int} {c d : Int} (h1 : a = b) (h2 : c = d) : Ending.returned (.tuple #[.int .i64 a, .int .i64 c]) = .returned (.tuple #[.int .i64 b, .int .i64 d]) := by rw [h1, h2]

set_option maxHeartbeats 400000 in
set_option maxRecDepth 100000 in
theorem row_any (c : Nat) (w : World) (hc : c < 256) : Calls Tryd.prog 56 #[.int .u8 c] w fun e w' => e = .returned (.tuple #[.int .i64 (rowN c), .int .u8 (rowLo c), .int .u8 (rowHi c)]) ∧ w = w' := by
  rcases (show c < 128 ∨ (128 ≤ c ∧ c < 194) ∨ (194 ≤ c ∧ c ≤ 223) ∨ c = 224 ∨ (225 ≤ c ∧ c < 237) ∨ c = 237 ∨ (237 < c ∧ c ≤ 239) ∨ c = 240 ∨ (241 ≤ c ∧ c ≤ 243) ∨ c = 244 ∨ 244 < c by omega) with h | h | h | rfl | h | rfl | h | rfl | h | rfl | h
  all_goals first | (have h' : (128 : Int) ≤ (c : Int) := by omega) | skip
  all_goals (go_enter Tryd.func56, Tryd.ntmps56)
  all_goals go_wp2
  all_goals (go_ret3; refine ⟨ret3 ?_ ?_ ?_, rfl⟩)
  all_goals first | rfl | (unfold rowN; (repeat' split) <;> omega) | (unfold rowLo; (repeat' split) <;> omega) | (unfold rowHi; (repeat' split) <;> omega)

/-- The bytes from the third on that were looked at are such as continue. -/
def Conts (s : ByteArray) (i k : Nat) : Prop := ∀ j, 2 ≤ j → j < k → 128 ≤ bt s (i + j) ∧ bt s (i + j) ≤ 191
set_option maxHeartbeats 1000000 in
set_option maxRecDepth 100000 in
theorem seq_any (s : ByteArray) (i : Nat) (w : World) (hs : s.size ≤ maxLen) (hi : i < s.size) :
    Calls Tryd.prog 39 #[.string s, .int .i64 i] w fun e w' => e = .returned (.int .i64 (sqn s i)) ∧ w = w' := by
  unfold maxLen at hs
  have hN := rowN_le (bt s i)
  have hLo := rowLo_lt (bt s i)
  have hHi := rowHi_lt (bt s i)
  have L0 := @sqn_few s i hi
  have L1 := @sqn_short s i hi
  have L2 := @sqn_second s i hi
  have L3 := @sqn_later s i hi
  have L4 := @sqn_whole s i hi
  have hb0 := bt_eq s i hi
  have hrow := row_any (bt s i) w (bt_lt s i)
  rw [hb0] at hrow hN hLo hHi L0 L1 L2 L3 L4
  generalize (rowN (s[i]'hi).toNat) = n at *
  generalize (rowLo (s[i]'hi).toNat) = lo at *
  generalize (rowHi (s[i]'hi).toNat) = hh at *
  generalize hq : sqn s i = q at *
  have H0 := Lib.hid L0; have H1 := Lib.hid L1; have H2 := Lib.hid L2; have H3 := Lib.hid L3; have H4 := Lib.hid L4
  have HR := Lib.hid hrow
  clear L0 L1 L2 L3 L4 hrow hb0 hq
  by_cases hn : n < 2
  · go_enter Tryd.func39, Tryd.ntmps39
    go_wp2_with (go_at_call 56; refine HR.out.mono ?_; rintro e w' ⟨rfl, rfl⟩)
    go_ret
    exact ⟨ret_int (by rw [H0.out hn]), rfl⟩
  · by_cases hl : s.size - i < n
    · have hl' : (s.size : Int) - i < n := by omega
      go_enter Tryd.func39, Tryd.ntmps39
      go_wp2_with (go_at_call 56; refine HR.out.mono ?_; rintro e w' ⟨rfl, rfl⟩)
      go_ret
      exact ⟨ret_int (by rw [H1.out (by omega) hl]; rfl), rfl⟩
    · have hl' : (n : Int) ≤ (s.size : Int) - i := by omega
      have hi1 : i + 1 < s.size := by omega
      have hb1 := Lib.hid (bt_eq s (i + 1) hi1)
      have hdl : decide ((s.size : Int) - i < n) = false := by simp; omega
      have hdn : decide ((n : Int) < 2) = false := by simp; omega
      by_cases hlo : (s[i + 1]'hi1).toNat < lo
      · have hd : decide ((s[i + 1]'hi1).toNat < lo) = true := by simp [hlo]
        go_enter Tryd.func39, Tryd.ntmps39
        go_wp2_with (go_at_call 56; refine HR.out.mono ?_; rintro e w' ⟨rfl, rfl⟩)
        go_ret
        exact ⟨ret_int (by rw [H2.out (by omega) (Or.inl (by rw [hb1.out]; exact hlo))]; rfl), rfl⟩
      · have hd : decide ((s[i + 1]'hi1).toNat < lo) = false := by simp; omega
        by_cases hhi : hh < (s[i + 1]'hi1).toNat
        · have hd2 : decide (hh < (s[i + 1]'hi1).toNat) = true := by simp [hhi]
          go_enter Tryd.func39, Tryd.ntmps39
          go_wp2_with (go_at_call 56; refine HR.out.mono ?_; rintro e w' ⟨rfl, rfl⟩)
          go_ret
          exact ⟨ret_int (by rw [H2.out (by omega) (Or.inr (by rw [hb1.out]; exact hhi))]; rfl), rfl⟩
        · have hd2 : decide (hh < (s[i + 1]'hi1).toNat) = false := by simp; omega
          go_enter Tryd.func39, Tryd.ntmps39
          go_wp2_with (go_at_call 56; refine HR.out.mono ?_; rintro e w' ⟨rfl, rfl⟩)
          go_loop [8] (fun t => ∃ k : Nat, 2 ≤ k ∧ k ≤ n ∧ t = .int .i64 k ∧ Conts s i k) (fun t => n - (intOf t).toNat)
          case atStart => exact ⟨2, by omega, by omega, rfl, fun j h1 h2 => by omega⟩
          case round =>
            obtain ⟨k, hk1, hk2, rfl, hc⟩ := hrel
            have HC := Lib.hid hc
            clear hc
            by_cases hkn : k < n
            · have hik : i + k < s.size := by omega
              have hbk := Lib.hid (bt_eq s (i + k) hik)
              have hdk : decide (k < n) = true := by simp [hkn]
              by_cases hbad : (s[i + k]'hik).toNat < 128 ∨ 191 < (s[i + k]'hik).toNat
              · rcases hbad with hbad | hbad
                · go_wp2
                  go_ret
                  exact ⟨ret_int (by rw [H3.out (by omega) (k := k) hk1 hkn (by rw [hbk.out]; exact Or.inl hbad)]; rfl), rfl⟩
                · go_wp2
                  go_ret
                  exact ⟨ret_int (by rw [H3.out (by omega) (k := k) hk1 hkn (by rw [hbk.out]; exact Or.inr hbad)]; rfl), rfl⟩
              · have g1 : 128 ≤ (s[i + k]'hik).toNat := by omega
                have g2 : (s[i + k]'hik).toNat ≤ 191 := by omega
                clear hbad
                go_wp2
                go_round
                case rel => exact ⟨k + 1, by omega, by omega, by go_num, fun j h1 h2 => by
                  rcases Nat.lt_or_ge j k with h3 | h3
                  · exact HC.out j h1 h3
                  · obtain rfl : j = k := by omega
                    rw [hbk.out]; exact ⟨g1, g2⟩⟩
                case measure => simp [intOf]; omega
            · have hdk : decide (k < n) = false := by simp; omega
              go_wp2
              go_ret
              obtain rfl : k = n := by omega
              exact ⟨ret_int (by rw [H4.out (by omega) (by omega) (by rw [hb1.out]; omega) (by rw [hb1.out]; omega) HC.out]), rfl⟩
end Go.Proofs.YtdpjcbljeklhmaaDoor.U
