/-
  The statement on boundaries by the bytes ahead (UtfLocal) answers true for every text. Condition: the two tables of unicode/utf8 lie as their text lays them.
-/
import Derived.Test.YteabicdmgbcpaaaDoorWakes
namespace Go.Proofs.YteabicdmgbcpaaaDoor
open Go.RowKit ObUtf

/-- Does a symbol told one to k bytes ahead go past the place? -/
def pastTo (s : ByteArray) (i : Int) : Nat → Bool
  | 0 => false
  | k + 1 => pastTo s i k || decide (((k + 1 : Nat) : Int) < wdI s (i - ((k + 1 : Nat) : Int)))
theorem pastTo_iff (s : ByteArray) (n : Nat) (k : Nat) : pastTo s (n : Int) k = true ↔ ∃ c, 1 ≤ c ∧ c ≤ k ∧ c ≤ n ∧ c < wd s (n - c) := by
  induction k with
  | zero => simp [pastTo]; intro c h1 h2; omega
  | succ k ih =>
    unfold pastTo
    rw [Bool.or_eq_true, ih, decide_eq_true_iff]
    constructor
    · rintro (⟨c, h1, h2, h3, h4⟩ | h)
      · exact ⟨c, h1, by omega, h3, h4⟩
      · unfold wdI at h
        split at h
        · omega
        · rename_i hn
          rw [show ((n : Int) - ((k + 1 : Nat) : Int)).toNat = n - (k + 1) by omega] at h
          exact ⟨k + 1, by omega, Nat.le_refl _, by omega, by omega⟩
    · rintro ⟨c, h1, h2, h3, h4⟩
      rcases Nat.lt_or_ge k c with h5 | h5
      · obtain rfl : c = k + 1 := by omega
        right
        unfold wdI
        rw [if_neg (by omega), show ((n : Int) - ((k + 1 : Nat) : Int)).toNat = n - (k + 1) by omega]
        omega
      · exact Or.inl ⟨c, h1, h5, h3, h4⟩
theorem past_is (s : ByteArray) (n : Nat) (hn : n ≤ s.size) : isBI s (n : Int) = !pastTo s (n : Int) 3 := by
  by_cases h : IsB s n
  · rw [isBI_true h]
    cases e : pastTo s (n : Int) 3 with
    | false => rfl
    | true =>
      obtain ⟨c, h1, h2, h3, h4⟩ := (pastTo_iff s n 3).1 e
      have := (local_bd hn).1 h c h1 h2 h3
      omega
  · rw [isBI_false h]
    cases e : pastTo s (n : Int) 3 with
    | true => rfl
    | false =>
      refine absurd ((local_bd hn).2 fun c h1 h2 h3 => ?_) h
      rcases Nat.lt_or_ge c (wd s (n - c)) with h4 | h4
      · have := (pastTo_iff s n 3).2 ⟨c, h1, h2, h3, h4⟩
        rw [e] at this; cases this
      · exact h4
set_option maxHeartbeats 2000000 in
set_option maxRecDepth 100000 in
theorem local_walk (s : ByteArray) (w : World) (hT : Tb w) : Calls Tryd.prog 6 #[.string s] w fun e w' => e = .returned (.bool true) ∧ Below w.heap.size w w' := by
  have HT := Lib.hid hT; clear hT
  have HC := Lib.hid (cut_any s 200 w (by omega))
  have hz := cutB_size s 200
  rw [show (200 : Int).toNat = 200 from rfl] at HC
  generalize cutB s 200 = t at *
  have HL := Lib.hid (show t.size ≤ maxLen by unfold maxLen; omega)
  go_enter Tryd.func6, Tryd.ntmps6
  go_wp2_with (go_at_call 10; refine HC.out.mono ?_; rintro e w' ⟨rfl, rfl⟩)
  clear HC
  go_loopw [3] (fun u wr => ∃ n : Nat, 1 ≤ n ∧ n ≤ 201 ∧ u = .int .i64 n ∧ Below w.heap.size w wr) (fun u _ => 201 - (intOf u).toNat)
  case atStart => exact ⟨1, by omega, by omega, rfl, Below.refl _ _⟩
  case round =>
    obtain ⟨n, hn1, hn2, rfl, hb⟩ := hrel
    by_cases hlt : n < t.size
    · have hd : decide (n < t.size) = true := by simp [hlt]
      have hlt' : (n : Int) < (t.size : Int) := by omega
      have HP := Lib.hid (past_is t n (by omega))
      go_wp2_with fail
      go_loopw [4, 5] (fun p u wx => ∃ k : Nat, k ≤ 3 ∧ u = .int .i64 ((k : Int) + 1) ∧ p = .bool (pastTo t n k) ∧ Below w.heap.size w wx) (fun _ u _ => 4 - (intOf u).toNat)
      case atStart => exact ⟨0, by omega, rfl, rfl, hb⟩
      case round =>
        obtain ⟨k, hk, rfl, rfl, hbx⟩ := hrel
        by_cases hk3 : k < 3
        · have hdk : decide ((k : Int) + 1 ≤ 3) = true := by simp; omega
          have HA := Lib.hid (at_any t ((n : Int) - ((k : Int) + 1)) wr (HT.out.below hbx).1)
          have HS := Lib.hid (show pastTo t n (k + 1) = (pastTo t n k || decide (((k : Int) + 1) < wdI t ((n : Int) - ((k : Int) + 1)))) from rfl)
          generalize syI t ((n : Int) - ((k : Int) + 1)) = y at *
          generalize wdI t ((n : Int) - ((k : Int) + 1)) = v at *
          generalize hq : pastTo t n k = q at *
          clear hq hb
          go_wp2_with (go_at_call 11; refine HA.out.mono ?_; rintro e w' ⟨rfl, hbl⟩; cases q)
          · go_roundw
            case rel => exact ⟨k + 1, by omega, by go_num, by rw [HS.out]; simp, bel_trans hbx hbl⟩
            case measure => simp [intOf]; omega
          · go_roundw
            case rel => exact ⟨k + 1, by omega, by go_num, by rw [HS.out]; simp, bel_trans hbx hbl⟩
            case measure => simp [intOf]; omega
        · have hdk : decide ((k : Int) + 1 ≤ 3) = false := by simp; omega
          obtain rfl : k = 3 := by omega
          have HI := Lib.hid (is_any t n wr HL.out (HT.out.below hbx))
          rw [HP.out] at HI
          generalize hq : pastTo t n 3 = q at *
          clear hq hb HP
          go_wp2_with (go_at_call 15; refine HI.out.mono ?_; rintro e w' ⟨rfl, hbl⟩; cases q)
          · go_roundw
            case rel => exact ⟨n + 1, by omega, by omega, by go_num, bel_trans hbx hbl⟩
            case measure => simp [intOf]; omega
          · go_roundw
            case rel => exact ⟨n + 1, by omega, by omega, by go_num, bel_trans hbx hbl⟩
            case measure => simp [intOf]; omega
    · have hd : decide (n < t.size) = false := by simp; omega
      have H1 := Lib.hid (is_any t 0 wr HL.out (HT.out.below hb))
      rw [show isBI t 0 = true from isBI_true (IsB.zero t)] at H1
      go_wp2_with fail
      refine H1.out.mono ?_
      rintro e w1 ⟨rfl, hb1⟩
      have hB1 := bel_trans hb hb1
      have H2 := Lib.hid (is_any t t.size w1 HL.out (HT.out.below hB1))
      rw [isBI_true (IsB.size t)] at H2
      go_wp2_with fail
      refine H2.out.mono ?_
      rintro e w2 ⟨rfl, hb2⟩
      have hB2 := bel_trans hB1 hb2
      have H3 := Lib.hid (is_any t ((t.size : Int) + 1) w2 HL.out (HT.out.below hB2))
      rw [show isBI t ((t.size : Int) + 1) = false from isBI_false (n := t.size + 1) fun h => by have := h.le; omega] at H3
      go_wp2_with fail
      refine H3.out.mono ?_
      rintro e w3 ⟨rfl, hb3⟩
      have hB3 := bel_trans hB2 hb3
      go_wp2_with (go_at_call 9; refine (wakes_any _ (HT.out.below hB3)).mono ?_; rintro e w' ⟨rfl, hbw⟩)
      go_ret
      exact ⟨rfl, bel_trans hB3 hbw⟩
end Go.Proofs.YteabicdmgbcpaaaDoor
