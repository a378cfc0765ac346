/-
  What Before of utf answers at every text and place. Conditions: a text of at most maxLen bytes; the two tables of unicode/utf8 lie as their text lays them.
-/
import Derived.Test.YtdpjcbljeklhmaaDoorUW5
namespace Go.Proofs.YtdpjcbljeklhmaaDoor.U
open Go.RowKit ObUtf

/-- Of a boundary above 0: how many bytes the symbol has that ends there. -/
def pw (s : ByteArray) (n : Nat) : Nat := if 4 ≤ n ∧ wd s (n - 4) = 4 then 4 else if 3 ≤ n ∧ wd s (n - 3) = 3 then 3 else if 2 ≤ n ∧ wd s (n - 2) = 2 then 2 else 1
theorem pw_spec {s : ByteArray} {n j : Nat} (hj : IsB s j) (hjn : j < n) (hje : j + wd s j = n) : pw s n = n - j := by
  have hw := wd_le s j
  unfold pw
  split
  · rename_i h; have := ends_bd hj hjn hje (by omega) h.1 h.2; omega
  split
  · rename_i h; have := ends_bd hj hjn hje (by omega) h.1 h.2; omega
  split
  · rename_i h; have := ends_bd hj hjn hje (by omega) h.1 h.2; omega
  rename_i h4 h3 h2
  rcases (show n - j = 1 ∨ n - j = 2 ∨ n - j = 3 ∨ n - j = 4 by omega) with h | h | h | h
  · omega
  · exact absurd ⟨by omega, by rw [show n - 2 = j by omega]; omega⟩ h2
  · exact absurd ⟨by omega, by rw [show n - 3 = j by omega]; omega⟩ h3
  · exact absurd ⟨by omega, by rw [show n - 4 = j by omega]; omega⟩ h4
theorem pw_wd {s : ByteArray} {n : Nat} (h : IsB s n) (h0 : 0 < n) : 1 ≤ pw s n ∧ pw s n ≤ n ∧ pw s n ≤ 4 ∧ wd s (n - pw s n) = pw s n ∧ IsB s (n - pw s n) := by
  obtain ⟨j, hj, hjn, hje⟩ := h.prev h0
  have e := pw_spec hj hjn hje
  have hw := wd_le s j
  rw [e, show n - (n - j) = j by omega]
  exact ⟨by omega, by omega, by omega, by omega, hj⟩
def befS (s : ByteArray) (i : Int) : Int := if 0 < i ∧ locB s i.toNat = true then sy s (i.toNat - pw s i.toNat) else -1
def befW (s : ByteArray) (i : Int) : Int := if 0 < i ∧ locB s i.toNat = true then (pw s i.toNat : Int) else 0
def NoneTo (s : ByteArray) (n k : Nat) : Prop := ∀ c, k < c → c ≤ 4 → c ≤ n → wd s (n - c) ≠ c
theorem pw_hit {s : ByteArray} {n k : Nat} (h : NoneTo s n k) (hk : 2 ≤ k) (hk4 : k ≤ 4) (hkn : k ≤ n) (hw : wd s (n - k) = k) : pw s n = k := by
  unfold pw
  split
  · rename_i g
    rcases Nat.lt_or_ge k 4 with h1 | h1
    · exact absurd g.2 (h 4 h1 (by omega) g.1)
    · omega
  split
  · rename_i g
    rcases Nat.lt_or_ge k 3 with h1 | h1
    · exact absurd g.2 (h 3 h1 (by omega) g.1)
    · rcases (show k = 3 ∨ k = 4 by omega) with rfl | rfl
      · rfl
      · rename_i g4; exact absurd ⟨hkn, hw⟩ g4
  split
  · rename_i g4 g3 g
    rcases (show k = 2 ∨ k = 3 ∨ k = 4 by omega) with rfl | rfl | rfl
    · rfl
    · exact absurd ⟨hkn, hw⟩ g3
    · exact absurd ⟨hkn, hw⟩ g4
  rename_i g4 g3 g2
  rcases (show k = 2 ∨ k = 3 ∨ k = 4 by omega) with rfl | rfl | rfl
  · exact absurd ⟨hkn, hw⟩ g2
  · exact absurd ⟨hkn, hw⟩ g3
  · exact absurd ⟨hkn, hw⟩ g4
theorem pw_none {s : ByteArray} {n : Nat} (h : NoneTo s n 1) : pw s n = 1 := by
  unfold pw
  rw [if_neg fun g => h 4 (by omega) (by omega) g.1 g.2, if_neg fun g => h 3 (by omega) (by omega) g.1 g.2, if_neg fun g => h 2 (by omega) (by omega) g.1 g.2]

set_option maxHeartbeats 1000000 in
set_option maxRecDepth 100000 in
theorem before_any (s : ByteArray) (i : Int) (w : World) (hs : s.size ≤ maxLen) (hT : Tb w) :
    Calls Tryd.prog 40 #[.string s, .int .i64 i] w fun e w' => e = .returned (.tuple #[.int .i64 (befS s i), .int .i64 (befW s i)]) ∧ Below w.heap.size w w' := by
  have HIS := Lib.hid (is_any s i w hs hT)
  unfold maxLen at hs
  have HT := Lib.hid hT; clear hT
  by_cases h0 : i ≤ 0
  · have e1 : befS s i = -1 := by unfold befS; rw [if_neg (by omega)]
    have e2 : befW s i = 0 := by unfold befW; rw [if_neg (by omega)]
    rw [e1, e2]; clear e1 e2
    go_enter Tryd.func40, Tryd.ntmps40
    go_wp2_with fail
    go_ret2
    exact ⟨rfl, Below.refl _ _⟩
  · obtain ⟨n, rfl⟩ := Int.eq_ofNat_of_zero_le (show 0 ≤ i by omega)
    have hd0 : decide ((n : Int) ≤ 0) = false := by simp; omega
    have h0' : 1 ≤ n := by omega
    clear h0
    by_cases hB : IsB s n
    · have eb := isBI_true hB
      have el := (locB_iff s n).2 hB
      have hle := hB.le
      obtain ⟨q1, q2, q3, q4, q5⟩ := pw_wd hB (by omega)
      have E1 := Lib.hid (show befS s (n : Int) = sy s (n - pw s n) by unfold befS; rw [if_pos ⟨by omega, el⟩]; rfl)
      have E2 := Lib.hid (show befW s (n : Int) = (pw s n : Int) by unfold befW; rw [if_pos ⟨by omega, el⟩]; rfl)
      have HQ := Lib.hid q4
      rw [eb] at HIS
      clear eb el q4 q5 q1 q2 q3
      generalize befS s (n : Int) = A at *
      generalize befW s (n : Int) = C at *
      go_enter Tryd.func40, Tryd.ntmps40
      go_wp2_with (go_at_call 42; refine HIS.out.mono ?_; rintro e w1 ⟨rfl, hb1⟩)
      go_loopw [6] (fun t wr => ∃ k : Nat, 1 ≤ k ∧ k ≤ 4 ∧ k ≤ n ∧ t = .int .i64 k ∧ NoneTo s n k ∧ Below w.heap.size w wr) (fun t _ => (intOf t).toNat)
      case atStart => exact ⟨min n 4, by omega, by omega, by omega, congrArg (Value.int .i64) (by omega), fun c h1 h2 h3 => by omega, hb1⟩
      case round =>
        obtain ⟨k, hk1, hk2, hk3, rfl, hno, hb⟩ := hrel
        have HN := Lib.hid hno
        have HAT := Lib.hid (at_any s ((n : Int) - k) wr (HT.out.below hb).1)
        clear hno hb1
        have e2 : wdI s ((n : Int) - k) = wd s (n - k) := by unfold wdI; rw [if_neg (by omega), show ((n : Int) - k).toNat = n - k by omega]
        have e1 : syI s ((n : Int) - k) = sy s (n - k) := by unfold syI; rw [if_neg (by omega), show ((n : Int) - k).toNat = n - k by omega]
        rw [e1, e2] at HAT
        clear e1 e2
        by_cases hk : 1 < k
        · have hwl := wd_le s (n - k)
          by_cases hw : wd s (n - k) = k
          · have HP := Lib.hid (pw_hit HN.out (by omega) hk2 hk3 hw)
            generalize hy : sy s (n - k) = y at *
            have HY := Lib.hid hy; clear hy
            have hbq : ((k : Int) == (k : Int)) = true := by simp
            rw [hw] at HAT
            clear hw hwl
            go_wp2_with (go_at_call 37; refine HAT.out.mono ?_; rintro e w' ⟨rfl, hbl⟩)
            go_ret2
            exact ⟨ret2 (by rw [E1.out, HP.out, HY.out]) (by rw [E2.out, HP.out]), bel_trans hb hbl⟩
          · have HW := Lib.hid hw
            generalize hv : wd s (n - k) = v at *
            have HV := Lib.hid hv; clear hv
            have hq1 : ((v : Int) == (k : Int)) = false := by simp; omega
            have hq2 : (v == k) = false := by simp; omega
            clear hw
            go_wp2_with (go_at_call 37; refine HAT.out.mono ?_; rintro e w' ⟨rfl, hbl⟩)
            go_roundw
            case rel => exact ⟨k - 1, by omega, by omega, by omega, congrArg (Value.int .i64) (by omega), fun c h1 h2 h3 => by
              rcases Nat.lt_or_ge k c with h4 | h4
              · exact HN.out c h4 h2 h3
              · obtain rfl : c = k := by omega
                rw [HV.out]; exact HW.out, bel_trans hb hbl⟩
            case measure => simp [intOf]; omega
        · obtain rfl : k = 1 := by omega
          have HP := Lib.hid (pw_none HN.out)
          have HA2 := Lib.hid (at_any s ((n : Int) - 1) wr (HT.out.below hb).1)
          have e2 : wdI s ((n : Int) - 1) = wd s (n - 1) := by unfold wdI; rw [if_neg (by omega), show ((n : Int) - 1).toNat = n - 1 by omega]
          have e1 : syI s ((n : Int) - 1) = sy s (n - 1) := by unfold syI; rw [if_neg (by omega), show ((n : Int) - 1).toNat = n - 1 by omega]
          rw [e1, e2] at HA2
          have H1 := Lib.hid (show wd s (n - 1) = 1 by have := HQ.out; rw [HP.out] at this; exact this)
          clear e1 e2 HAT hk HN hk1 hk2
          generalize hy : sy s (n - 1) = y at *
          have HY := Lib.hid hy; clear hy
          generalize wd s (n - 1) = v at *
          go_wp2_with (go_at_call 37; refine HA2.out.mono ?_; rintro e w' ⟨rfl, hbl⟩)
          go_ret2
          exact ⟨ret2 (by rw [E1.out, HP.out, HY.out]) (by rw [E2.out, HP.out, H1.out]), bel_trans hb hbl⟩
    · have eb := isBI_false hB
      have e1 : befS s n = -1 := by unfold befS; rw [if_neg fun h => hB ((locB_iff s n).1 h.2)]
      have e2 : befW s n = 0 := by unfold befW; rw [if_neg fun h => hB ((locB_iff s n).1 h.2)]
      rw [e1, e2]
      rw [eb] at HIS
      clear e1 e2 eb
      go_enter Tryd.func40, Tryd.ntmps40
      go_wp2_with (go_at_call 42; refine HIS.out.mono ?_; rintro e w1 ⟨rfl, hb1⟩)
      go_ret2
      exact ⟨rfl, hb1⟩
end Go.Proofs.YtdpjcbljeklhmaaDoor.U
