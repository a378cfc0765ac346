/-
  The statement on texts gone through from their end (UtfBack) answers true for every text. Condition: the two tables of unicode/utf8 lie as their text lays them.
-/
import Derived.Test.YteabicdmgbcpaaaDoorWakes
namespace Go.Proofs.YteabicdmgbcpaaaDoor
open Go.RowKit ObUtf

/-- A slice that the call owns: its value and its cells, nil or not. -/
theorem own_cells {w : World} {base : Nat} {v : Value} {zs : List Int} (h : w.ownsRow base 3 1 v zs.length (zs.map (Value.int .i64))) :
    ∃ A cap, v = .slice A zs.length cap ∧ Cells w w.heap.size A zs.length (fun j => zs.getD j 0) := by
  have h0 := h
  rcases h.2 with ⟨hv, h1⟩ | ⟨g, cap, cur, hv, _, hg, _⟩
  · exact ⟨none, 0, by rw [hv, h1], fun hn => by omega⟩
  · subst hv
    refine ⟨_, cap, rfl, fun _ => ⟨g, 0, rfl, heap_lt hg, fun j hj => ?_⟩⟩
    rw [Nat.zero_add, h0.cellAt j (by omega)]
    simp [hj]
theorem syms_length (s : ByteArray) : (syms s).length = cnt s := symsTo_length s _
theorem syms_get (s : ByteArray) {j : Nat} (h : j < cnt s) : (syms s).getD j 0 = sy s (bd s j) := by
  unfold syms symsTo; simp [h]
set_option maxHeartbeats 2000000 in
set_option maxRecDepth 100000 in
theorem back_walk (s : ByteArray) (w : World) (hT : Tb w) : Calls Tryd.prog 8 #[.string s] w fun e w' => e = .returned (.bool true) ∧ Below w.heap.size w w' := by
  have HT := Lib.hid hT; clear hT
  have HC := Lib.hid (cut_any s 100 w (by omega))
  have hz := cutB_size s 100
  rw [show (100 : Int).toNat = 100 from rfl] at HC
  generalize cutB s 100 = t at *
  have HL := Lib.hid (show t.size ≤ maxLen by unfold maxLen; omega)
  have HA := Lib.hid (all_any t w (by omega) HT.out)
  have hcn := cnt_le t
  have HE := Lib.hid (cnt_end t)
  go_enter Tryd.func8, Tryd.ntmps8
  go_wp2_with fail
  refine HC.out.mono ?_
  rintro e w' ⟨rfl, rfl⟩
  go_wp2_with fail
  refine HA.out.mono ?_
  rintro e w1 ⟨v, rfl, hown, hb1⟩
  obtain ⟨A, cap, rfl, hcells⟩ := own_cells hown
  rw [syms_length] at *
  have HCE := Lib.hid hcells
  have HG := Lib.hid (fun j (h : j < cnt t) => syms_get t h)
  have HK := Lib.hid (fun k (h1 : 1 ≤ k) (h2 : k ≤ cnt t) => bef_at (s := t) h1 h2)
  have HLB := Lib.hid (fun k (h : k ≤ cnt t) => le_bd (s := t) h)
  have HWP := Lib.hid (fun k (h1 : 1 ≤ k) (h2 : k ≤ cnt t) => wd_pos (cnt_lt t (c := k - 1) (by omega)))
  clear hown hcells HA HC
  generalize hc : cnt t = c at *
  clear hc
  go_wp2_with fail
  go_loopw [4, 5] (fun a u wr => ∃ k : Nat, k ≤ c ∧ a = .int .i64 k ∧ u = .int .i64 (bd t k) ∧ Below w1.heap.size w1 wr) (fun a _ _ => (intOf a).toNat)
  case atStart => exact ⟨c, Nat.le_refl _, rfl, by rw [HE.out], Below.refl _ _⟩
  case round =>
    obtain ⟨k, hk, rfl, rfl, hb⟩ := hrel
    by_cases h0 : 0 < k
    · have hle := HLB.out k hk
      have hbl := bd_le t k
      have hd : decide ((0 : Int) < (bd t k : Int)) = true := by simp; omega
      obtain ⟨e1, e2⟩ := HK.out k h0 hk
      have HB := Lib.hid (before_any t (bd t k) wr HL.out (HT.out.below (bel_trans hb1 hb)))
      rw [e1, e2] at HB
      obtain ⟨g, off, rfl, hgB, hcl⟩ := HCE.out (by omega)
      have hx := (hb.cell (p := ⟨g, off + (k - 1), none⟩) hgB).trans (hcl (k - 1) (by omega))
      dsimp only at hx
      rw [HG.out (k - 1) (by omega)] at hx
      have hsum : bd t (k - 1) + wd t (bd t (k - 1)) = bd t k := by
        conv => rhs; rw [show k = (k - 1) + 1 by omega]
        rfl
      have hwp := HWP.out k h0 hk
      have hw4 := wd_le t (bd t (k - 1))
      have HS := Lib.hid hsum
      have hs1 : bd t k ≤ bd t (k - 1) + wd t (bd t (k - 1)) := by omega
      have hs2 : bd t (k - 1) + wd t (bd t (k - 1)) ≤ bd t k := by omega
      have hkc : (k : Int) - 1 < (c : Int) := by omega
      have hk1 : ((k : Int) - 1).toNat = k - 1 := by omega
      have hdw : decide ((wd t (bd t (k - 1)) : Int) ≤ 0) = false := by simp; omega
      have hdk : decide ((k : Int) - 1 < 0) = false := by simp; omega
      clear e1 e2 hcl hsum HCE HG HK HWP HLB HE
      generalize sy t (bd t (k - 1)) = y at *
      generalize wd t (bd t (k - 1)) = x at *
      generalize hq : bd t (k - 1) = q at *
      have HQ := Lib.hid hq; clear hq
      have hqq : (y != y) = false := by simp
      generalize bd t k = r at *
      go_wp2_with (go_at_call 13; refine HB.out.mono ?_; rintro e w' ⟨rfl, hbl⟩; have hx' := (hbl.cell (p := ⟨g, off + (k - 1), none⟩) (by have := hb.size; simp; omega)).trans hx)
      go_roundw
      case rel => exact ⟨k - 1, by omega, by go_num, by rw [HQ.out]; go_num, bel_trans hb hbl⟩
      case measure => simp [intOf]; omega
    · obtain rfl : k = 0 := by omega
      have e0 : bd t 0 = 0 := rfl
      rw [e0]
      clear e0
      go_wp2_with (go_at_call 9; refine (wakes_any _ (HT.out.below (bel_trans hb1 hb))).mono ?_; rintro e w' ⟨rfl, hbw⟩)
      go_ret
      exact ⟨rfl, bel_trans (bel_trans hb1 hb) hbw⟩
end Go.Proofs.YteabicdmgbcpaaaDoor
