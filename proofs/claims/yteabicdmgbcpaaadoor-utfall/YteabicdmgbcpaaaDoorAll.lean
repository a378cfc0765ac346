/-
  The statement on whole texts and lists (UtfAll) answers true for every text and every list of ints. Condition: the two tables of unicode/utf8 lie as their text lays them.
-/
import Derived.Test.YteabicdmgbcpaaaDoorBack
import Derived.Test.YteabicdmgbcpaaaDoorDec
namespace Go.Proofs.YteabicdmgbcpaaaDoor
open Go.RowKit ObUtf

set_option maxHeartbeats 400000 in
theorem ints_any (A : Option Addr) (n c : Nat) (w : World) (hnc : n ≤ c) (hc : c ≤ maxLen) (hA : A = none → n = 0) :
    Calls Tryd.prog 17 #[.slice A n c, .int .i64 60] w fun e w' => e = .returned (.slice A (min n 60) c) ∧ w = w' := by
  unfold maxLen at hc
  by_cases h : 60 < n
  · obtain ⟨a, rfl⟩ : ∃ a, A = some a := by
      cases A with
      | none => have := hA rfl; omega
      | some a => exact ⟨a, rfl⟩
    rw [Nat.min_eq_right (by omega)]
    have hd : decide ((60 : Int) < (n : Int)) = true := by simp; omega
    have h60 : 60 ≤ c := by omega
    clear hA
    go_enter Tryd.func17, Tryd.ntmps17
    go_wp2
    go_ret
    exact ⟨rfl, rfl⟩
  · rw [Nat.min_eq_left (by omega)]
    have hd : decide ((60 : Int) < (n : Int)) = false := by simp; omega
    clear hA
    go_enter Tryd.func17, Tryd.ntmps17
    go_wp2
    go_ret
    exact ⟨rfl, rfl⟩
theorem Cells.less {w : World} {B : Nat} {A : Option Addr} {n m : Nat} {f : Nat → Int} (h : Cells w B A n f) (hm : m ≤ n) : Cells w B A m f := fun h0 => by
  obtain ⟨b, off, e, hB, hc⟩ := h (by omega)
  exact ⟨b, off, e, hB, fun j hj => hc j (by omega)⟩
set_option maxHeartbeats 2000000 in
set_option maxRecDepth 100000 in
theorem all_walk (s : ByteArray) (A : Option Addr) (n c : Nat) (f : Nat → Int) (w : World) (hT : Tb w) (hnc : n ≤ c) (hc : c ≤ maxLen) (hA : A = none → n = 0) (hcell : Cells w w.heap.size A n f) :
    Calls Tryd.prog 4 #[.string s, .slice A n c] w fun e w' => e = .returned (.bool true) ∧ Below w.heap.size w w' := by
  have HT := Lib.hid hT; clear hT
  have HC := Lib.hid (cut_any s 200 w (by omega))
  have HI := Lib.hid (ints_any A n c w hnc hc hA)
  have HL := Lib.hid (hcell.less (Nat.min_le_left n 60))
  have hm : min n 60 ≤ 60 := Nat.min_le_right n 60
  have hz := cutB_size s 200
  rw [show (200 : Int).toNat = 200 from rfl] at HC
  generalize cutB s 200 = t at *
  generalize min n 60 = m at *
  clear hcell hA hc hnc
  have hcn := cnt_le t
  have hlen : (syms t).length ≤ 1000000 := by rw [syms_length]; omega
  have q1 : ((⟨(joinTo f m).toArray⟩ : ByteArray).toList == (⟨(joinTo f m).toArray⟩ : ByteArray).toList) = true := by simp
  have q2 : (t.toList == t.toList) = true := by simp
  have HJ := Lib.hid (join_all t (fun j => (syms t).getD j 0) (fun j hj => syms_get t hj))
  rw [← syms_length t] at HJ
  go_enter Tryd.func4, Tryd.ntmps4
  go_wp2_with fail
  refine HC.out.mono ?_
  rintro e w' ⟨rfl, rfl⟩
  go_wp2_with fail
  refine HI.out.mono ?_
  rintro e w' ⟨rfl, rfl⟩
  go_wp2_with fail
  refine (all_any t _ (by omega) HT.out).mono ?_
  rintro e w1 ⟨v1, rfl, o1, b1⟩
  obtain ⟨A1, c1, rfl, k1⟩ := own_cells o1
  have K1 := Lib.hid k1
  clear o1 k1 HC HI
  go_wp2_with fail
  refine (rall_any t _ (by omega)).mono ?_
  rintro e w2 ⟨v2, rfl, o2, b2⟩
  obtain ⟨A2, c2, rfl, k2⟩ := own_cells o2
  have K2 := Lib.hid k2
  have B2 := bel_trans b1 b2
  have K3 := Lib.hid ((K1.out.below b2).more b2.size)
  clear o2 k2
  go_wp2_with fail
  refine (eq_same A1 A2 _ c1 c2 w2.heap.size _ _ _ K3.out K2.out hlen (fun j _ => rfl)).mono ?_
  rintro e w3 ⟨rfl, b3⟩
  have B3 := bel_trans B2 b3
  clear K1 K2 K3 b1 b2 b3 B2
  go_wp2_with fail
  refine (join_any A m c f _ ((HL.out.below B3).more B3.size) (by omega)).mono ?_
  rintro e w4 ⟨rfl, b4⟩
  have B4 := bel_trans B3 b4
  clear b4 B3
  go_wp2_with fail
  refine (rjoin_any A m c f _ ((HL.out.below B4).more B4.size) (by omega)).mono ?_
  rintro e w5 ⟨rfl, b5⟩
  have B5 := bel_trans B4 b5
  clear b5 B4
  go_wp2_with fail
  refine (all_any t _ (by omega) (HT.out.below B5)).mono ?_
  rintro e w6 ⟨v6, rfl, o6, b6⟩
  obtain ⟨A6, c6, rfl, k6⟩ := own_cells o6
  have K6 := Lib.hid k6
  have B6 := bel_trans B5 b6
  clear o6 k6 B5 b6
  go_wp2_with fail
  refine (join_any A6 _ c6 _ _ K6.out hlen).mono ?_
  rintro e w7 ⟨rfl, b7⟩
  rw [HJ.out]
  have B7 := bel_trans B6 b7
  clear B6 b7
  go_wp2_with fail
  refine (wakes_any _ (HT.out.below B7)).mono ?_
  rintro e w8 ⟨rfl, b8⟩
  go_wp2_with fail
  go_ret
  exact ⟨rfl, bel_trans B7 b8⟩
end Go.Proofs.YteabicdmgbcpaaaDoor
