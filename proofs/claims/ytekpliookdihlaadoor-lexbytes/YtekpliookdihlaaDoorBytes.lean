/-
  The statement on three bytes in a pattern, a class, braces, behind a 92 (LexBytes) answers true for all three bytes. Condition: the two tables of unicode/utf8 lie as their text lays them.
-/
import Derived.Test.YtekpliookdihlaaDoorV1
namespace Go.Proofs.YtekpliookdihlaaDoor
open Go.RowKit ObUtf ObSets ObLex

abbrev lit (l : List UInt8) : ByteArray := ⟨l.toArray⟩
theorem lit_size (l : List UInt8) : (lit l).size = l.length := List.size_toArray
set_option maxHeartbeats 4000000 in
set_option maxRecDepth 100000 in
theorem bytes_walk (x y z : Int) (w : World) (hT : U.Tb w) (hx : 0 ≤ x ∧ x < 256) (hy : 0 ≤ y ∧ y < 256) (hz : 0 ≤ z ∧ z < 256) : Calls Tryd.prog 4 #[.int .u8 x, .int .u8 y, .int .u8 z] w fun e w' => e = .returned (.bool true) ∧ Below w.heap.size w w' := by
  have HT := Lib.hid (hT.below ((Below.refl w.heap.size w).alloc (Nat.le_refl _) (.cells #[.int .u8 x, .int .u8 y, .int .u8 z] 5))); clear hT
  have hcv := U.conv3 w x y z hx hy hz
  obtain ⟨s, hs⟩ : ∃ s : ByteArray, s = ⟨#[UInt8.ofNat x.toNat, UInt8.ofNat y.toNat, UInt8.ofNat z.toNat]⟩ := ⟨_, rfl⟩
  have h3 : s.size = 3 := by rw [hs]; rfl
  rw [← hs] at hcv
  clear hs
  have HB := Lib.hid ((Below.refl w.heap.size w).alloc (Nat.le_refl _) (.cells #[.int .u8 x, .int .u8 y, .int .u8 z] 5))
  have HA := Lib.hid (fun (t : ByteArray) (ht : t.size ≤ 100000) W (h : U.Tb W) => asks_true t W h ht)
  go_enter Tryd.func4, Tryd.ntmps4
  go_wp2_with fail
  refine (HA.out _ (by omega) _ HT.out).mono ?_
  rintro e w1 ⟨rfl, hb1⟩
  have T1 := Lib.hid (HT.out.below hb1)
  have B1 := Lib.hid (bel_trans HB.out hb1)
  clear hb1
  go_wp2_with fail
  refine (HA.out _ (by simp only [ByteArray.size_append, h3]; decide) _ T1.out).mono ?_
  rintro e w2 ⟨rfl, hb2⟩
  have T2 := Lib.hid (T1.out.below hb2)
  have B2 := Lib.hid (bel_trans B1.out hb2)
  clear hb2
  go_wp2_with fail
  refine (HA.out _ (by simp only [ByteArray.size_append, h3]; decide) _ T2.out).mono ?_
  rintro e w3 ⟨rfl, hb3⟩
  have T3 := Lib.hid (T2.out.below hb3)
  have B3 := Lib.hid (bel_trans B2.out hb3)
  clear hb3
  go_wp2_with fail
  refine (HA.out _ (by simp only [ByteArray.size_append, h3]; decide) _ T3.out).mono ?_
  rintro e w4 ⟨rfl, hb4⟩
  have T4 := Lib.hid (T3.out.below hb4)
  have B4 := Lib.hid (bel_trans B3.out hb4)
  clear hb4
  go_wp2_with fail
  refine (HA.out _ (by simp only [ByteArray.size_append, h3]; decide) _ T4.out).mono ?_
  rintro e w5 ⟨rfl, hb5⟩
  have T5 := Lib.hid (T4.out.below hb5)
  have B5 := Lib.hid (bel_trans B4.out hb5)
  clear hb5
  go_wp2_with fail
  refine (HA.out _ (by simp only [ByteArray.size_append, h3]; decide) _ T5.out).mono ?_
  rintro e w6 ⟨rfl, hb6⟩
  have T6 := Lib.hid (T5.out.below hb6)
  have B6 := Lib.hid (bel_trans B5.out hb6)
  clear hb6
  go_wp2_with fail
  refine (HA.out _ (by simp only [ByteArray.size_append, h3]; decide) _ T6.out).mono ?_
  rintro e w7 ⟨rfl, hb7⟩
  have T7 := Lib.hid (T6.out.below hb7)
  have B7 := Lib.hid (bel_trans B6.out hb7)
  clear hb7
  go_wp2_with fail
  refine (HA.out _ (by simp only [ByteArray.size_append, h3]; decide) _ T7.out).mono ?_
  rintro e w8 ⟨rfl, hb8⟩
  have T8 := Lib.hid (T7.out.below hb8)
  have B8 := Lib.hid (bel_trans B7.out hb8)
  clear hb8
  go_wp2_with fail
  refine (wakes_any _ T8.out).mono ?_
  rintro e w9 ⟨rfl, hb9⟩
  go_wp2_with fail
  go_ret
  exact ⟨rfl, bel_trans B8.out hb9⟩
end Go.Proofs.YtekpliookdihlaaDoor
