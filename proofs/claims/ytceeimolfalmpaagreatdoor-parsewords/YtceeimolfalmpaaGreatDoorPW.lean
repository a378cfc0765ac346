/-
  The statement on all rows of words (ParseWords) answers true for every row. Condition: the two tables of unicode/utf8 lie as their text lays them.
-/
import Derived.Test.YtceeimolfalmpaaGreatDoorTells
namespace Go.Proofs.YtceeimolfalmpaaGreatDoor.U
open Go.RowKit
/-- A slice of ints that reads so. -/
def Cells (w : World) (B : Nat) (A : Option Addr) (n : Nat) (f : Nat → Int) : Prop := 0 < n → ∃ b off, A = some ⟨b, off, none⟩ ∧ b < B ∧ ∀ j, j < n → w.cell? ⟨b, off + j, none⟩ = some (.int .i64 (f j))
end Go.Proofs.YtceeimolfalmpaaGreatDoor.U
namespace Go.Proofs.YtceeimolfalmpaaGreatDoor.T
open Go.RowKit ObUtf ObSets ObTree ObParse

abbrev wordsT : List ByteArray := [⟨#[97]⟩, ⟨#[40]⟩, ⟨#[40, 63, 58]⟩, ⟨#[41]⟩, ⟨#[124]⟩, ⟨#[42]⟩, ⟨#[123, 50, 125]⟩, ⟨#[123, 126, 49, 125]⟩, ⟨#[94]⟩, ⟨#[36]⟩, ⟨#[91, 98, 93]⟩, ⟨#[40]⟩, ⟨#[41]⟩, ⟨#[43]⟩, ⟨#[92, 49]⟩, ⟨#[93]⟩, ⟨#[123, 57, 44, 49, 125]⟩, ⟨#[98]⟩, ⟨#[63]⟩, ⟨#[123, 126, 51, 48, 48, 125]⟩]
theorem wordsT_size : ∀ k (h : k < 20), (wordsT[k]'h).size ≤ 6 := by decide
set_option maxHeartbeats 4000000 in
set_option maxRecDepth 100000 in
theorem pwords_walk (A : Option Addr) (n c : Nat) (f : Nat → Int) (w : World) (hT : U.Tb w) (hC : U.Cells w w.heap.size A n f) : Calls Tryz.prog 5 #[.slice A n c] w fun e w' => e = .returned (.bool true) ∧ Below w.heap.size w w' := by
  have HT := Lib.hid hT; have HC := Lib.hid hC
  clear hT hC
  have hcells : ∀ k (hk : k < 20), (w.alloc (.cells (wordsT.map Value.string).toArray 9)).cell? ⟨w.heap.size, k, none⟩ = some (.string (wordsT[k]'hk)) := fun k hk => by
    have h := heap_new w (.cells (wordsT.map Value.string).toArray 9)
    simp only [World.cell?, h]
    rw [List.getElem?_toArray, List.getElem?_map, List.getElem?_eq_getElem hk]
    rfl
  have HCL := Lib.hid hcells
  have HB1 := Lib.hid ((Below.refl w.heap.size w).alloc (Nat.le_refl _) (.cells (wordsT.map Value.string).toArray 9))
  clear hcells
  go_enter Tryz.func5, Tryz.ntmps5
  go_upto_region 2 with fail
  change Code.wp _ _ _ _ (w.alloc (.cells (wordsT.map Value.string).toArray 9))
  generalize w.alloc (.cells (wordsT.map Value.string).toArray 9) = W1 at *
  go_wp2_with fail
  go_loopw [4, 5] (fun v t wr => ∃ (r : ByteArray) (i : Nat), v = .string r ∧ t = .int .i64 (i : Int) ∧ i ≤ n ∧ i ≤ 40 ∧ Hid (r.size ≤ 6 * i) ∧ wr = W1) (fun _ t _ => 41 - (intOf t).toNat)
  case atStart => exact ⟨⟨#[]⟩, 0, rfl, rfl, Nat.zero_le _, Nat.zero_le _, Lib.hid (Nat.le_refl _), rfl⟩
  case round =>
    obtain ⟨r, i, rfl, rfl, hin, hi40, HR, rfl⟩ := hrel
    by_cases h1 : i < n
    · have d1 : decide (i < n) = true := decide_eq_true h1
      have d1' : (i : Int) < (n : Int) := by omega
      by_cases h2 : i < 40
      · have d2 : decide (i < 40) = true := decide_eq_true h2
        have d2' : (i : Int) < 40 := by omega
        obtain ⟨b, off, rfl, hb, hcell⟩ := HC.out (by omega)
        have c0 := (HB1.out.cell (p := ⟨b, off + i, none⟩) hb).trans (hcell i h1)
        obtain ⟨k, hk, hk20⟩ : ∃ k : Nat, f i % 20 = (k : Int) ∧ k < 20 := ⟨(f i % 20).toNat, by omega, by omega⟩
        have HWI : Hid (Calls Tryz.prog 16 #[.int .i64 (f i), .int .i64 20] wr fun e w' => e = .returned (.int .i64 (k : Int)) ∧ wr = w') := Lib.hid ((S.within_any (f i) 20 wr (by decide) (by decide)).mono fun e w' h => ⟨by rw [h.1, ← hk]; rfl, h.2⟩)
        have p0 := HCL.out k hk20
        have hsx := wordsT_size k hk20
        have hsr : r.size ≤ 240 := by have := HR.out; omega
        have hk' : (k : Int) < 20 := by omega
        generalize wordsT[k] = x at *
        clear hcell hk
        go_wp2_with fail
        refine HWI.out.mono ?_
        rintro e w2 ⟨rfl, rfl⟩
        go_wp2_with fail
        go_roundw
        case rel => exact ⟨_, i + 1, rfl, congrArg (Value.int .i64) (by omega), h1, h2, Lib.hid (by have := HR.out; rw [size_cat]; omega), by first | trivial | rfl⟩
        case measure => simp [intOf]; omega
      · have d2 : decide (i < 40) = false := decide_eq_false h2
        have d2' : (40 : Int) ≤ (i : Int) := by omega
        have HA := Lib.hid (asks9_any r wr (HT.out.below HB1.out) (by have := HR.out; omega))
        go_wp2_with fail
        refine HA.out.mono ?_
        rintro e w2 ⟨rfl, hb2⟩
        have HB2 := Lib.hid (S.bel_trans HB1.out hb2)
        have HW := Lib.hid (wakes9_any w2 (HT.out.below HB2.out))
        go_wp2_with fail
        refine HW.out.mono ?_
        rintro e w3 ⟨rfl, hb3⟩
        go_wp2_with fail
        go_ret
        exact ⟨rfl, S.bel_trans HB2.out hb3⟩
    · have d1 : decide (i < n) = false := decide_eq_false h1
      have d1' : (n : Int) ≤ (i : Int) := by omega
      have HA := Lib.hid (asks9_any r wr (HT.out.below HB1.out) (by have := HR.out; omega))
      go_wp2_with fail
      refine HA.out.mono ?_
      rintro e w2 ⟨rfl, hb2⟩
      have HB2 := Lib.hid (S.bel_trans HB1.out hb2)
      have HW := Lib.hid (wakes9_any w2 (HT.out.below HB2.out))
      go_wp2_with fail
      refine HW.out.mono ?_
      rintro e w3 ⟨rfl, hb3⟩
      go_wp2_with fail
      go_ret
      exact ⟨rfl, S.bel_trans HB2.out hb3⟩
end Go.Proofs.YtceeimolfalmpaaGreatDoor.T
