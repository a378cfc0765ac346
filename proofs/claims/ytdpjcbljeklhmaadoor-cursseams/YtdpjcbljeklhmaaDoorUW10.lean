/-
  What Cut, Within, Ints and EqInts answer: a text's beginning, a number's rest, a list's beginning, whether two lists are the same. Conditions: lists of at most 1000000 numbers whose cells lie below a block.
-/
import Derived.Test.YtdpjcbljeklhmaaDoorUW9
namespace Go.Proofs.YtdpjcbljeklhmaaDoor.U
open Go.RowKit ObUtf

def cutB (s : ByteArray) (m : Nat) : ByteArray := if m < s.size then s.extract 0 m else s
theorem cutB_size (s : ByteArray) (m : Nat) : (cutB s m).size ≤ m := by
  unfold cutB; split
  · rw [ByteArray.size_extract]; omega
  · omega
set_option maxHeartbeats 400000 in
theorem cut_any (s : ByteArray) (M : Int) (w : World) (h0 : 0 ≤ M) : Calls Tryd.prog 9 #[.string s, .int .i64 M] w fun e w' => e = .returned (.string (cutB s M.toNat)) ∧ w = w' := by
  obtain ⟨m, rfl⟩ := Int.eq_ofNat_of_zero_le h0
  rw [Int.toNat_natCast]
  by_cases h : m < s.size
  · have e : cutB s m = s.extract 0 m := by unfold cutB; rw [if_pos h]
    rw [e]; clear e
    have hd : decide (m < s.size) = true := by simp [h]
    go_enter Tryd.func9, Tryd.ntmps9
    go_wp2
    go_ret
    exact ⟨rfl, rfl⟩
  · have e : cutB s m = s := by unfold cutB; rw [if_neg h]
    rw [e]; clear e
    have hd : decide (m < s.size) = false := by simp; omega
    go_enter Tryd.func9, Tryd.ntmps9
    go_wp2
    go_ret
    exact ⟨rfl, rfl⟩
set_option maxHeartbeats 400000 in
theorem within_any (x : Int) (w : World) : Calls Tryd.prog 14 #[.int .i64 x, .int .i64 1114384] w fun e w' => e = .returned (.int .i64 (x % 1114384)) ∧ w = w' := by
  have e := @Int.tmod_eq_emod x 1114384
  rw [show Int.natAbs 1114384 = 1114384 from rfl] at e
  have k : (x.tmod 1114384 = x % 1114384) ∨ (x.tmod 1114384 = x % 1114384 - 1114384 ∧ 0 < x % 1114384) := by
    rw [e]; split
    · left; omega
    · right; omega
  clear e
  have h1 : -1114384 < x.tmod 1114384 := by omega
  have h2 : x.tmod 1114384 < 1114384 := by omega
  have H3 := Lib.hid (show x.tmod 1114384 < 0 → x % 1114384 = x.tmod 1114384 + 1114384 by omega)
  have H4 := Lib.hid (show 0 ≤ x.tmod 1114384 → x % 1114384 = x.tmod 1114384 by omega)
  clear k
  go_enter Tryd.func14, Tryd.ntmps14
  go_wp2
  · go_ret
    exact ⟨ret_int (H3.out (by assumption)).symm, rfl⟩
  · go_ret
    exact ⟨ret_int (H4.out (by assumption)).symm, rfl⟩

/-- The slice's cells hold the values of f. -/
def Cells (w : World) (B : Nat) (A : Option Addr) (n : Nat) (f : Nat → Int) : Prop := 0 < n → ∃ b off, A = some ⟨b, off, none⟩ ∧ b < B ∧ ∀ j, j < n → w.cell? ⟨b, off + j, none⟩ = some (.int .i64 (f j))
theorem Cells.below {w w' : World} {B : Nat} {A : Option Addr} {n : Nat} {f : Nat → Int} (h : Cells w B A n f) (hb : Below B w w') : Cells w' B A n f := fun hn => by
  obtain ⟨b, off, e, hB, hc⟩ := h hn
  exact ⟨b, off, e, hB, fun j hj => (hb.cell (p := ⟨b, off + j, none⟩) hB).trans (hc j hj)⟩
theorem Cells.more {w : World} {B B' : Nat} {A : Option Addr} {n : Nat} {f : Nat → Int} (h : Cells w B A n f) (hb : B ≤ B') : Cells w B' A n f := fun hn => by
  obtain ⟨b, off, e, hB, hc⟩ := h hn
  exact ⟨b, off, e, by omega, hc⟩
def SameTo (f g : Nat → Int) (k : Nat) : Prop := ∀ j, j < k → f j = g j
set_option maxHeartbeats 400000 in
set_option maxRecDepth 100000 in
theorem eq_same (A1 A2 : Option Addr) (n c1 c2 B : Nat) (f g : Nat → Int) (w : World) (h1 : Cells w B A1 n f) (h2 : Cells w B A2 n g) (hn : n ≤ 1000000) (h : SameTo f g n) :
    Calls Tryd.prog 27 #[.slice A1 n c1, .slice A2 n c2] w fun e w' => e = .returned (.bool true) ∧ Below w.heap.size w w' := by
  have H1 := Lib.hid h1; have H2 := Lib.hid h2; have H := Lib.hid h
  clear h1 h2 h
  go_enter Tryd.func27, Tryd.ntmps27
  go_wp2
  go_loopw [5] (fun t wr => ∃ k : Nat, k ≤ n ∧ t = .int .i64 k ∧ ∃ q, wr = w.drewN q) (fun t _ => n - (intOf t).toNat)
  case atStart => exact ⟨0, Nat.zero_le _, rfl, 0, rfl⟩
  case round =>
    obtain ⟨k, hk, rfl, q, rfl⟩ := hrel
    by_cases hlt : k < n
    · obtain ⟨b1, o1, rfl, _, k1⟩ := H1.out (by omega)
      obtain ⟨b2, o2, rfl, _, k2⟩ := H2.out (by omega)
      have x1 := k1 k hlt
      have x2 := k2 k hlt
      have e := H.out k hlt
      rw [← e] at x2
      clear k1 k2 e H1 H2
      have hlt' : (k : Int) < (n : Int) := by omega
      have hd : decide (k < n) = true := by simp [hlt]
      have hq : (f k != f k) = false := by simp
      generalize f k = y at *
      go_wp2
      go_quiet (fail)
      go_wp2
      go_roundw
      case rel => exact ⟨k + 1, by omega, by go_num, ⟨_, rfl⟩⟩
      case measure => simp [intOf]; omega
    · have hd : decide (k < n) = false := by simp; omega
      go_wp2
      go_ret
      exact ⟨rfl, below_drews (Below.refl _ _) _⟩
end Go.Proofs.YtdpjcbljeklhmaaDoor.U
