/-
  What Join of utf and of the page's own answer for every list of at most 1000000 numbers: the bytes of each, one behind the other.
-/
import Derived.Test.YteabicdmgbcpaaaDoorW10
import Derived.Test.YteabicdmgbcpaaaDoorW2
import Derived.Test.YteabicdmgbcpaaaDoorBld
namespace Go.Proofs.YteabicdmgbcpaaaDoor
open Go.RowKit ObUtf

def bytesL (x : Int) : List UInt8 := (bytesB x).data.toList
def joinTo (f : Nat → Int) : Nat → List UInt8
  | 0 => []
  | k + 1 => joinTo f k ++ bytesL (f k)
theorem bytesB_small (x : Int) : (bytesB x).size ≤ 4 := by
  by_cases h : goodB x = true
  · rcases (show x < 128 ∨ (128 ≤ x ∧ x < 2048) ∨ (2048 ≤ x ∧ x < 65536) ∨ (65536 ≤ x ∧ x < 1114112) ∨ 1114112 ≤ x by omega) with k | k | k | k | k
    · rw [bytesB_1 h k]; exact (by decide : 1 ≤ 4)
    · rw [bytesB_2 h k.1 k.2]; exact (by decide : 2 ≤ 4)
    · rw [bytesB_3 h k.1 k.2]; exact (by decide : 3 ≤ 4)
    · rw [bytesB_4 h k.1 k.2]; exact (by decide : 4 ≤ 4)
    · rw [bytesB_raw h k]; exact (by decide : 1 ≤ 4)
  · unfold bytesB; rw [if_neg h]; exact Nat.zero_le _
theorem bytesL_length (x : Int) : (bytesL x).length = (bytesB x).size := by unfold bytesL; rw [Array.length_toList]; rfl
theorem joinTo_length (f : Nat → Int) (k : Nat) : (joinTo f k).length ≤ 4 * k := by
  induction k with
  | zero => exact Nat.le_refl _
  | succ k ih =>
    have h1 := bytesB_small (f k)
    have h2 := bytesL_length (f k)
    show (joinTo f k ++ bytesL (f k)).length ≤ _
    rw [List.length_append]; omega
theorem str_mk (s : ByteArray) : (⟨s.data.toList.toArray⟩ : ByteArray) = s := by cases s; simp
theorem builder_below {B b : Nat} {bs : List Value} {w w' : World} (h : Lib.IsBuilder 46 5 B b bs w) (hb : Below w.heap.size w w') : Lib.IsBuilder 46 5 B b bs w' := by
  have one : ∀ p, Lib.BuilderAt 46 5 B b p bs w → Lib.BuilderAt 46 5 B b p bs w' := fun p ⟨h1, v, h2, h3, h4⟩ => ⟨h1, v, (hb.block b (heap_lt h2)).trans h2, own_below h3 hb, h4⟩
  rcases h with h | h
  · exact Or.inl (one _ h)
  · exact Or.inr (one _ h)
theorem builder_more {B b : Nat} {l : List UInt8} {x : Int} {w : World} (h : Lib.IsBuilder 46 5 B b (Lib.byteCells l ++ Lib.strCells (bytesB x)) w) : Lib.IsBuilder 46 5 B b (Lib.byteCells (l ++ bytesL x)) w := by
  have e : Lib.byteCells (l ++ bytesL x) = Lib.byteCells l ++ Lib.strCells (bytesB x) := by
    rw [Lib.strCells_eq]; unfold Lib.byteCells bytesL; rw [List.map_append]
  rw [e]; exact h
set_option maxHeartbeats 400000 in
set_option maxRecDepth 100000 in
theorem join_any (A : Option Addr) (n c : Nat) (f : Nat → Int) (w : World) (h : Cells w w.heap.size A n f) (hn : n ≤ 1000000) :
    Calls Tryd.prog 21 #[.slice A n c] w fun e w' => e = .returned (.string ⟨(joinTo f n).toArray⟩) ∧ Below w.heap.size w w' := by
  have H := Lib.hid h; clear h
  have HF := Lib.hid (Lib.fresh_isBuilder 46 5 w)
  have H0 := Lib.hid (show joinTo f 0 = [] from rfl)
  go_enter Tryd.func21, Tryd.ntmps21
  go_wp2
  go_loopw [8] (fun t wr => ∃ k : Nat, k ≤ n ∧ t = .int .i64 k ∧ Lib.IsBuilder 46 5 w.heap.size w.heap.size (Lib.byteCells (joinTo f k)) wr ∧ Below w.heap.size w wr) (fun t _ => n - (intOf t).toNat)
  case atStart => exact ⟨0, Nat.zero_le _, rfl, HF.out, (Below.refl _ _).alloc (Nat.le_refl _) _⟩
  case round =>
    obtain ⟨k, hk, rfl, hbl, hb⟩ := hrel
    have HB := Lib.hid hbl; clear hbl
    by_cases hlt : k < n
    · obtain ⟨b1, o1, rfl, hb1, k1⟩ := H.out (by omega)
      have x1 := (hb.cell (p := ⟨b1, o1 + k, none⟩) hb1).trans (k1 k hlt)
      have hd : decide (k < n) = true := by simp [hlt]
      have HJ := Lib.hid (show joinTo f (k + 1) = joinTo f k ++ bytesL (f k) from rfl)
      have hj := joinTo_length f k
      have hsz := bytesB_small (f k)
      clear k1 H
      generalize joinTo f k = l at *
      generalize f k = y at *
      go_wp2_with (first | (go_at_call 25; refine (bytes_any _ _).mono ?_; rintro e w1 ⟨rfl, hb2⟩; have HB1 := Lib.hid (builder_below HB.out hb2); have hz1 := hb2.size) | (go_at_call 35; refine (write_any w.heap.size w.heap.size (Lib.byteCells l) _ _ HB1.out (by rw [Lib.byteCells_length]; omega) (by have := hb.size; omega)).mono ?_; rintro e w2 ⟨rfl, hw2, hb3⟩; have HB2 := Lib.hid (builder_more hw2); clear hw2))
      go_roundw
      case rel => exact ⟨k + 1, by omega, by go_num, by rw [HJ.out]; exact HB2.out, (bel_trans hb hb2).trans hb3⟩
      case measure => simp [intOf]; omega
    · obtain rfl : k = n := by omega
      have hd : decide (k < k) = false := by simp
      go_wp2_with (go_at_call 36; refine (Tryd.Builder_String_any w.heap.size w.heap.size (joinTo f k) _ HB.out hb.size).mono ?_; rintro e w2 ⟨rfl, hb3⟩)
      go_ret
      exact ⟨rfl, hb.trans hb3⟩
theorem str_app (l m : List UInt8) : (⟨l.toArray⟩ : ByteArray) ++ (⟨m.toArray⟩ : ByteArray) = ⟨(l ++ m).toArray⟩ := by
  apply ByteArray.ext; simp
theorem join_step (l : List UInt8) (x : Int) : (⟨l.toArray⟩ : ByteArray) ++ bytesB x = ⟨(l ++ bytesL x).toArray⟩ := by
  have h := str_app l (bytesL x)
  unfold bytesL at h ⊢
  rw [str_mk] at h
  exact h
set_option maxHeartbeats 400000 in
set_option maxRecDepth 100000 in
theorem rjoin_any (A : Option Addr) (n c : Nat) (f : Nat → Int) (w : World) (h : Cells w w.heap.size A n f) (hn : n ≤ 1000000) :
    Calls Tryd.prog 22 #[.slice A n c] w fun e w' => e = .returned (.string ⟨(joinTo f n).toArray⟩) ∧ Below w.heap.size w w' := by
  have H := Lib.hid h; clear h
  have H0 := Lib.hid (show joinTo f 0 = [] from rfl)
  go_enter Tryd.func22, Tryd.ntmps22
  go_wp2
  go_loopw [3, 4] (fun u t wr => ∃ k : Nat, k ≤ n ∧ t = .int .i64 k ∧ (∃ s : ByteArray, u = .string s ∧ s = ⟨(joinTo f k).toArray⟩) ∧ Below w.heap.size w wr) (fun _ t _ => n - (intOf t).toNat)
  case atStart => exact ⟨0, Nat.zero_le _, rfl, ⟨_, rfl, rfl⟩, Below.refl _ _⟩
  case round =>
    obtain ⟨k, hk, rfl, ⟨s, rfl, hs⟩, hb⟩ := hrel
    have HS := Lib.hid hs
    have hsz : s.size ≤ 4 * k := by
      have := joinTo_length f k
      have e : s.size = (joinTo f k).length := by rw [hs]; exact List.size_toArray
      omega
    clear hs
    by_cases hlt : k < n
    · obtain ⟨b1, o1, rfl, hb1, k1⟩ := H.out (by omega)
      have x1 := (hb.cell (p := ⟨b1, o1 + k, none⟩) hb1).trans (k1 k hlt)
      have hd : decide (k < n) = true := by simp [hlt]
      have HJ := Lib.hid (show joinTo f (k + 1) = joinTo f k ++ bytesL (f k) from rfl)
      have hsz2 := bytesB_small (f k)
      have hadd := fun W : World => run_string_add_sum (P := Tryd.prog) (w := W) s (bytesB (f k)) (by omega)
      clear k1 H
      go_wp2_with (go_at_call 26; refine (rbytes_any _ _).mono ?_; rintro e w1 ⟨rfl, hb2⟩)
      go_roundw
      case rel => exact ⟨k + 1, by omega, by go_num, ⟨_, rfl, by rw [HJ.out, HS.out]; exact join_step _ _⟩, bel_trans hb hb2⟩
      case measure => simp [intOf]; omega
    · obtain rfl : k = n := by omega
      have hd : decide (k < k) = false := by simp
      go_wp2
      go_ret
      exact ⟨ret_str HS.out, hb⟩
end Go.Proofs.YteabicdmgbcpaaaDoor
