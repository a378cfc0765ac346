/-
  What the page's own text and place answer and leave: Move, Insert, Delete, Cut, Byte; the remainder of a number; a text cut short. For every text that fits its bound, and every argument.
-/
import Derived.Test.YtdpjcbljeklhmaaDoorW8
namespace Go.Proofs.YtdpjcbljeklhmaaDoor
open Go.RowKit ObGap

theorem bs_app (u v : Bs) : (⟨⟨u⟩⟩ : ByteArray) ++ ⟨⟨v⟩⟩ = ⟨⟨u ++ v⟩⟩ := by
  apply ByteArray.ext
  simp
theorem bs_ext (s : Bs) (a b : Nat) : (⟨⟨s⟩⟩ : ByteArray).extract a b = ⟨⟨(s.take b).drop a⟩⟩ := by
  apply ByteArray.ext
  apply Array.ext'
  simp [List.drop_take]
theorem outs {s : Bs} {i : Int} (h : out s i = true) : decide (i < 0) = true ∨ (decide (i < 0) = false ∧ decide ((s.length : Int) < i) = true) := by
  unfold out at h
  cases h1 : decide (i < 0)
  · rw [h1] at h; exact .inr ⟨rfl, by simpa using h⟩
  · exact .inl rfl
theorem ins {s : Bs} {i : Int} (h : out s i = false) : decide (i < 0) = false ∧ decide ((s.length : Int) < i) = false := by
  unfold out at h
  simpa using h

theorem dels {s : Bs} {i n : Int} (h : delB s i n = true) (ho : out s i = false) : decide (n < 0) = true ∨ (decide (n < 0) = false ∧ decide ((s.length : Int) - i < n) = true) := by
  unfold delB at h
  rw [ho] at h
  cases h1 : decide (n < 0)
  · rw [h1] at h; exact .inr ⟨rfl, by simpa using h⟩
  · exact .inl rfl
/-- The remainder, from 0 on. -/
def wi (i : Int) (n : Nat) : Int := if Int.tmod i n < 0 then Int.tmod i n + n else Int.tmod i n
theorem wi_in (i : Int) (n : Nat) (h : 0 < n) : 0 ≤ wi i n ∧ wi i n < n := by
  have h1 := Int.tmod_lt_of_pos i (show (0 : Int) < n by omega)
  have h2 := Int.lt_tmod_of_pos i (show (0 : Int) < n by omega)
  unfold wi
  split <;> omega
set_option maxHeartbeats 400000 in
theorem within_any (i : Int) (n : Nat) (h : 0 < n) (hm : n ≤ 1000000) (w : World) : Calls Tryd.prog 14 #[.int .i64 i, .int .i64 (n : Int)] w fun e w' => e = .returned (.int .i64 (wi i n)) ∧ w = w' := by
  have h1 := Int.tmod_lt_of_pos i (show (0 : Int) < n by omega)
  have h2 := Int.lt_tmod_of_pos i (show (0 : Int) < n by omega)
  have hz : ((n : Int) == 0) = false := by simp; omega
  have hz2 : ¬ (n : Int) = 0 := by omega
  have hz3 : ¬ n = 0 := by omega
  have w0 : IntKind.i64.wrap (Int.tmod i n) = Int.tmod i n := IntWalk.i64_in _ (by omega)
  have w1 : IntKind.i64.wrap (Int.tmod i n + n) = Int.tmod i n + n := IntWalk.i64_in _ (by omega)
  obtain ⟨v, hv⟩ : ∃ v, v = wi i n := ⟨_, rfl⟩
  rw [← hv]
  unfold wi at hv
  by_cases hneg : Int.tmod i n < 0
  · have d : decide (Int.tmod i n < 0) = true := by simp [hneg]
    rw [if_pos hneg] at hv
    have HV := Lib.hid hv
    clear hneg hv h1 h2
    go_enter Tryd.func14, Tryd.ntmps14
    go_wp2_with fail
    go_ret
    exact ⟨ret_int HV.out.symm, rfl⟩
  · have d : decide (Int.tmod i n < 0) = false := by simpa using hneg
    rw [if_neg hneg] at hv
    have HV := Lib.hid hv
    clear hneg hv h1 h2
    go_enter Tryd.func14, Tryd.ntmps14
    go_wp2_with fail
    go_ret
    exact ⟨ret_int HV.out.symm, rfl⟩
set_option maxHeartbeats 400000 in
theorem lcut_any (s : Bs) (n : Nat) (w : World) : Calls Tryd.prog 9 #[str s, .int .i64 (n : Int)] w fun e w' => e = .returned (str (s.take n)) ∧ w = w' := by
  by_cases h : n < s.length
  · have d : decide (n < s.length) = true := by simp [h]
    have e1 : (⟨⟨s⟩⟩ : ByteArray).extract 0 n = ⟨⟨s.take n⟩⟩ := by rw [bs_ext]; rfl
    have i1 : (n : Int) ≤ (s.length : Int) := by omega
    generalize s.take n = u at *
    clear h
    go_enter Tryd.func9, Tryd.ntmps9
    go_wp2_with fail
    go_ret
    exact ⟨rfl, rfl⟩
  · have d : decide (n < s.length) = false := by simpa using h
    rw [List.take_of_length_le (by omega)]
    clear h
    go_enter Tryd.func9, Tryd.ntmps9
    go_wp2_with fail
    go_ret
    exact ⟨rfl, rfl⟩
theorem text_chk {w : World} {c g mx : Nat} {s : Bs} {p : Nat} (h : Chk w c g mx s p) : Calls Tryd.prog 52 #[ptr c] w fun e w' => e = .returned (str s) ∧ Below w.heap.size w w' := by
  obtain ⟨L, K, r, hk, _, rfl⟩ := h
  exact text_ck hk
theorem byte_chk {w : World} {c g mx : Nat} {s : Bs} {p : Nat} (h : Chk w c g mx s p) (i : Int) : Calls Tryd.prog 54 #[ptr c, .int .i64 i] w fun e w' => e = .returned (.int .i64 (byt s i)) ∧ Below w.heap.size w w' := by
  obtain ⟨L, K, r, hk, _, rfl⟩ := h
  exact byte_ck hk i
end Go.Proofs.YtdpjcbljeklhmaaDoor
