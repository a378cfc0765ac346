/-
  What the statements' own small functions answer: a symbol as it stands in a class (escaped), a number's digits (Digits), a number below 26 (Within). No conditions but those written.
-/
import Derived.Test.YtekpliookdihlaaDoorV1
namespace Go.Proofs.YtekpliookdihlaaDoor
open Go.RowKit ObUtf ObSets ObLex

theorem bytes_size (x : Int) : (U.bytesB x).size ≤ 4 := by
  by_cases h : U.goodB x = true
  · rw [← (U.enc_at x h).2.1]; exact wd_le _ _
  · unfold U.bytesB; rw [if_neg h]; decide
theorem eb_size (x : Int) : (eb x).size ≤ 5 := by
  have := bytes_size x
  unfold eb
  split
  · rw [size_cat]; have : o92.size = 1 := rfl; omega
  · omega
theorem loop_ne (s : ByteArray) : ∀ (n i : Nat) (l : List UInt8), s.size - i ≤ n → l ≠ [] → ByteArray.toList.loop s i l ≠ []
  | 0, i, l, hn, h => by rw [ByteArray.toList.loop, if_neg (by omega)]; simpa using h
  | n + 1, i, l, hn, h => by
    rw [ByteArray.toList.loop]
    split
    · exact loop_ne s n _ _ (by omega) (by simp)
    · simpa using h
theorem empty_no {s : ByteArray} (h : 0 < s.size) : s.toList.isEmpty = false := by
  unfold ByteArray.toList
  rw [ByteArray.toList.loop, if_pos h]
  cases hl : ByteArray.toList.loop s (0 + 1) [s.get! 0] with
  | nil => exact absurd hl (loop_ne s _ _ _ (Nat.le_refl _) (by simp))
  | cons a l => rfl
theorem size_zero {s : ByteArray} (h : s.size = 0) : s = ⟨#[]⟩ := ByteArray.ext (Array.eq_empty_of_size_eq_zero h)
set_option maxHeartbeats 1000000 in
set_option maxRecDepth 100000 in
theorem eb_any (x : Int) (w : World) : Calls Tryd.prog 14 #[.int .i64 x] w fun e w' => e = .returned (.string (eb x)) ∧ Below w.heap.size w w' := by
  have HB := Lib.hid (U.rbytes_any x w)
  have hsz := bytes_size x
  by_cases hn : x = 92 ∨ x = 93 ∨ x = 45 ∨ x = 94
  · have e : eb x = o92 ++ U.bytesB x := by unfold eb needs; rw [if_pos (decide_eq_true hn)]
    rw [e]; clear e
    generalize U.bytesB x = t at *
    rcases hn with rfl | rfl | rfl | rfl
    all_goals (
      go_enter Tryd.func14, Tryd.ntmps14
      go_wp2_with fail
      refine HB.out.mono ?_
      rintro e w1 ⟨rfl, hb⟩
      go_wp2_with fail
      go_ret
      exact ⟨rfl, hb⟩)
  · have e : eb x = U.bytesB x := by unfold eb needs; rw [if_neg (by simpa using hn)]
    rw [e]; clear e
    generalize U.bytesB x = t at *
    have d1 : (x == 92) = false := beq_eq_false_iff_ne.2 (by omega)
    have d2 : (x == 93) = false := beq_eq_false_iff_ne.2 (by omega)
    have d3 : (x == 45) = false := beq_eq_false_iff_ne.2 (by omega)
    have d4 : (x == 94) = false := beq_eq_false_iff_ne.2 (by omega)
    go_enter Tryd.func14, Tryd.ntmps14
    go_wp2_with fail
    refine HB.out.mono ?_
    rintro e w1 ⟨rfl, hb⟩
    go_wp2_with fail
    go_ret
    exact ⟨rfl, hb⟩
set_option maxHeartbeats 400000 in
theorem within26 (x : Int) (w : World) : Calls Tryd.prog 12 #[.int .i64 x, .int .i64 26] w fun e w' => e = .returned (.int .i64 (x % 26)) ∧ w = w' := by
  have e := @Int.tmod_eq_emod x 26
  rw [show Int.natAbs 26 = 26 from rfl] at e
  have k : (x.tmod 26 = x % 26) ∨ (x.tmod 26 = x % 26 - 26 ∧ 0 < x % 26) := by
    rw [e]; split
    · left; omega
    · right; omega
  clear e
  have h1 : -26 < x.tmod 26 := by omega
  have h2 : x.tmod 26 < 26 := by omega
  have H3 := Lib.hid (show x.tmod 26 < 0 → x % 26 = x.tmod 26 + 26 by omega)
  have H4 := Lib.hid (show 0 ≤ x.tmod 26 → x % 26 = x.tmod 26 by omega)
  clear k
  go_enter Tryd.func12, Tryd.ntmps12
  go_wp2
  · go_ret
    exact ⟨S.ret_int (H3.out (by assumption)).symm, rfl⟩
  · go_ret
    exact ⟨S.ret_int (H4.out (by assumption)).symm, rfl⟩
def szOf : Value → Nat
  | .string s => s.size
  | _ => 0
set_option maxHeartbeats 1000000 in
set_option maxRecDepth 100000 in
theorem digits_any (n : Nat) (w : World) (hn : n ≤ 90000) : Calls Tryd.prog 17 #[.int .i64 (n : Int)] w fun e w' => ∃ x, e = .returned (.string x) ∧ (Dig x ∧ vl x = n ∧ 0 < x.size ∧ x.size ≤ n + 1) ∧ Below w.heap.size w w' := by
  have c0 : decide ((n : Int) < 0) = false := decide_eq_false (by omega)
  go_enter Tryd.func17, Tryd.ntmps17
  go_wp2_with fail
  go_loopw [3, 4] (fun tu ts wr => ∃ (u : Nat) (s : ByteArray), tu = .int .u64 (u : Int) ∧ ts = .string s ∧ Hid (Dig s) ∧ Hid (n = u * 10 ^ s.size + vl s) ∧ Hid (s.size = 0 → u = n) ∧ s.size + u ≤ n + 1 ∧ Hid (Below w.heap.size w wr)) (fun _ ts _ => n + 2 - szOf ts)
  case atStart => exact ⟨n, ⟨#[]⟩, rfl, rfl, Lib.hid fun k hk => absurd hk (by show ¬ k < 0; omega), Lib.hid (by show n = n * 10 ^ 0 + 0; simp), Lib.hid fun _ => rfl, by show 0 + n ≤ n + 1; omega, Lib.hid (Below.refl _ _)⟩
  case round =>
    obtain ⟨u, s, rfl, rfl, HD, HV, HZ, hsz, HB⟩ := hrel
    have HS := Lib.hid (fun (W : World) (hW : Below w.heap.size w W) (e : Value) => hW.alloc hW.size (.cells #[e] 5))
    obtain ⟨h1, h2, h3⟩ := dig_more HD.out HV.out
    have hcv := U.conv1 wr (48 + (u : Int) % 10) (by omega)
    rw [show (⟨#[UInt8.ofNat (48 + (u : Int) % 10).toNat]⟩ : ByteArray) = d1 (u % 10) by
      unfold d1; rw [show (48 + (u : Int) % 10).toNat = 48 + u % 10 by omega]] at hcv
    have hc1 : (d1 (u % 10)).size = 1 := rfl
    generalize d1 (u % 10) = c at *
    have H1 := Lib.hid h1; have H2 := Lib.hid h2; have H3 := Lib.hid h3
    clear h1 h2 h3
    have fin : (0 < u ∨ s.size = 0) → (∃ (u_1 : Nat) (s_1 : ByteArray), Value.int IntKind.u64 ((u : Int) / 10) = .int .u64 (u_1 : Int) ∧ Value.string (c ++ s) = .string s_1 ∧ Hid (Dig s_1) ∧ Hid (n = u_1 * 10 ^ s_1.size + vl s_1) ∧ Hid (s_1.size = 0 → u_1 = n) ∧ s_1.size + u_1 ≤ n + 1 ∧ Hid (Below w.heap.size w (wr.alloc (.cells #[.int .u8 (48 + (u : Int) % 10)] 5)))) ∧ n + 2 - (c ++ s).size < n + 2 - s.size := by
      intro hgo
      have e3 := H3.out
      have hz := HZ.out
      refine ⟨⟨u / 10, c ++ s, congrArg (Value.int .u64) (by omega), rfl, H1, H2, Lib.hid fun h => by omega, ?_, Lib.hid (HS.out _ HB.out _)⟩, ?_⟩
      · rcases hgo with h | h <;> omega
      · omega
    have FIN := Lib.hid fin
    clear fin
    by_cases hu : 0 < u
    · go_wp2_with fail
      go_roundw
      case rel => exact (FIN.out (.inl hu)).1
      case measure => exact (FIN.out (.inl hu)).2
    · obtain rfl : u = 0 := by omega
      by_cases h0 : 0 < s.size
      · have he := empty_no h0
        have HN := Lib.hid (show vl s = n by have := HV.out; omega)
        clear HV HZ H1 H2 H3 hcv FIN
        go_wp2_with fail
        go_ret
        exact ⟨s, rfl, ⟨HD.out, HN.out, h0, by omega⟩, HB.out⟩
      · obtain rfl := size_zero (s := s) (by omega)
        rw [show (48 : Int) + ((0 : Nat) : Int) % 10 = 48 from rfl] at hcv FIN
        go_wp2_with fail
        go_roundw
        case rel => exact (FIN.out (.inr rfl)).1
        case measure => exact (FIN.out (.inr rfl)).2
end Go.Proofs.YtekpliookdihlaaDoor
