/-
  What Bytes of utf and of the page's own answer, for every int: the bytes of a symbol, nothing of what is none; they make a block, and leave what was.
-/
import Derived.Test.YteabicdmgbcpaaaDoorW1
import Derived.Laws.BitsAllLaws
import Derived.Laws.BitsLemmas
namespace Go.Proofs.YteabicdmgbcpaaaDoor
open Go.RowKit

def bytesB (x : Int) : ByteArray := if goodB x = true then (if x < 1114112 then Utf8.encode x else ⟨#[UInt8.ofNat (x - 1114112).toNat]⟩) else ⟨#[]⟩

theorem and63 (x : Int) (h0 : 0 ≤ x) (h1 : x < 9223372036854775808) : bits .and .i64 x 63 = x % 64 := by
  obtain ⟨n, rfl⟩ := Int.eq_ofNat_of_zero_le h0
  have e1 : (BitVec.ofInt 64 (n : Int)).toNat = n := by rw [BitVec.ofInt_natCast, BitVec.toNat_ofNat]; exact Nat.mod_eq_of_lt (by omega)
  have e2 : (BitVec.ofInt 64 (63 : Int)).toNat = 63 := by decide
  have e3 : n &&& 63 = n % 64 := Nat.and_two_pow_sub_one_eq_mod n 6
  show IntKind.i64.wrap ((BitVec.ofInt 64 (n : Int) &&& BitVec.ofInt 64 (63 : Int)).toNat : Int) = _
  rw [BitVec.toNat_and, e1, e2, e3, IntKind.wrap_i64]
  omega
theorem conv_new (w : World) (ns : List Int) (hn : ∀ n ∈ ns, 0 ≤ n ∧ n < 256) :
    (convert 44 9 (.slice (some ⟨w.heap.size, 0, none⟩) ns.length ns.length)).run Tryd.prog (w.alloc (.cells (ns.map (Value.int .u8)).toArray 5)) = .ok (.string ⟨(ns.map fun n => UInt8.ofNat n.toNat).toArray⟩) (w.alloc (.cells (ns.map (Value.int .u8)).toArray 5)) := by
  have h := run_convert_bytes_back (P := Tryd.prog) (w.alloc (.cells (ns.map (Value.int .u8)).toArray 5)) 44 9 5 ⟨w.heap.size, 0, none⟩ ns.length (ns.map fun n => UInt8.ofNat n.toNat) Tryd.underlying44 Tryd.underlying5 Tryd.underlying9 (fun j hj => by
    have hj' : j < ns.length := by simpa using hj
    have hb := hn ns[j] (List.getElem_mem hj')
    have e : (((ns.map fun n => UInt8.ofNat n.toNat)[j]).toNat : Int) = ns[j] := by
      simp
      omega
    rw [e, show (Addr.add ⟨w.heap.size, 0, none⟩ j) = ⟨w.heap.size, j, none⟩ by unfold Addr.add; split <;> simp_all, World.cell?_alloc_at _ _ _ _ rfl]
    simp [List.getElem?_eq_getElem hj'])
  simpa using h
theorem conv1 (w : World) (a : Int) (ha : 0 ≤ a ∧ a < 256) :
    (convert 44 9 (.slice (some ⟨w.heap.size, 0, none⟩) 1 1)).run Tryd.prog (w.alloc (.cells #[.int .u8 a] 5)) = .ok (.string ⟨#[UInt8.ofNat a.toNat]⟩) (w.alloc (.cells #[.int .u8 a] 5)) :=
  conv_new w [a] (by simp; omega)
theorem conv2 (w : World) (a b : Int) (ha : 0 ≤ a ∧ a < 256) (hb : 0 ≤ b ∧ b < 256) :
    (convert 44 9 (.slice (some ⟨w.heap.size, 0, none⟩) 2 2)).run Tryd.prog (w.alloc (.cells #[.int .u8 a, .int .u8 b] 5)) = .ok (.string ⟨#[UInt8.ofNat a.toNat, UInt8.ofNat b.toNat]⟩) (w.alloc (.cells #[.int .u8 a, .int .u8 b] 5)) :=
  conv_new w [a, b] (by simp; omega)
theorem conv3 (w : World) (a b c : Int) (ha : 0 ≤ a ∧ a < 256) (hb : 0 ≤ b ∧ b < 256) (hc : 0 ≤ c ∧ c < 256) :
    (convert 44 9 (.slice (some ⟨w.heap.size, 0, none⟩) 3 3)).run Tryd.prog (w.alloc (.cells #[.int .u8 a, .int .u8 b, .int .u8 c] 5)) = .ok (.string ⟨#[UInt8.ofNat a.toNat, UInt8.ofNat b.toNat, UInt8.ofNat c.toNat]⟩) (w.alloc (.cells #[.int .u8 a, .int .u8 b, .int .u8 c] 5)) :=
  conv_new w [a, b, c] (by simp; omega)
theorem conv4 (w : World) (a b c d : Int) (ha : 0 ≤ a ∧ a < 256) (hb : 0 ≤ b ∧ b < 256) (hc : 0 ≤ c ∧ c < 256) (hd : 0 ≤ d ∧ d < 256) :
    (convert 44 9 (.slice (some ⟨w.heap.size, 0, none⟩) 4 4)).run Tryd.prog (w.alloc (.cells #[.int .u8 a, .int .u8 b, .int .u8 c, .int .u8 d] 5)) = .ok (.string ⟨#[UInt8.ofNat a.toNat, UInt8.ofNat b.toNat, UInt8.ofNat c.toNat, UInt8.ofNat d.toNat]⟩) (w.alloc (.cells #[.int .u8 a, .int .u8 b, .int .u8 c, .int .u8 d] 5)) :=
  conv_new w [a, b, c, d] (by simp; omega)
theorem ret_str {a b : ByteArray} (h : a = b) : Ending.returned (.string a) = .returned (.string b) := by rw [h]
theorem good_cases {x : Int} (h : goodB x = true) : (0 ≤ x ∧ x ≤ 55295) ∨ (57344 ≤ x ∧ x ≤ 1114111) ∨ (1114240 ≤ x ∧ x ≤ 1114367) := by simpa [goodB] using h
theorem bytesB_raw {x : Int} (h : goodB x = true) (hx : 1114112 ≤ x) : bytesB x = ⟨#[UInt8.ofNat (x - 1114112).toNat]⟩ := by unfold bytesB; rw [if_pos h, if_neg (by omega)]
theorem enc_of {x : Int} (h : goodB x = true) (hx : x < 1114112) : bytesB x = Utf8.encode x ∧ 0 ≤ x ∧ Utf8.valid x = true := by
  have hc := good_cases h
  refine ⟨by unfold bytesB; rw [if_pos h, if_pos hx], by omega, ?_⟩
  rw [validRune_eq]; unfold validRune; simp; omega
theorem bytesB_1 {x : Int} (h : goodB x = true) (hx : x < 128) : bytesB x = ⟨#[UInt8.ofNat x.toNat]⟩ := by
  obtain ⟨e, h0, hv⟩ := enc_of h (by omega)
  rw [e]; unfold Utf8.encode
  simp only [hv, if_true]
  rw [if_pos (by omega)]
theorem bytesB_2 {x : Int} (h : goodB x = true) (h1 : 128 ≤ x) (hx : x < 2048) : bytesB x = ⟨#[UInt8.ofNat (192 + x / 64).toNat, UInt8.ofNat (128 + x % 64).toNat]⟩ := by
  obtain ⟨e, h0, hv⟩ := enc_of h (by omega)
  rw [e]; unfold Utf8.encode
  simp only [hv, if_true]
  rw [if_neg (by omega), if_pos (by omega), show 0xC0 + x.toNat / 64 = (192 + x / 64).toNat by omega, show 0x80 + x.toNat % 64 = (128 + x % 64).toNat by omega]
theorem bytesB_3 {x : Int} (h : goodB x = true) (h1 : 2048 ≤ x) (hx : x < 65536) : bytesB x = ⟨#[UInt8.ofNat (224 + x / 4096).toNat, UInt8.ofNat (128 + x / 64 % 64).toNat, UInt8.ofNat (128 + x % 64).toNat]⟩ := by
  obtain ⟨e, h0, hv⟩ := enc_of h (by omega)
  rw [e]; unfold Utf8.encode
  simp only [hv, if_true]
  rw [if_neg (by omega), if_neg (by omega), if_pos (by omega), show 0xE0 + x.toNat / 4096 = (224 + x / 4096).toNat by omega, show 0x80 + x.toNat / 64 % 64 = (128 + x / 64 % 64).toNat by omega, show 0x80 + x.toNat % 64 = (128 + x % 64).toNat by omega]
theorem bytesB_4 {x : Int} (h : goodB x = true) (h1 : 65536 ≤ x) (hx : x < 1114112) : bytesB x = ⟨#[UInt8.ofNat (240 + x / 262144).toNat, UInt8.ofNat (128 + x / 4096 % 64).toNat, UInt8.ofNat (128 + x / 64 % 64).toNat, UInt8.ofNat (128 + x % 64).toNat]⟩ := by
  obtain ⟨e, h0, hv⟩ := enc_of h (by omega)
  rw [e]; unfold Utf8.encode
  simp only [hv, if_true]
  rw [if_neg (by omega), if_neg (by omega), if_neg (by omega), show 0xF0 + x.toNat / 262144 = (240 + x / 262144).toNat by omega, show 0x80 + x.toNat / 4096 % 64 = (128 + x / 4096 % 64).toNat by omega, show 0x80 + x.toNat / 64 % 64 = (128 + x / 64 % 64).toNat by omega, show 0x80 + x.toNat % 64 = (128 + x % 64).toNat by omega]

set_option maxHeartbeats 400000 in
theorem bytes_any (x : Int) (w : World) : Calls Tryd.prog 25 #[.int .i64 x] w fun e w' => e = .returned (.string (bytesB x)) ∧ Below w.heap.size w w' := by
  by_cases h : goodB x = true
  · by_cases hx : 1114112 ≤ x
    · have hc := good_cases h
      have h1 : 1114240 ≤ x := by omega
      have h2 : x ≤ 1114367 := by omega
      have hcv := conv1 w (x - 1114112) (by omega)
      rw [bytesB_raw h hx]
      clear hc
      go_enter Tryd.func25, Tryd.ntmps25
      go_wp2_with (go_at_call 23; refine (good_any _ _).mono ?_; rintro e w' ⟨rfl, rfl⟩)
      go_ret
      exact ⟨rfl, (Below.refl _ _).alloc (Nat.le_refl _) _⟩
    · obtain ⟨e, h0, _⟩ := enc_of h (by omega)
      have h1 : x ≤ 1114111 := by omega
      rw [e]; clear e
      go_enter Tryd.func25, Tryd.ntmps25
      go_wp2_with (go_at_call 23; refine (good_any _ _).mono ?_; rintro e w' ⟨rfl, rfl⟩)
      go_ret
      exact ⟨rfl, Below.refl _ _⟩
  · have h' : goodB x = false := by simpa using h
    have e : bytesB x = ⟨#[]⟩ := by unfold bytesB; rw [if_neg h]
    rw [e]; clear e h
    go_enter Tryd.func25, Tryd.ntmps25
    go_wp2_with (go_at_call 23; refine (good_any _ _).mono ?_; rintro e w' ⟨rfl, rfl⟩)
    go_ret
    exact ⟨rfl, Below.refl _ _⟩
set_option maxHeartbeats 1000000 in
theorem rbytes_any (x : Int) (w : World) : Calls Tryd.prog 26 #[.int .i64 x] w fun e w' => e = .returned (.string (bytesB x)) ∧ Below w.heap.size w w' := by
  by_cases h : goodB x = true
  · have hc := good_cases h
    rcases (show (1114112 ≤ x) ∨ (0 ≤ x ∧ x < 128) ∨ (128 ≤ x ∧ x < 2048) ∨ (2048 ≤ x ∧ x < 65536) ∨ (65536 ≤ x ∧ x < 1114112) by omega) with hx | ⟨h1, h2⟩ | ⟨h1, h2⟩ | ⟨h1, h2⟩ | ⟨h1, h2⟩
    · have h1 : 1114240 ≤ x := by omega
      have h2 : x ≤ 1114367 := by omega
      have hcv := conv1 w (x - 1114112) (by omega)
      rw [bytesB_raw h hx]
      clear hc
      go_enter Tryd.func26, Tryd.ntmps26
      go_wp2_with (go_at_call 24; refine (rgood_any _ _).mono ?_; rintro e w' ⟨rfl, rfl⟩)
      go_ret
      exact ⟨rfl, (Below.refl _ _).alloc (Nat.le_refl _) _⟩
    · have hcv := conv1 w x (by omega)
      rw [bytesB_1 h h2]
      clear hc
      go_enter Tryd.func26, Tryd.ntmps26
      go_wp2_with (go_at_call 24; refine (rgood_any _ _).mono ?_; rintro e w' ⟨rfl, rfl⟩)
      go_ret
      exact ⟨rfl, (Below.refl _ _).alloc (Nat.le_refl _) _⟩
    · have hcv := conv2 w (192 + x / 64) (128 + x % 64) (by omega) (by omega)
      have b1 := and63 x (by omega) (by omega)
      rw [bytesB_2 h h1 h2]
      clear hc
      go_enter Tryd.func26, Tryd.ntmps26
      go_wp2_with (go_at_call 24; refine (rgood_any _ _).mono ?_; rintro e w' ⟨rfl, rfl⟩)
      go_ret
      exact ⟨rfl, (Below.refl _ _).alloc (Nat.le_refl _) _⟩
    · have hcv := conv3 w (224 + x / 4096) (128 + x / 64 % 64) (128 + x % 64) (by omega) (by omega) (by omega)
      have b1 := and63 x (by omega) (by omega)
      have b2 := and63 (x / 64) (by omega) (by omega)
      rw [bytesB_3 h h1 h2]
      clear hc
      go_enter Tryd.func26, Tryd.ntmps26
      go_wp2_with (go_at_call 24; refine (rgood_any _ _).mono ?_; rintro e w' ⟨rfl, rfl⟩)
      go_ret
      exact ⟨rfl, (Below.refl _ _).alloc (Nat.le_refl _) _⟩
    · have hcv := conv4 w (240 + x / 262144) (128 + x / 4096 % 64) (128 + x / 64 % 64) (128 + x % 64) (by omega) (by omega) (by omega) (by omega)
      have b1 := and63 x (by omega) (by omega)
      have b2 := and63 (x / 64) (by omega) (by omega)
      have b3 := and63 (x / 4096) (by omega) (by omega)
      rw [bytesB_4 h h1 h2]
      clear hc
      go_enter Tryd.func26, Tryd.ntmps26
      go_wp2_with (go_at_call 24; refine (rgood_any _ _).mono ?_; rintro e w' ⟨rfl, rfl⟩)
      go_ret
      exact ⟨rfl, (Below.refl _ _).alloc (Nat.le_refl _) _⟩
  · have h' : goodB x = false := by simpa using h
    have e : bytesB x = ⟨#[]⟩ := by unfold bytesB; rw [if_neg h]
    rw [e]; clear e h
    go_enter Tryd.func26, Tryd.ntmps26
    go_wp2_with (go_at_call 24; refine (rgood_any _ _).mono ?_; rintro e w' ⟨rfl, rfl⟩)
    go_ret
    exact ⟨rfl, Below.refl _ _⟩
end Go.Proofs.YteabicdmgbcpaaaDoor
