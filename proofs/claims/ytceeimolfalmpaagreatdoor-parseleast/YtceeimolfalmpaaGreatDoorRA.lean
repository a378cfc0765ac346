/-
  What the page's own digit, letter, is, kind, number and escape answer, for every text and place. Conditions: the text has at most 100000 bytes.
  What the page's own number and escape answer, for every text and place. Conditions: the text has at most 100000 bytes.
-/
import Derived.Test.YtceeimolfalmpaaGreatDoorLE
import Derived.Test.YtceeimolfalmpaaGreatDoorLC
namespace Go.Proofs.YtceeimolfalmpaaGreatDoor
open Go.RowKit ObUtf ObSets ObLex

theorem rat_nat (s : ByteArray) (i : Nat) (w : World) (hs : s.size ≤ 100000) : Calls Tryz.prog 74 #[.string s, .int .i64 (i : Int)] w fun e w' => e = .returned (.tuple #[.int .i64 (sy s i), .int .i64 (wd s i : Int)]) ∧ Below w.heap.size w w' := by
  have h := U.rat_any s (i : Int) w (by unfold maxLen; omega)
  have e1 : U.syI s (i : Int) = sy s i := by unfold U.syI; rw [if_neg (by omega), Int.toNat_natCast]
  have e2 : U.wdI s (i : Int) = (wd s i : Int) := by unfold U.wdI; rw [if_neg (by omega), Int.toNat_natCast]
  rw [e1, e2] at h
  exact h
set_option maxHeartbeats 400000 in
theorem digit_is (x : Int) (b : Bool) (hb : b = decide (48 ≤ x ∧ x ≤ 57)) (w : World) : Calls Tryz.prog 112 #[.int .i64 x] w fun e w' => e = .returned (.bool b) ∧ w = w' := by
  have HB := Lib.hid hb
  clear hb
  go_enter Tryz.func112, Tryz.ntmps112
  go_wp2_with fail
  all_goals (go_ret; refine ⟨ret_bool ?_, rfl⟩)
  all_goals (rw [HB.out]; clear HB; rw [Bool.eq_iff_iff]; simp at *; try omega)
set_option maxHeartbeats 400000 in
theorem letter_is (x : Int) (b : Bool) (hb : b = decide ((97 ≤ x ∧ x ≤ 122) ∨ (65 ≤ x ∧ x ≤ 90))) (w : World) : Calls Tryz.prog 113 #[.int .i64 x] w fun e w' => e = .returned (.bool b) ∧ w = w' := by
  have HB := Lib.hid hb
  clear hb
  go_enter Tryz.func113, Tryz.ntmps113
  go_wp2_with fail
  all_goals (go_ret; refine ⟨ret_bool ?_, rfl⟩)
  all_goals (rw [HB.out]; clear HB; rw [Bool.eq_iff_iff]; simp at *; try omega)
set_option maxHeartbeats 400000 in
theorem is_any (s : ByteArray) (i c : Nat) (b : Bool) (hb : b = decide (bt s i = c)) (hc : c ≠ 0) (w : World) : Calls Tryz.prog 73 #[.string s, .int .i64 (i : Int), .int .u8 (c : Int)] w fun e w' => e = .returned (.bool b) ∧ w = w' := by
  by_cases hi : i < s.size
  · have hg := U.bt_eq s i hi
    have e2 : (((s[i]'hi).toNat : Int) == (c : Int)) = b := by rw [hb, ← hg, Bool.eq_iff_iff]; simp; exact Int.ofNat_inj
    have d1 : decide (i < s.size) = true := decide_eq_true hi
    clear hb hg
    go_enter Tryz.func73, Tryz.ntmps73
    go_wp2_with fail
    go_ret
    exact ⟨rfl, rfl⟩
  · have d1 : decide (i < s.size) = false := decide_eq_false hi
    obtain rfl : b = false := by rw [hb, bt_out (by omega)]; exact decide_eq_false (by omega)
    clear hb
    go_enter Tryz.func73, Tryz.ntmps73
    go_wp2_with fail
    go_ret
    exact ⟨rfl, rfl⟩
/-- The three rows of kind, made one behind the other. -/
abbrev K1 : Obj := .cells #[.int .i64 48, .int .i64 57] 84
abbrev K2 : Obj := .cells #[.int .i64 48, .int .i64 57, .int .i64 65, .int .i64 90, .int .i64 95, .int .i64 95, .int .i64 97, .int .i64 122] 84
abbrev K3 : Obj := .cells #[.int .i64 9, .int .i64 13, .int .i64 32, .int .i64 32] 84
theorem k_below (w : World) : Below w.heap.size w (((w.alloc K1).alloc K2).alloc K3) := (((Below.refl w.heap.size w).alloc (Nat.le_refl _) _).alloc (by simp) _).alloc (by simp; omega) _
theorem k_rows (w : World) : S.Ow (((w.alloc K1).alloc K2).alloc K3) w.heap.size (.slice (some ⟨w.heap.size, 0, none⟩) 1 1) digits ∧ S.Ow (((w.alloc K1).alloc K2).alloc K3) w.heap.size (.slice (some ⟨w.heap.size + 1, 0, none⟩) 4 4) wordly ∧ S.Ow (((w.alloc K1).alloc K2).alloc K3) w.heap.size (.slice (some ⟨w.heap.size + 1 + 1, 0, none⟩) 2 2) blanks := by
  refine ⟨((ow_lit1 w 48 57).new _).new _, ?_, ?_⟩
  · have := (ow_lit4 (w.alloc K1) 48 57 65 90 95 95 97 122).new K3
    rw [show (w.alloc K1).heap.size = w.heap.size + 1 by simp] at this
    exact this.less (by omega)
  · have := ow_lit2 ((w.alloc K1).alloc K2) 9 13 32 32
    rw [show ((w.alloc K1).alloc K2).heap.size = w.heap.size + 1 + 1 by simp] at this
    exact this.less (by omega)
set_option maxHeartbeats 1000000 in
set_option maxRecDepth 100000 in
theorem rkind_some (x : Int) (w : World) (h : x = 100 ∨ x = 119 ∨ x = 115 ∨ x = 68 ∨ x = 87 ∨ x = 83) : Calls Tryz.prog 111 #[.int .i64 x] w (S.RetR (kind x) w) := by
  obtain ⟨k1, k2, k3⟩ := k_rows w
  have HK1 := Lib.hid k1; have HK2 := Lib.hid k2; have HK3 := Lib.hid k3
  have HB := Lib.hid (k_below w)
  have HN1 := Lib.hid (fun (A : Option Addr) (k : Nat) (W : World) (h : S.Rgs W W.heap.size A digits) => (show Calls Tryz.prog 47 #[.slice A 1 k] W (S.RetR (notL digits) W) from S.rnot_any A k digits W h (by decide)))
  have HN2 := Lib.hid (fun (A : Option Addr) (k : Nat) (W : World) (h : S.Rgs W W.heap.size A wordly) => (show Calls Tryz.prog 47 #[.slice A 4 k] W (S.RetR (notL wordly) W) from S.rnot_any A k wordly W h (by decide)))
  have HN3 := Lib.hid (fun (A : Option Addr) (k : Nat) (W : World) (h : S.Rgs W W.heap.size A blanks) => (show Calls Tryz.prog 47 #[.slice A 2 k] W (S.RetR (notL blanks) W) from S.rnot_any A k blanks W h (by decide)))
  clear k1 k2 k3
  rcases h with rfl | rfl | rfl | rfl | rfl | rfl
  · rw [show kind 100 = digits from rfl]
    go_enter Tryz.func111, Tryz.ntmps111
    go_wp2_with fail
    go_ret
    exact ⟨_, rfl, HK1.out, HB.out⟩
  · rw [show kind 119 = wordly from rfl]
    go_enter Tryz.func111, Tryz.ntmps111
    go_wp2_with fail
    go_ret
    exact ⟨_, rfl, HK2.out, HB.out⟩
  · rw [show kind 115 = blanks from rfl]
    go_enter Tryz.func111, Tryz.ntmps111
    go_wp2_with fail
    go_ret
    exact ⟨_, rfl, HK3.out, HB.out⟩
  · obtain ⟨m, hm⟩ : ∃ m, m = notL digits := ⟨_, rfl⟩
    rw [show kind 68 = notL digits from rfl, ← hm]
    rw [← hm] at HN1
    clear hm
    obtain ⟨A, k, hv, _, _, hrg, _⟩ := HK1.out.shape
    injection hv with hv1 hv2 hv3
    subst hv1 hv3
    clear hv2
    go_enter Tryz.func111, Tryz.ntmps111
    go_wp2_with fail
    refine (HN1.out _ _ _ hrg).mono ?_
    rintro e w1 ⟨v, rfl, ho, hb⟩
    go_wp2_with fail
    go_ret
    exact ⟨_, rfl, ho.less HB.out.size, bel_trans HB.out hb⟩
  · obtain ⟨m, hm⟩ : ∃ m, m = notL wordly := ⟨_, rfl⟩
    rw [show kind 87 = notL wordly from rfl, ← hm]
    rw [← hm] at HN2
    clear hm
    obtain ⟨A, k, hv, _, _, hrg, _⟩ := HK2.out.shape
    injection hv with hv1 hv2 hv3
    subst hv1 hv3
    clear hv2
    go_enter Tryz.func111, Tryz.ntmps111
    go_wp2_with fail
    refine (HN2.out _ _ _ hrg).mono ?_
    rintro e w1 ⟨v, rfl, ho, hb⟩
    go_wp2_with fail
    go_ret
    exact ⟨_, rfl, ho.less HB.out.size, bel_trans HB.out hb⟩
  · obtain ⟨m, hm⟩ : ∃ m, m = notL blanks := ⟨_, rfl⟩
    rw [show kind 83 = notL blanks from rfl, ← hm]
    rw [← hm] at HN3
    clear hm
    obtain ⟨A, k, hv, _, _, hrg, _⟩ := HK3.out.shape
    injection hv with hv1 hv2 hv3
    subst hv1 hv3
    clear hv2
    go_enter Tryz.func111, Tryz.ntmps111
    go_wp2_with fail
    refine (HN3.out _ _ _ hrg).mono ?_
    rintro e w1 ⟨v, rfl, ho, hb⟩
    go_wp2_with fail
    go_ret
    exact ⟨_, rfl, ho.less HB.out.size, bel_trans HB.out hb⟩
set_option maxHeartbeats 1000000 in
set_option maxRecDepth 100000 in
theorem rkind_none (x : Int) (w : World) (h : NoKind x) : Calls Tryz.prog 111 #[.int .i64 x] w fun e w' => e = .returned nls ∧ Below w.heap.size w w' := by
  obtain ⟨h1, h2, h3, h4, h5, h6⟩ := h
  have d1 : (x == 100) = false := beq_eq_false_iff_ne.2 h1
  have d2 : (x == 119) = false := beq_eq_false_iff_ne.2 h2
  have d3 : (x == 115) = false := beq_eq_false_iff_ne.2 h3
  have d4 : (x == 68) = false := beq_eq_false_iff_ne.2 h4
  have d5 : (x == 87) = false := beq_eq_false_iff_ne.2 h5
  have d6 : (x == 83) = false := beq_eq_false_iff_ne.2 h6
  have HB := Lib.hid (k_below w)
  go_enter Tryz.func111, Tryz.ntmps111
  go_wp2_with fail
  go_ret
  exact ⟨rfl, HB.out⟩
end Go.Proofs.YtceeimolfalmpaaGreatDoor

namespace Go.Proofs.YtceeimolfalmpaaGreatDoor
open Go.RowKit ObUtf ObSets ObLex

set_option maxHeartbeats 1000000 in
set_option maxRecDepth 100000 in
theorem rnumber_any (s : ByteArray) (i : Nat) (w : World) (hi : i ≤ s.size) (hs : s.size ≤ 100000) {V D : Nat} (hV : V = min (num s i) 100000) (hD : D = dg s i) : Calls Tryz.prog 116 #[.string s, .int .i64 (i : Int)] w fun e w' => e = .returned (.tuple #[.int .i64 (V : Int), .int .i64 (D : Int)]) ∧ w = w' := by
  have HV := Lib.hid hV
  have HD := Lib.hid hD
  clear hV hD
  go_enter Tryz.func116, Tryz.ntmps116
  go_wp2_with fail
  go_loopw [6, 7] (fun a b wr => ∃ (k v : Nat), a = .int .i64 (v : Int) ∧ b = .int .i64 (k : Int) ∧ Hid (dg s i = k + dg s (i + k)) ∧ Hid (v = min (val s i k) 100000) ∧ i + k ≤ s.size ∧ w = wr) (fun _ b _ => s.size + 1 - (intOf b).toNat)
  case atStart => exact ⟨0, 0, rfl, rfl, (Nat.zero_add _).symm, rfl, hi, by first | rfl | trivial⟩
  case round =>
    obtain ⟨k, v, rfl, rfl, HK, HVV, hik, rfl⟩ := hrel
    have hv5 : v ≤ 100000 := by rw [HVV.out]; exact Nat.min_le_right _ _
    by_cases hd : 48 ≤ bt s (i + k) ∧ bt s (i + k) ≤ 57
    · have hin : i + k < s.size := bt_in (by omega)
      have hg := U.bt_eq s (i + k) hin
      have hin' : (i : Int) + (k : Int) < (s.size : Int) := by omega
      have d1 := digit_is ((s[i + k]'hin).toNat : Int) true (by rw [← hg]; exact (decide_eq_true (by omega)).symm) w
      have HDI := Lib.hid d1
      clear d1
      have HK2 := Lib.hid (show dg s i = (k + 1) + dg s (i + (k + 1)) by rw [HK.out, dg_yes hd.1 hd.2]; rw [Nat.add_assoc i k 1]; omega)
      obtain ⟨v2, hv2⟩ : ∃ v2, v2 = min (v * 10 + (bt s (i + k) - 48)) 100000 := ⟨_, rfl⟩
      have HV2 := Lib.hid (show v2 = min (val s i (k + 1)) 100000 by
        have := HVV.out
        rw [hv2]
        show _ = min (val s i k * 10 + (bt s (i + k) - 48)) 100000
        omega)
      have hb48 : (48 : Int) ≤ ((s[i + k]'hin).toNat : Int) := by omega
      have hb57 : ((s[i + k]'hin).toNat : Int) ≤ 57 := by omega
      generalize hxx : (s[i + k]'hin).toNat = x at *
      go_wp2_with fail
      refine HDI.out.mono ?_
      rintro e w' ⟨rfl, rfl⟩
      go_wp2_with fail
      go_roundw
      case rel => exact ⟨k + 1, v2, congrArg (Value.int .i64) (by rw [hv2, hg]; omega), by go_num, HK2.out, HV2.out, by omega, by first | rfl | trivial⟩
      case measure => simp [intOf]; omega
    · have HK2 : dg s i = k := by have := HK.out; rw [dg_no hd] at this; omega
      obtain rfl : V = v := by rw [HV.out, HVV.out]; unfold num; rw [HK2]
      obtain rfl : D = k := by rw [HD.out, HK2]
      by_cases hin : i + D < s.size
      · have hg := U.bt_eq s (i + D) hin
        have hin' : (i : Int) + (D : Int) < (s.size : Int) := by omega
        have d1 := digit_is ((s[i + D]'hin).toNat : Int) false (by rw [← hg]; exact (decide_eq_false (by omega)).symm) w
        have HDI := Lib.hid d1
        clear d1
        have h256 : ((s[i + D]'hin).toNat : Int) ≤ 255 := by have := (s[i + D]'hin).toNat_lt; omega
        go_wp2_with fail
        refine HDI.out.mono ?_
        rintro e w' ⟨rfl, rfl⟩
        go_wp2_with fail
        go_ret2
        exact ⟨rfl, rfl⟩
      · have d1 : decide ((i : Int) + (D : Int) < (s.size : Int)) = false := decide_eq_false (by omega)
        go_wp2_with fail
        go_ret2
        exact ⟨rfl, rfl⟩

/-- What the page's own escape hands back. -/
def RetE (E : Esc) (w : World) (e : Ending) (w' : World) : Prop :=
  ∃ A m k b N er, e = .returned (.agg #[.slice A m k, .bool b, .int .i64 N, .int .i64 er]) ∧ Below w.heap.size w w' ∧
    match E with
    | .bad x => A = none ∧ m = 0 ∧ k = 0 ∧ b = false ∧ N = 0 ∧ er = x ∧ (x = 4 ∨ x = 5)
    | .one x n => er = 0 ∧ b = true ∧ N = (n : Int) ∧ m = 1 ∧ S.Ow w' w.heap.size (.slice A m k) [(x, x)]
    | .many l => er = 0 ∧ b = false ∧ N = 2 ∧ m = l.length ∧ S.Ow w' w.heap.size (.slice A m k) l
abbrev eo : Obj := .cells #[.slice none 0 0, .bool false, .int .i64 0, .int .i64 0] 102
theorem blk4 {w : World} {r : Nat} {a b d e : Value} {t : TypeId} (h : w.heap[r]? = some (.cells #[a, b, d, e] t (0, 0))) : (w.cell? ⟨r, 0, none⟩ = some a ∧ w.cell? ⟨r, 1, none⟩ = some b ∧ w.cell? ⟨r, 2, none⟩ = some d ∧ w.cell? ⟨r, 3, none⟩ = some e) ∧ (w.frozen? ⟨r, 0, none⟩ = false ∧ w.frozen? ⟨r, 1, none⟩ = false ∧ w.frozen? ⟨r, 2, none⟩ = false ∧ w.frozen? ⟨r, 3, none⟩ = false) := by
  refine ⟨⟨by simp [World.cell?, h], by simp [World.cell?, h], by simp [World.cell?, h], by simp [World.cell?, h]⟩, by simp [World.frozen?, h], by simp [World.frozen?, h], by simp [World.frozen?, h], by simp [World.frozen?, h]⟩
section
variable {s : ByteArray} {i : Nat} (w : World) (hs : s.size ≤ 100000)
include hs
set_option maxHeartbeats 1000000 in
set_option maxRecDepth 100000 in
theorem resc_end (hi : i < s.size) (he : s.size ≤ i + 1) : Calls Tryz.prog 68 #[.string s, .int .i64 (i : Int)] w (RetE (.bad 4) w) := by
  have HT := Lib.hid (heap_new w eo)
  have b0 := (Below.refl w.heap.size w).alloc (Nat.le_refl _) eo
  have HB0 := Lib.hid b0
  have HS0 := Lib.hid (show (w.alloc eo).heap.size = w.heap.size + 1 by simp)
  have HA := Lib.hid (rat_nat s (i + 1) (w.alloc eo) hs)
  rw [wd_out he] at HA
  clear b0
  rw [show ((i + 1 : Nat) : Int) = (i : Int) + 1 by omega] at HA
  go_enter Tryz.func68, Tryz.ntmps68
  go_wp2_with fail
  refine HA.out.mono ?_
  rintro e w1 ⟨rfl, hb1⟩
  have hb := hb1
  obtain ⟨⟨t0, t1, t2, t3⟩, f0, f1, f2, f3⟩ := blk4 (keepL HT.out hb)
  have hz := hb.size
  rw [HS0.out] at hz
  go_wp2_with fail
  refine bodyPost_ret (v := .agg #[nls, .bool false, .int .i64 0, .int .i64 4]) ?_ rfl ⟨_, _, _, _, _, _, rfl, ?_, rfl, rfl, rfl, rfl, rfl, rfl, .inl rfl⟩
  · rw [S.results_cell1 rfl]; go_simp
  · have h0 := bel_trans HB0.out hb
    repeat' (first | with_reducible exact h0 | refine Below.setCell ?_ (by simp) _)
set_option maxHeartbeats 1000000 in
set_option maxRecDepth 100000 in
theorem resc_ntr (hj : i + 1 < s.size) {x y : Int} (hx : sy s (i + 1) = x) (hc : x = 110 ∧ y = 10 ∨ x = 116 ∧ y = 9 ∨ x = 114 ∧ y = 13) : Calls Tryz.prog 68 #[.string s, .int .i64 (i : Int)] w (RetE (.one y 2) w) := by
  have HT := Lib.hid (heap_new w eo)
  have b0 := (Below.refl w.heap.size w).alloc (Nat.le_refl _) eo
  have HB0 := Lib.hid b0
  have HS0 := Lib.hid (show (w.alloc eo).heap.size = w.heap.size + 1 by simp)
  have HA := Lib.hid (rat_nat s (i + 1) (w.alloc eo) hs)
  have hwd := wd_pos hj
  have hwd4 := wd_le s (i + 1)
  have e0 : (((wd s (i + 1) : Nat) : Int) == 0) = false := beq_eq_false_iff_ne.2 (by omega)
  rw [hx] at HA
  generalize wd s (i + 1) = n at *
  clear b0 hx
  rcases hc with ⟨rfl, rfl⟩ | ⟨rfl, rfl⟩ | ⟨rfl, rfl⟩
  all_goals (
  rw [show ((i + 1 : Nat) : Int) = (i : Int) + 1 by omega] at HA
  go_enter Tryz.func68, Tryz.ntmps68
  go_wp2_with fail
  refine HA.out.mono ?_
  rintro e w1 ⟨rfl, hb1⟩
  go_wp2_with fail
  refine (rone_any _ w1).mono ?_
  intro e w2 hr2
  obtain ⟨g, k, rfl, ho2, hb2⟩ := RetR.some_ hr2 (by simp)
  have hb := bel_trans hb1 hb2
  obtain ⟨⟨t0, t1, t2, t3⟩, f0, f1, f2, f3⟩ := blk4 (keepL HT.out hb)
  have hz := hb.size
  rw [HS0.out] at hz
  go_wp2_with fail
  refine bodyPost_ret (v := .agg #[.slice (some ⟨g, 0, none⟩) 1 k, .bool true, .int .i64 2, .int .i64 0]) ?_ rfl ⟨_, _, _, _, _, _, rfl, ?_, rfl, rfl, rfl, rfl, ?_⟩
  · rw [S.results_cell1 rfl]; go_simp
  · have h0 := bel_trans HB0.out hb
    repeat' (first | with_reducible exact h0 | refine Below.setCell ?_ (by simp) _)
  · have h1 := hb1.size
    rw [HS0.out] at h1
    exact ((((ho2.set (r := w.heap.size) (by omega) 0 _).set (r := w.heap.size) (by omega) 1 _).set (r := w.heap.size) (by omega) 2 _).set (r := w.heap.size) (by omega) 3 _).less (by omega))
set_option maxHeartbeats 1000000 in
set_option maxRecDepth 100000 in
theorem resc_many (hj : i + 1 < s.size) {x : Int} (hx : sy s (i + 1) = x) (hc : x = 100 ∨ x = 119 ∨ x = 115 ∨ x = 68 ∨ x = 87 ∨ x = 83) : Calls Tryz.prog 68 #[.string s, .int .i64 (i : Int)] w (RetE (.many (kind x)) w) := by
  have HT := Lib.hid (heap_new w eo)
  have b0 := (Below.refl w.heap.size w).alloc (Nat.le_refl _) eo
  have HB0 := Lib.hid b0
  have HS0 := Lib.hid (show (w.alloc eo).heap.size = w.heap.size + 1 by simp)
  have HA := Lib.hid (rat_nat s (i + 1) (w.alloc eo) hs)
  have hwd := wd_pos hj
  have hwd4 := wd_le s (i + 1)
  have e0 : (((wd s (i + 1) : Nat) : Int) == 0) = false := beq_eq_false_iff_ne.2 (by omega)
  rw [hx] at HA
  have hne := kind_ne hc
  have hkl : 0 < (kind x).length := List.length_pos_iff.2 hne
  have HK := Lib.hid (fun W => rkind_some x W hc)
  have d1 : (x == 110) = false := beq_eq_false_iff_ne.2 (by omega)
  have d2 : (x == 116) = false := beq_eq_false_iff_ne.2 (by omega)
  have d3 : (x == 114) = false := beq_eq_false_iff_ne.2 (by omega)
  generalize wd s (i + 1) = n at *
  generalize kind x = l at *
  clear b0 hx hc
  rw [show ((i + 1 : Nat) : Int) = (i : Int) + 1 by omega] at HA
  go_enter Tryz.func68, Tryz.ntmps68
  go_wp2_with fail
  refine HA.out.mono ?_
  rintro e w1 ⟨rfl, hb1⟩
  have d4 : decide (0 < l.length) = true := decide_eq_true hkl
  go_wp2_with fail
  refine (HK.out w1).mono ?_
  intro e w2 hr2
  obtain ⟨g, k, rfl, _, hb2⟩ := RetR.some_ hr2 hne
  go_wp2_with fail
  refine (HK.out w2).mono ?_
  intro e w3 hr3
  obtain ⟨g3, k3, rfl, ho3, hb3⟩ := RetR.some_ hr3 hne
  have hb := bel_trans hb1 (bel_trans hb2 hb3)
  have h1 := hb1.size
  have h2 := hb2.size
  rw [HS0.out] at h1
  clear hr2 hr3
  generalize hm : l.length = m at *
  obtain ⟨⟨t0, t1, t2, t3⟩, f0, f1, f2, f3⟩ := blk4 (keepL HT.out hb)
  have hz := hb.size
  rw [HS0.out] at hz
  go_wp2_with fail
  refine bodyPost_ret (v := .agg #[.slice (some ⟨g3, 0, none⟩) m k3, .bool false, .int .i64 2, .int .i64 0]) ?_ rfl ⟨_, _, _, _, _, _, rfl, ?_, rfl, rfl, rfl, hm.symm, ?_⟩
  · rw [S.results_cell1 rfl]; go_simp
  · have h0 := bel_trans HB0.out hb
    repeat' (first | with_reducible exact h0 | refine Below.setCell ?_ (by simp) _)
  · exact ((((ho3.set (r := w.heap.size) (by omega) 0 _).set (r := w.heap.size) (by omega) 1 _).set (r := w.heap.size) (by omega) 2 _).set (r := w.heap.size) (by omega) 3 _).less (by omega)
set_option maxHeartbeats 1000000 in
set_option maxRecDepth 100000 in
theorem resc_rest (hj : i + 1 < s.size) {x : Int} (hx : sy s (i + 1) = x) (hk : NoKind x) (h1 : x ≠ 110) (h2 : x ≠ 116) (h3 : x ≠ 114) : Calls Tryz.prog 68 #[.string s, .int .i64 (i : Int)] w (RetE (escOf x (wd s (i + 1))) w) := by
  have HT := Lib.hid (heap_new w eo)
  have b0 := (Below.refl w.heap.size w).alloc (Nat.le_refl _) eo
  have HB0 := Lib.hid b0
  have HS0 := Lib.hid (show (w.alloc eo).heap.size = w.heap.size + 1 by simp)
  have HA := Lib.hid (rat_nat s (i + 1) (w.alloc eo) hs)
  have hwd := wd_pos hj
  have hwd4 := wd_le s (i + 1)
  have e0 : (((wd s (i + 1) : Nat) : Int) == 0) = false := beq_eq_false_iff_ne.2 (by omega)
  have hx0 : 0 ≤ x := by rw [← hx]; exact (sy_range hj).1
  rw [hx] at HA
  have HK := Lib.hid (fun W => rkind_none x W hk)
  have HD := Lib.hid (fun W => digit_is x _ rfl W)
  have HL := Lib.hid (fun W => letter_is x _ rfl W)
  have d1 : (x == 110) = false := beq_eq_false_iff_ne.2 h1
  have d2 : (x == 116) = false := beq_eq_false_iff_ne.2 h2
  have d3 : (x == 114) = false := beq_eq_false_iff_ne.2 h3
  have hkn : kind x = [] := by
    rcases kind_cases x with h | h
    · obtain ⟨a, b, c, d, e, f⟩ := hk; omega
    · exact h.2.2.2.2.2.2
  have hesc : escOf x (wd s (i + 1)) = if 49 ≤ x ∧ x ≤ 57 then .bad 5 else if alnum x = true then .bad 4 else .one x (1 + wd s (i + 1)) := by
    unfold escOf
    rw [if_neg (by omega), if_neg h1, if_neg h2, if_neg h3, hkn]
    simp
  rw [hesc]
  generalize wd s (i + 1) = n at *
  clear b0 hx hesc hkn hk
  by_cases c1 : 49 ≤ x ∧ x ≤ 57
  · rw [if_pos c1]
    rw [show decide (48 ≤ x ∧ x ≤ 57) = true from decide_eq_true (by omega)] at HD
    have d5 : (x != 48) = true := by simp; omega
    clear HL
    rw [show ((i + 1 : Nat) : Int) = (i : Int) + 1 by omega] at HA
    go_enter Tryz.func68, Tryz.ntmps68
    go_wp2_with fail
    refine HA.out.mono ?_
    rintro e w1 ⟨rfl, hb1⟩
    go_wp2_with fail
    refine (HK.out w1).mono ?_
    rintro e w2 ⟨rfl, hb2⟩
    go_wp2_with fail
    refine (HD.out w2).mono ?_
    rintro e w3 ⟨rfl, rfl⟩
    have hb := bel_trans hb1 hb2
    obtain ⟨⟨t0, t1, t2, t3⟩, f0, f1, f2, f3⟩ := blk4 (keepL HT.out hb)
    have hz := hb.size
    rw [HS0.out] at hz
    go_wp2_with fail
    refine bodyPost_ret (v := .agg #[nls, .bool false, .int .i64 0, .int .i64 5]) ?_ rfl ⟨_, _, _, _, _, _, rfl, ?_, rfl, rfl, rfl, rfl, rfl, rfl, .inr rfl⟩
    · rw [S.results_cell1 rfl]; go_simp
    · have h0 := bel_trans HB0.out hb
      repeat' (first | with_reducible exact h0 | refine Below.setCell ?_ (by simp) _)
  · rw [if_neg c1]
    by_cases c2 : alnum x = true
    · rw [if_pos c2]
      have c2' : (97 ≤ x ∧ x ≤ 122) ∨ (65 ≤ x ∧ x ≤ 90) ∨ (48 ≤ x ∧ x ≤ 57) := by simpa [alnum] using c2
      clear c2
      by_cases c3 : x = 48
      · rw [show decide (48 ≤ x ∧ x ≤ 57) = true from decide_eq_true (by omega)] at HD
        have d5 : (x != 48) = false := by simp; omega
        clear HL c3
        rw [show ((i + 1 : Nat) : Int) = (i : Int) + 1 by omega] at HA
        go_enter Tryz.func68, Tryz.ntmps68
        go_wp2_with fail
        refine HA.out.mono ?_
        rintro e w1 ⟨rfl, hb1⟩
        go_wp2_with fail
        refine (HK.out w1).mono ?_
        rintro e w2 ⟨rfl, hb2⟩
        go_wp2_with fail
        refine (HD.out w2).mono ?_
        rintro e w3 ⟨rfl, rfl⟩
        go_wp2_with fail
        refine (HD.out w2).mono ?_
        rintro e w3 ⟨rfl, rfl⟩
        have hb := bel_trans hb1 hb2
        obtain ⟨⟨t0, t1, t2, t3⟩, f0, f1, f2, f3⟩ := blk4 (keepL HT.out hb)
        have hz := hb.size
        rw [HS0.out] at hz
        go_wp2_with fail
        refine bodyPost_ret (v := .agg #[nls, .bool false, .int .i64 0, .int .i64 4]) ?_ rfl ⟨_, _, _, _, _, _, rfl, ?_, rfl, rfl, rfl, rfl, rfl, rfl, .inl rfl⟩
        · rw [S.results_cell1 rfl]; go_simp
        · have h0 := bel_trans HB0.out hb
          repeat' (first | with_reducible exact h0 | refine Below.setCell ?_ (by simp) _)
      · rw [show decide (48 ≤ x ∧ x ≤ 57) = false from decide_eq_false (by omega)] at HD
        rw [show decide ((97 ≤ x ∧ x ≤ 122) ∨ (65 ≤ x ∧ x ≤ 90)) = true from decide_eq_true (by omega)] at HL
        clear c3 c2'
        rw [show ((i + 1 : Nat) : Int) = (i : Int) + 1 by omega] at HA
        go_enter Tryz.func68, Tryz.ntmps68
        go_wp2_with fail
        refine HA.out.mono ?_
        rintro e w1 ⟨rfl, hb1⟩
        go_wp2_with fail
        refine (HK.out w1).mono ?_
        rintro e w2 ⟨rfl, hb2⟩
        go_wp2_with fail
        refine (HD.out w2).mono ?_
        rintro e w3 ⟨rfl, rfl⟩
        go_wp2_with fail
        refine (HD.out w2).mono ?_
        rintro e w3 ⟨rfl, rfl⟩
        go_wp2_with fail
        refine (HL.out w2).mono ?_
        rintro e w3 ⟨rfl, rfl⟩
        have hb := bel_trans hb1 hb2
        obtain ⟨⟨t0, t1, t2, t3⟩, f0, f1, f2, f3⟩ := blk4 (keepL HT.out hb)
        have hz := hb.size
        rw [HS0.out] at hz
        go_wp2_with fail
        refine bodyPost_ret (v := .agg #[nls, .bool false, .int .i64 0, .int .i64 4]) ?_ rfl ⟨_, _, _, _, _, _, rfl, ?_, rfl, rfl, rfl, rfl, rfl, rfl, .inl rfl⟩
        · rw [S.results_cell1 rfl]; go_simp
        · have h0 := bel_trans HB0.out hb
          repeat' (first | with_reducible exact h0 | refine Below.setCell ?_ (by simp) _)
    · rw [if_neg c2]
      have c2' : ¬ ((97 ≤ x ∧ x ≤ 122) ∨ (65 ≤ x ∧ x ≤ 90) ∨ (48 ≤ x ∧ x ≤ 57)) := by simpa [alnum] using c2
      rw [show decide (48 ≤ x ∧ x ≤ 57) = false from decide_eq_false (by omega)] at HD
      rw [show decide ((97 ≤ x ∧ x ≤ 122) ∨ (65 ≤ x ∧ x ≤ 90)) = false from decide_eq_false (by omega)] at HL
      clear c2 c2'
      rw [show ((i + 1 : Nat) : Int) = (i : Int) + 1 by omega] at HA
      go_enter Tryz.func68, Tryz.ntmps68
      go_wp2_with fail
      refine HA.out.mono ?_
      rintro e w1 ⟨rfl, hb1⟩
      go_wp2_with fail
      refine (HK.out w1).mono ?_
      rintro e w2 ⟨rfl, hb2⟩
      go_wp2_with fail
      refine (HD.out w2).mono ?_
      rintro e w3 ⟨rfl, rfl⟩
      go_wp2_with fail
      refine (HD.out w2).mono ?_
      rintro e w3 ⟨rfl, rfl⟩
      go_wp2_with fail
      refine (HL.out w2).mono ?_
      rintro e w3 ⟨rfl, rfl⟩
      go_wp2_with fail
      refine (rone_any _ w2).mono ?_
      intro e w4 hr4
      obtain ⟨g, k, rfl, ho4, hb4⟩ := RetR.some_ hr4 (by simp)
      have hb := bel_trans (bel_trans hb1 hb2) hb4
      have z1 := hb1.size
      have z2 := hb2.size
      rw [HS0.out] at z1
      obtain ⟨⟨t0, t1, t2, t3⟩, f0, f1, f2, f3⟩ := blk4 (keepL HT.out hb)
      have hz := hb.size
      rw [HS0.out] at hz
      go_wp2_with fail
      refine bodyPost_ret (v := .agg #[.slice (some ⟨g, 0, none⟩) 1 k, .bool true, .int .i64 (1 + (n : Int)), .int .i64 0]) ?_ rfl ⟨_, _, _, _, _, _, rfl, ?_, rfl, rfl, by omega, rfl, ?_⟩
      · rw [S.results_cell1 rfl]; go_simp
      · have h0 := bel_trans HB0.out hb
        repeat' (first | with_reducible exact h0 | refine Below.setCell ?_ (by simp) _)
      · exact ((((ho4.set (r := w.heap.size) (by omega) 0 _).set (r := w.heap.size) (by omega) 1 _).set (r := w.heap.size) (by omega) 2 _).set (r := w.heap.size) (by omega) 3 _).less (by omega)
theorem resc_any (hi : i < s.size) : Calls Tryz.prog 68 #[.string s, .int .i64 (i : Int)] w (RetE (esc s i) w) := by
  unfold esc
  rcases Nat.lt_or_ge (i + 1) s.size with hj | hj
  · obtain ⟨x, hx⟩ : ∃ x, sy s (i + 1) = x := ⟨_, rfl⟩
    have hx0 : 0 ≤ x := by rw [← hx]; exact (sy_range hj).1
    by_cases h1 : x = 110 ∨ x = 116 ∨ x = 114
    · obtain ⟨y, hy⟩ : ∃ y : Int, x = 110 ∧ y = 10 ∨ x = 116 ∧ y = 9 ∨ x = 114 ∧ y = 13 := by
        rcases h1 with h | h | h
        · exact ⟨10, by omega⟩
        · exact ⟨9, by omega⟩
        · exact ⟨13, by omega⟩
      have := resc_ntr w hs hj hx hy
      rw [hx]
      rcases hy with ⟨rfl, rfl⟩ | ⟨rfl, rfl⟩ | ⟨rfl, rfl⟩ <;> exact this
    · rcases kind_cases x with hk | ⟨k1, k2, k3, k4, k5, k6, hk⟩
      · have := resc_many w hs hj hx hk
        rw [hx]
        have he : escOf x (wd s (i + 1)) = .many (kind x) := by
          unfold escOf
          rw [if_neg (by omega), if_neg (by omega), if_neg (by omega), if_neg (by omega), if_pos (kind_ne hk)]
        rw [he]; exact this
      · rw [hx]
        exact resc_rest w hs hj hx ⟨k1, k2, k3, k4, k5, k6⟩ (by omega) (by omega) (by omega)
  · rw [sy_out hj]
    exact resc_end w hs hi hj
end
end Go.Proofs.YtceeimolfalmpaaGreatDoor
