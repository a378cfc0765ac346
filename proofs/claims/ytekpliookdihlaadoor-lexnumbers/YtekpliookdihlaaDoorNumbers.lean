/-
  The statement on two numbers in braces, with zeros ahead (LexNumbers) answers true for all numbers. Condition: the two tables of unicode/utf8 lie as their text lays them.
-/
import Derived.Test.YtekpliookdihlaaDoorV2
namespace Go.Proofs.YtekpliookdihlaaDoor
open Go.RowKit ObUtf ObSets ObLex

theorem neqf (a b : Int) (w : World) : (binOp .neq 32 (fv a b) (fv a b)).run Tryd.prog w = .ok (.bool false) w := by
  rw [run_neq_struct, eqf]
  simp [Result.andThen]
theorem rep_text {x y : ByteArray} (hx : Dig x) (hy : Dig y) (nx : 0 < x.size) (ny : 0 < y.size) : toks (({ data := #[123] } : ByteArray) ++ x ++ { data := #[44] } ++ y ++ { data := #[125] }) 0 =
    if 255 < vl x then .error (7, 1) else if 255 < vl y ∨ vl y < vl x then .error (7, 2 + x.size) else .ok [⟨6, 0, [], (vl x : Int), (vl y : Int)⟩] := by
  rw [← rep_toks hx hy nx ny]
  simp only [ByteArray.append_assoc]
  rfl
theorem bud_text {y : ByteArray} (hy : Dig y) (ny : 0 < y.size) : toks (({ data := #[122, 123, 126] } : ByteArray) ++ y ++ { data := #[125] }) 0 =
    if 255 < vl y then .error (7, 3) else .ok [⟨1, 0, [(122, 122)], 0, 0⟩, ⟨7, 1, [], (vl y : Int), 0⟩] := by
  rw [← bud_toks hy ny, show ({ data := #[122, 123, 126] } : ByteArray) = o122 ++ (o123 ++ o126) by rfl]
  simp only [ByteArray.append_assoc]
  rfl
set_option maxHeartbeats 4000000 in
set_option maxRecDepth 100000 in
theorem numbers_walk (a b z : Nat) (w : World) (hT : U.Tb w) (ha : a < 65536) (hb : b < 65536) (hz : z < 256) :
    Calls Tryd.prog 6 #[.int .u16 (a : Int), .int .u16 (b : Int), .int .u8 (z : Int)] w fun e w' => e = .returned (.bool true) ∧ Below w.heap.size w w' := by
  have HT := Lib.hid hT; clear hT
  obtain ⟨m, hm⟩ : ∃ m, m = a % 600 := ⟨_, rfl⟩
  obtain ⟨n, hn⟩ : ∃ n, n = b % 600 := ⟨_, rfl⟩
  obtain ⟨k, hk⟩ : ∃ k, k = z % 4 := ⟨_, rfl⟩
  have em : (a : Int).tmod 600 = (m : Int) := by rw [Int.tmod_eq_emod_of_nonneg (by omega)]; omega
  have en : (b : Int).tmod 600 = (n : Int) := by rw [Int.tmod_eq_emod_of_nonneg (by omega)]; omega
  have ek : (z : Int).tmod 4 = (k : Int) := by rw [Int.tmod_eq_emod_of_nonneg (by omega)]; omega
  have hm6 : m < 600 := by omega
  have hn6 : n < 600 := by omega
  have hk4 : k < 4 := by omega
  clear hm hn hk
  have hq := fun (a b : Int) (w : World) => eqf a b w
  have hgt := Tryd.eqGuardType32
  have hq2 := fun (a b : Int) (w : World) => neqf a b w
  go_enter Tryd.func6, Tryd.ntmps6
  go_wp2_with fail
  go_loopw [9, 10] (fun ts ti wr => ∃ i : Nat, ts = .string (zs i) ∧ ti = .int .i64 (i : Int) ∧ i ≤ k ∧ w = wr) (fun _ ti _ => k - (intOf ti).toNat)
  case atStart => exact ⟨0, rfl, rfl, Nat.zero_le _, rfl⟩
  case round =>
    obtain ⟨i, rfl, rfl, hi, rfl⟩ := hrel
    have hsz := zs_size i
    by_cases hik : i < k
    · have d1 : decide (i < k) = true := decide_eq_true hik
      go_wp2_with fail
      go_roundw
      case rel => exact ⟨i + 1, rfl, congrArg (Value.int .i64) (by omega), hik, trivial⟩
      case measure => simp [intOf]; omega
    · obtain rfl : i = k := by omega
      have d1 : decide (i < i) = false := decide_eq_false (by omega)
      have hzd := zs_dig i
      have HZ := Lib.hid (fun (x : ByteArray) => vl_zs (x := x) i)
      have HZD := Lib.hid hzd
      clear hzd
      generalize zs i = zz at *
      go_wp2_with fail
      refine (digits_any m _ (by omega)).mono ?_
      rintro e w1 ⟨X, rfl, ⟨dX, vX, pX, sX⟩, hb1⟩
      go_wp2_with fail
      refine (digits_any n _ (by omega)).mono ?_
      rintro e w2 ⟨Y, rfl, ⟨dY, vY, pY, sY⟩, hb2⟩
      have T2 := Lib.hid ((HT.out.below hb1).below hb2)
      have B2 := Lib.hid (bel_trans hb1 hb2)
      obtain ⟨x, hx⟩ : ∃ x, zz ++ X = x := ⟨_, rfl⟩
      obtain ⟨y, hy⟩ : ∃ y, zz ++ Y = y := ⟨_, rfl⟩
      have dx : Dig x := by rw [← hx]; exact HZD.out.cat dX
      have dy : Dig y := by rw [← hy]; exact HZD.out.cat dY
      have vx : vl x = m := by rw [← hx, HZ.out, vX]
      have vy : vl y = n := by rw [← hy, HZ.out, vY]
      have px : 0 < x.size := by rw [← hx, size_cat]; omega
      have py : 0 < y.size := by rw [← hy, size_cat]; omega
      have zx : x.size ≤ 700 := by rw [← hx, size_cat]; omega
      have zy : y.size ≤ 700 := by rw [← hy, size_cat]; omega
      have rt := rep_text dx dy px py
      have bt' := bud_text dy py
      rw [vx, vy] at rt
      rw [vy] at bt'
      have st : (({ data := #[123] } : ByteArray) ++ x ++ { data := #[44] } ++ y ++ { data := #[125] }).size ≤ 100000 := by
        simp only [ByteArray.size_append]; have e1 : (⟨#[123]⟩ : ByteArray).size = 1 := rfl; have e2 : (⟨#[44]⟩ : ByteArray).size = 1 := rfl; have e3 : (⟨#[125]⟩ : ByteArray).size = 1 := rfl; omega
      have sb : (({ data := #[122, 123, 126] } : ByteArray) ++ y ++ { data := #[125] }).size ≤ 100000 := by
        simp only [ByteArray.size_append]; have e1 : (⟨#[122, 123, 126]⟩ : ByteArray).size = 3 := rfl; have e3 : (⟨#[125]⟩ : ByteArray).size = 1 := rfl; omega
      have WK := Lib.hid (fun W (h : U.Tb W) => wakes_any W h)
      clear dx dy vx vy dX dY vX vY pX pY HZ HZD hb1 hb2 px py
      have bytes : (255 < n → Hid (∀ W, U.Tb W → Calls Tryd.prog 13 #[.string (({ data := #[122, 123, 126] } : ByteArray) ++ y ++ { data := #[125] })] W fun e w' => e = .returned (.tuple #[nls, fv 7 3]) ∧ Below W.heap.size W w')) ∧ (¬ 255 < n → Hid (∀ W, U.Tb W → Calls Tryd.prog 13 #[.string (({ data := #[122, 123, 126] } : ByteArray) ++ y ++ { data := #[125] })] W fun e w' => ∃ A k, e = .returned (.tuple #[.slice A 2 k, fv 0 0]) ∧ Tk w' W.heap.size (.slice A 2 k) [⟨1, 0, [(122, 122)], 0, 0⟩, ⟨7, 1, [], (n : Int), 0⟩] ∧ Below W.heap.size W w')) :=
        ⟨fun h => Lib.hid fun W hW => tok_err (by rw [bt', if_pos h]) W hW sb, fun h => Lib.hid fun W hW => tok_ok (l := [⟨1, 0, [(122, 122)], 0, 0⟩, ⟨7, 1, [], (n : Int), 0⟩]) (by rw [bt', if_neg h]) W hW sb⟩
      clear bt' sb
      by_cases h1 : 255 < m
      · have K := Lib.hid (fun W hW => tok_err (by rw [rt, if_pos h1]) W hW st)
        have g1 : decide ((255 : Int) < (m : Int)) = true := decide_eq_true (by omega)
        clear rt st
        go_wp2_with fail
        refine (K.out _ T2.out).mono ?_
        rintro e w3 ⟨rfl, hb3⟩
        have ba := (Below.refl w3.heap.size w3).alloc (Nat.le_refl _) (.cells #[.int .i64 7, .int .i64 1] 32)
        have T3 := Lib.hid ((T2.out.below hb3).below ba)
        have B3 := Lib.hid (bel_trans (bel_trans B2.out hb3) ba)
        obtain ⟨f0, f1, _, _⟩ := blk2 (heap_new w3 (.cells #[.int .i64 7, .int .i64 1] 32))
        clear hb3 ba
        by_cases h2 : 255 < n
        · have g2 : decide ((255 : Int) < (n : Int)) = true := decide_eq_true (by omega)
          have K2 := bytes.1 (by assumption)
          clear bytes
          go_wp2_with fail
          refine (K2.out _ T3.out).mono ?_
          rintro e w4 ⟨rfl, hb4⟩
          have ba := (Below.refl w4.heap.size w4).alloc (Nat.le_refl _) (.cells #[.int .i64 7, .int .i64 3] 32)
          have T4 := Lib.hid ((T3.out.below hb4).below ba)
          have B4 := Lib.hid (bel_trans (bel_trans B3.out hb4) ba)
          obtain ⟨g0, g1', _, _⟩ := blk2 (heap_new w4 (.cells #[.int .i64 7, .int .i64 3] 32))
          clear hb4 ba
          go_wp2_with fail
          refine (WK.out _ T4.out).mono ?_
          rintro e w5 ⟨rfl, hb5⟩
          go_wp2_with fail
          go_ret
          exact ⟨rfl, bel_trans B4.out hb5⟩
        · have g2 : decide ((255 : Int) < (n : Int)) = false := decide_eq_false (by omega)
          have K2 := bytes.2 (by assumption)
          clear bytes
          go_wp2_with fail
          refine (K2.out _ T3.out).mono ?_
          rintro e w4 ⟨A4, k4, rfl, htk, hb4⟩
          have ba := (Below.refl w4.heap.size w4).alloc (Nat.le_refl _) (.cells #[.int .i64 0, .int .i64 0] 32)
          have T4 := Lib.hid ((T3.out.below hb4).below ba)
          have B4 := Lib.hid (bel_trans (bel_trans B3.out hb4) ba)
          obtain ⟨g0, g1', _, _⟩ := blk2 (heap_new w4 (.cells #[.int .i64 0, .int .i64 0] 32))
          obtain ⟨b4, o4, rfl, _, hc⟩ := (htk.reads.below ba) (by simp)
          obtain ⟨S1, q1, y0, y1, y2, y3, y4, _⟩ := hc 1 _ rfl
          simp only [Nat.one_mul] at y0 y1 y2 y3 y4
          clear hb4 ba hc htk y1 y2
          go_wp2_with fail
          refine (WK.out _ T4.out).mono ?_
          rintro e w5 ⟨rfl, hb5⟩
          go_wp2_with fail
          go_ret
          exact ⟨rfl, bel_trans B4.out hb5⟩
      · by_cases h2 : 255 < n
        · have k := fun W hW => tok_err (by rw [rt, if_neg h1, if_pos (.inl h2)]) W hW st
          rw [show ((2 + x.size : Nat) : Int) = 2 + (x.size : Int) by omega] at k
          have K := Lib.hid k
          have g1 : decide ((255 : Int) < (m : Int)) = false := decide_eq_false (by omega)
          have g2 : decide ((255 : Int) < (n : Int)) = true := decide_eq_true (by omega)
          clear rt st k
          go_wp2_with fail
          refine (K.out _ T2.out).mono ?_
          rintro e w3 ⟨rfl, hb3⟩
          have ba := (Below.refl w3.heap.size w3).alloc (Nat.le_refl _) (.cells #[.int .i64 7, .int .i64 (2 + (x.size : Int))] 32)
          have T3 := Lib.hid ((T2.out.below hb3).below ba)
          have B3 := Lib.hid (bel_trans (bel_trans B2.out hb3) ba)
          obtain ⟨f0, f1, _, _⟩ := blk2 (heap_new w3 (.cells #[.int .i64 7, .int .i64 (2 + (x.size : Int))] 32))
          clear hb3 ba
          have K2 := bytes.1 (by assumption)
          clear bytes
          go_wp2_with fail
          refine (K2.out _ T3.out).mono ?_
          rintro e w4 ⟨rfl, hb4⟩
          have ba := (Below.refl w4.heap.size w4).alloc (Nat.le_refl _) (.cells #[.int .i64 7, .int .i64 3] 32)
          have T4 := Lib.hid ((T3.out.below hb4).below ba)
          have B4 := Lib.hid (bel_trans (bel_trans B3.out hb4) ba)
          obtain ⟨g0, g1', _, _⟩ := blk2 (heap_new w4 (.cells #[.int .i64 7, .int .i64 3] 32))
          clear hb4 ba
          go_wp2_with fail
          refine (WK.out _ T4.out).mono ?_
          rintro e w5 ⟨rfl, hb5⟩
          go_wp2_with fail
          go_ret
          exact ⟨rfl, bel_trans B4.out hb5⟩
        · by_cases h3 : n < m
          · have k := fun W hW => tok_err (by rw [rt, if_neg h1, if_pos (.inr h3)]) W hW st
            rw [show ((2 + x.size : Nat) : Int) = 2 + (x.size : Int) by omega] at k
            have K := Lib.hid k
            have g1 : decide ((255 : Int) < (m : Int)) = false := decide_eq_false (by omega)
            have g2 : decide ((255 : Int) < (n : Int)) = false := decide_eq_false (by omega)
            have g3 : decide (n < m) = true := decide_eq_true h3
            clear rt st k
            go_wp2_with fail
            refine (K.out _ T2.out).mono ?_
            rintro e w3 ⟨rfl, hb3⟩
            have ba := (Below.refl w3.heap.size w3).alloc (Nat.le_refl _) (.cells #[.int .i64 7, .int .i64 (2 + (x.size : Int))] 32)
            have T3 := Lib.hid ((T2.out.below hb3).below ba)
            have B3 := Lib.hid (bel_trans (bel_trans B2.out hb3) ba)
            obtain ⟨f0, f1, _, _⟩ := blk2 (heap_new w3 (.cells #[.int .i64 7, .int .i64 (2 + (x.size : Int))] 32))
            clear hb3 ba
            have K2 := bytes.2 (by assumption)
            clear bytes
            go_wp2_with fail
            refine (K2.out _ T3.out).mono ?_
            rintro e w4 ⟨A4, k4, rfl, htk, hb4⟩
            have ba := (Below.refl w4.heap.size w4).alloc (Nat.le_refl _) (.cells #[.int .i64 0, .int .i64 0] 32)
            have T4 := Lib.hid ((T3.out.below hb4).below ba)
            have B4 := Lib.hid (bel_trans (bel_trans B3.out hb4) ba)
            obtain ⟨g0, g1', _, _⟩ := blk2 (heap_new w4 (.cells #[.int .i64 0, .int .i64 0] 32))
            obtain ⟨b4, o4, rfl, _, hc⟩ := (htk.reads.below ba) (by simp)
            obtain ⟨S1, q1, y0, y1, y2, y3, y4, _⟩ := hc 1 _ rfl
            simp only [Nat.one_mul] at y0 y1 y2 y3 y4
            clear hb4 ba hc htk y1 y2
            go_wp2_with fail
            refine (WK.out _ T4.out).mono ?_
            rintro e w5 ⟨rfl, hb5⟩
            go_wp2_with fail
            go_ret
            exact ⟨rfl, bel_trans B4.out hb5⟩
          · have K := Lib.hid (fun W hW => tok_ok (by rw [rt, if_neg h1, if_neg (by omega)]) W hW st)
            have g1 : decide ((255 : Int) < (m : Int)) = false := decide_eq_false (by omega)
            have g2 : decide ((255 : Int) < (n : Int)) = false := decide_eq_false (by omega)
            have g3 : decide (n < m) = false := decide_eq_false (by omega)
            clear rt st
            go_wp2_with fail
            refine (K.out _ T2.out).mono ?_
            rintro e w3 ⟨A3, k3, rfl, htk, hb3⟩
            have ba := (Below.refl w3.heap.size w3).alloc (Nat.le_refl _) (.cells #[.int .i64 0, .int .i64 0] 32)
            have T3 := Lib.hid ((T2.out.below hb3).below ba)
            have B3 := Lib.hid (bel_trans (bel_trans B2.out hb3) ba)
            obtain ⟨f0, f1, _, _⟩ := blk2 (heap_new w3 (.cells #[.int .i64 0, .int .i64 0] 32))
            obtain ⟨b3, o3, rfl, _, hc⟩ := (htk.reads.below ba) (by simp)
            obtain ⟨S0, q0, x0, x1, x2, x3, x4, _⟩ := hc 0 _ rfl
            simp only [Nat.zero_mul, Nat.add_zero] at x0 x1 x2 x3 x4
            clear hb3 ba hc htk x1 x2
            have K2 := bytes.2 (by assumption)
            clear bytes
            go_wp2_with fail
            refine (K2.out _ T3.out).mono ?_
            rintro e w4 ⟨A4, k4, rfl, htk, hb4⟩
            have ba := (Below.refl w4.heap.size w4).alloc (Nat.le_refl _) (.cells #[.int .i64 0, .int .i64 0] 32)
            have T4 := Lib.hid ((T3.out.below hb4).below ba)
            have B4 := Lib.hid (bel_trans (bel_trans B3.out hb4) ba)
            obtain ⟨g0, g1', _, _⟩ := blk2 (heap_new w4 (.cells #[.int .i64 0, .int .i64 0] 32))
            obtain ⟨b4, o4, rfl, _, hc⟩ := (htk.reads.below ba) (by simp)
            obtain ⟨S1, q1, y0, y1, y2, y3, y4, _⟩ := hc 1 _ rfl
            simp only [Nat.one_mul] at y0 y1 y2 y3 y4
            clear hb4 ba hc htk y1 y2
            go_wp2_with fail
            refine (WK.out _ T4.out).mono ?_
            rintro e w5 ⟨rfl, hb5⟩
            go_wp2_with fail
            go_ret
            exact ⟨rfl, bel_trans B4.out hb5⟩
theorem numbers_int (x y z : Int) (w : World) (hT : U.Tb w) (hx : 0 ≤ x ∧ x < 65536) (hy : 0 ≤ y ∧ y < 65536) (hz : 0 ≤ z ∧ z < 256) :
    Calls Tryd.prog 6 #[.int .u16 x, .int .u16 y, .int .u8 z] w fun e w' => e = .returned (.bool true) ∧ Below w.heap.size w w' := by
  obtain ⟨a, rfl⟩ := Int.eq_ofNat_of_zero_le hx.1
  obtain ⟨b, rfl⟩ := Int.eq_ofNat_of_zero_le hy.1
  obtain ⟨c, rfl⟩ := Int.eq_ofNat_of_zero_le hz.1
  exact numbers_walk a b c w hT (by omega) (by omega) (by omega)
end Go.Proofs.YtekpliookdihlaaDoor
