/-
  The statement on many groups in a row (ParseMany) answers true for every number and either ending. Condition: the two tables of unicode/utf8 lie as their text lays them.
-/
import Derived.Test.YtceeimolfalmpaaDoorDA
namespace Go.Proofs.YtceeimolfalmpaaDoor.T
open Go.RowKit ObUtf ObSets ObTree ObParse
open Go.Proofs.YtceeimolfalmpaaDoor (tv fv fo Tr Tk FlOf eqf)

theorem manyT_size (k : Nat) (st : Bool) : (manyT k st).size ≤ 3 * k + 1 := by
  unfold manyT
  cases st
  · rw [if_neg (by decide), rowT_size]; omega
  · rw [if_pos rfl, size_cat, rowT_size]; exact Nat.le_refl _
theorem nr_at {w : World} {A : Option Addr} {l : List Nd} (h : Nr w A l) {j : Nat} {x : Nd} (hx : l[j]? = some x) : ∃ b off, A = some ⟨b, off, none⟩ ∧ b < w.heap.size ∧ NdAt w b (off + j * 7) x := by
  obtain ⟨b, off, e, hlt, hc⟩ := h (by rintro rfl; simp at hx)
  exact ⟨b, off, e, hlt, hc j x hx⟩
/-- What Parse answers of many groups. -/
theorem parse_many (k : Nat) (st : Bool) (hk : 2 ≤ k) (hk2 : k ≤ 200) (w : World) (hT : U.Tb w) : Calls Tryd.prog 5 #[.string (manyT k st)] w fun e w' => ∃ A c L E q, e = .returned (.tuple #[.agg #[.slice A L.length c], fv E q]) ∧ Nr w' A L ∧ Below w.heap.size w w' ∧
    (k ≤ 99 → E = 0 ∧ q = 0 ∧ PMs L k ∧ (∃ x, L[L.length - 1]? = some x ∧ x.kind = 5) ∧ L.length ≤ 6 * k + 3) ∧ (99 < k → E = 7 ∧ q = 297 ∧ L = []) := by
  have ht := many_toks k st
  have hf := many_fin st hk
  have hs := manyT_size k st
  by_cases h99 : k ≤ 99
  · rw [if_pos h99] at hf
    obtain ⟨s', h1, h2, h3, h4⟩ := hf
    exact (parse_at (L := s'.L) (E := 0) (q := 0) (x := 0) (a := 0) (.inl ht) (by rw [ht]; exact ⟨rfl, rfl⟩) (by unfold outc; rw [h1]; rfl) w hT (by omega)).mono fun e w' ⟨A, c, g1, g2, g3⟩ => ⟨A, c, s'.L, 0, 0, g1, g2, g3, fun _ => ⟨rfl, rfl, h2, h3, h4⟩, fun h => by omega⟩
  · rw [if_neg h99] at hf
    exact (parse_at (L := []) (E := 7) (q := 297) (x := 0) (a := 0) (.inl ht) (by rw [ht]; exact ⟨rfl, rfl⟩) (by unfold outc; rw [hf]) w hT (by omega)).mono fun e w' ⟨A, c, g1, g2, g3⟩ => ⟨A, c, [], 7, 297, g1, g2, g3, fun h => absurd h h99, fun _ => ⟨rfl, rfl, rfl⟩⟩
theorem capsN_succ {L : List Nd} {j : Nat} {x : Nd} (h : L[j]? = some x) : capsN L (j + 1) = capsN L j + (if x.kind = 8 then 1 else 0) := by
  unfold capsN
  rw [List.take_add_one, h, Option.toList_some, List.filter_append, List.length_append]
  by_cases h8 : x.kind = 8
  · simp [h8]
  · simp [h8]
theorem capsN_le (L : List Nd) (j : Nat) : capsN L j ≤ L.length := by
  unfold capsN
  exact Nat.le_trans (List.length_filter_le _ _) (by rw [List.length_take]; omega)
set_option maxHeartbeats 8000000 in
set_option maxRecDepth 100000 in
theorem pmany_walk (m : Nat) (st : Bool) (w : World) (hT : U.Tb w) (hm : m < 256) : Calls Tryd.prog 4 #[.int .u8 (m : Int), .bool st] w fun e w' => e = .returned (.bool true) ∧ Below w.heap.size w w' := by
  have HT := Lib.hid hT; clear hT
  go_enter Tryd.func4, Tryd.ntmps4
  go_wp2_with fail
  obtain ⟨k, hk, h90, h109⟩ : ∃ k : Nat, 90 + (m : Int) % 20 = (k : Int) ∧ 90 ≤ k ∧ k ≤ 109 := ⟨90 + m % 20, by omega, by omega, by omega⟩
  rw [hk]
  clear hk
  have HPA := Lib.hid (fun (W : World) (hW : U.Tb W) => parse_many k st (by omega) (by omega) W hW)
  go_loopw [6, 7] (fun v t wr => ∃ i : Nat, v = .string (rowT i) ∧ t = .int .i64 (i : Int) ∧ i ≤ k ∧ wr = w) (fun _ t _ => k - (intOf t).toNat)
  case atStart => exact ⟨0, rfl, rfl, Nat.zero_le _, by first | trivial | rfl⟩
  case round =>
    obtain ⟨i, rfl, rfl, hik, rfl⟩ := hrel
    by_cases hlt : i < k
    · have d1 : decide (i < k) = true := decide_eq_true hlt
      have hsz : (rowT i).size ≤ 400 := by rw [rowT_size]; omega
      have hrow : rowT i ++ (⟨#[40, 97, 41]⟩ : ByteArray) = rowT (i + 1) := rfl
      have HROW := Lib.hid hrow
      clear hrow
      generalize rowT i = r at *
      go_wp2_with fail
      go_roundw
      case rel => exact ⟨i + 1, by rw [HROW.out], congrArg (Value.int .i64) (by omega), hlt, by first | trivial | rfl⟩
      case measure => simp [intOf]; omega
    · have d1 : decide (i < k) = false := decide_eq_false hlt
      obtain rfl : i = k := by omega
      have hsz : (rowT i).size ≤ 400 := by rw [rowT_size]; omega
      have hsz2 : (rowT i).size = 3 * i := rowT_size i
      cases st with
      | true =>
        have HMT := Lib.hid (show rowT i ++ (⟨#[42]⟩ : ByteArray) = manyT i true from rfl)
        go_wp2_with fail
        rw [HMT.out]
        refine (HPA.out _ HT.out).mono ?_
        rintro e w1 ⟨A, c, L, E, q, rfl, hN, hb1, hok, hbad⟩
        obtain ⟨n, hn⟩ : ∃ n, L.length = n := ⟨_, rfl⟩
        rw [hn]
        obtain ⟨ba, kz0, kz1⟩ := two_new w1 A n c E q
        have HB1 := Lib.hid (S.bel_trans hb1 ba)
        have HN := Lib.hid (hN.below ba)
        obtain ⟨p0, _⟩ := obj29 kz0
        obtain ⟨z0, z1, _⟩ := blk2 kz1
        have HNL := Lib.hid hn
        have HOK := Lib.hid hok; have HBAD := Lib.hid hbad
        clear hN hb1 hok hbad ba kz0 kz1 hn HMT
        have hgt := Tryd.eqGuardType28
        by_cases h99 : i ≤ 99
        · obtain ⟨rfl, rfl, hpm, ⟨x5, hx5, hk5⟩, hlen⟩ := HOK.out h99
          have d99 : decide (99 < i) = false := decide_eq_false (by omega)
          have d99' : (i : Int) ≤ 99 := by omega
          have HPM := Lib.hid hpm
          have hpos : 0 < n := by
            have := (List.getElem?_eq_some_iff.1 hx5).1
            rw [HNL.out] at this
            omega
          rw [HNL.out] at hx5 hlen
          obtain ⟨b, off, rfl, _, hcs⟩ := HN.out (by intro h; have := HNL.out; rw [h] at this; simp at this; omega)
          have HCS := Lib.hid hcs
          have HX5 := Lib.hid hx5; have HK5 := Lib.hid hk5
          clear hpm hcs hx5 hk5 HOK HBAD h99 HN
          go_wp2_with fail
          generalize hX : (w1.alloc (.cells #[.slice (some ⟨b, off, none⟩) n c] 25)).alloc (.cells #[.int .i64 0, .int .i64 0] 28) = X at *
          go_loopw [10, 11] (fun cv iv wr => ∃ j : Nat, cv = .int .i64 ((capsN L j : Nat) : Int) ∧ iv = .int .i64 (j : Int) ∧ j ≤ n ∧ wr = X) (fun _ iv _ => n - (intOf iv).toNat)
          case atStart => exact ⟨0, rfl, rfl, Nat.zero_le _, by first | trivial | rfl⟩
          case round =>
            obtain ⟨j, rfl, rfl, hjn, rfl⟩ := hrel
            by_cases hj : j < n
            · have dj : decide (j < n) = true := decide_eq_true hj
              have dj' : (j : Int) < (n : Int) := by omega
              obtain ⟨x, hx⟩ : ∃ x, L[j]? = some x := ⟨_, List.getElem?_eq_getElem (by rw [HNL.out]; exact hj)⟩
              obtain ⟨As, ks, ⟨c0, _, _, _, _, _, c6⟩, _⟩ := HCS.out j x hx
              have hsucc := capsN_succ hx
              have hcle : capsN L j ≤ n := by have := capsN_le L j; rw [HNL.out] at this; exact this
              have HX := Lib.hid hx
              clear hx
              by_cases h8 : x.kind = 8
              · rw [HPM.out.1 j x HX.out h8] at c6
                rw [if_pos h8] at hsucc
                rw [h8] at c0
                generalize capsN L j = cc at *
                go_wp2_with fail
                go_roundw
                case rel => exact ⟨j + 1, congrArg (Value.int .i64) (by rw [hsucc]; omega), congrArg (Value.int .i64) (by omega), hj, by first | trivial | rfl⟩
                case measure => simp [intOf]; omega
              · have e8 : (x.kind == 8) = false := beq_eq_false_iff_ne.2 h8
                rw [if_neg h8] at hsucc
                generalize capsN L j = cc at *
                generalize x.kind = kd8 at *
                clear h8
                go_wp2_with fail
                go_roundw
                case rel => exact ⟨j + 1, congrArg (Value.int .i64) (by rw [hsucc]; omega), congrArg (Value.int .i64) (by omega), hj, by first | trivial | rfl⟩
                case measure => simp [intOf]; omega
            · have dj : decide (j < n) = false := decide_eq_false hj
              obtain rfl : j = n := by omega
              have hcap : capsN L j = i := by have := HPM.out.2; rw [HNL.out] at this; exact this
              rw [hcap]
              obtain ⟨n', rfl⟩ : ∃ n', j = n' + 1 := ⟨j - 1, by omega⟩
              obtain ⟨As, ks, ⟨c0, _, _, _, _, _, _⟩, _⟩ := HCS.out n' x5 HX5.out
              rw [HK5.out] at c0
              have ew : IntKind.i64.wrap ((n' : Int) + 1 - 1) = (n' : Int) := by rw [show (n' : Int) + 1 - 1 = n' by omega]; exact IntWalk.i64_in _ (by omega)
              have ew2 : IntKind.i64.wrap (((n' + 1 : Nat) : Int) - 1) = (n' : Int) := by rw [show ((n' + 1 : Nat) : Int) - 1 = n' by omega]; exact IntWalk.i64_in _ (by omega)
              have ew3 : IntKind.i64.wrap (n' : Int) = (n' : Int) := IntWalk.i64_in _ (by omega)
              have d1i : decide (1 < i) = true := decide_eq_true (by omega)
              have d1i' : (1 : Int) < (i : Int) := by omega
              have hkl : (n' : Int) < (n' : Int) + 1 := by omega
              go_wp2_with fail
              refine (wakes9_any _ (HT.out.below HB1.out)).mono ?_
              rintro e w3 ⟨rfl, hb3⟩
              go_wp2_with fail
              go_ret
              exact ⟨rfl, S.bel_trans HB1.out hb3⟩
        · obtain ⟨rfl, rfl, rfl⟩ := HBAD.out (by omega)
          have d99 : decide (99 < i) = true := decide_eq_true (by omega)
          have d99' : (99 : Int) < (i : Int) := by omega
          obtain rfl : n = 0 := HNL.out.symm
          have hq := eqf 7 297
          clear HOK HBAD HN
          go_wp2_with fail
          refine (wakes9_any _ (HT.out.below HB1.out)).mono ?_
          rintro e w3 ⟨rfl, hb3⟩
          go_wp2_with fail
          go_ret
          exact ⟨rfl, S.bel_trans HB1.out hb3⟩
      | false =>
        have HMT := Lib.hid (show rowT i = manyT i false from rfl)
        go_wp2_with fail
        rw [HMT.out]
        refine (HPA.out _ HT.out).mono ?_
        rintro e w1 ⟨A, c, L, E, q, rfl, hN, hb1, hok, hbad⟩
        obtain ⟨n, hn⟩ : ∃ n, L.length = n := ⟨_, rfl⟩
        rw [hn]
        obtain ⟨ba, kz0, kz1⟩ := two_new w1 A n c E q
        have HB1 := Lib.hid (S.bel_trans hb1 ba)
        have HN := Lib.hid (hN.below ba)
        obtain ⟨p0, _⟩ := obj29 kz0
        obtain ⟨z0, z1, _⟩ := blk2 kz1
        have HNL := Lib.hid hn
        have HOK := Lib.hid hok; have HBAD := Lib.hid hbad
        clear hN hb1 hok hbad ba kz0 kz1 hn HMT
        have hgt := Tryd.eqGuardType28
        by_cases h99 : i ≤ 99
        · obtain ⟨rfl, rfl, hpm, ⟨x5, hx5, hk5⟩, hlen⟩ := HOK.out h99
          have d99 : decide (99 < i) = false := decide_eq_false (by omega)
          have d99' : (i : Int) ≤ 99 := by omega
          have HPM := Lib.hid hpm
          have hpos : 0 < n := by
            have := (List.getElem?_eq_some_iff.1 hx5).1
            rw [HNL.out] at this
            omega
          rw [HNL.out] at hx5 hlen
          obtain ⟨b, off, rfl, _, hcs⟩ := HN.out (by intro h; have := HNL.out; rw [h] at this; simp at this; omega)
          have HCS := Lib.hid hcs
          have HX5 := Lib.hid hx5; have HK5 := Lib.hid hk5
          clear hpm hcs hx5 hk5 HOK HBAD h99 HN
          go_wp2_with fail
          generalize hX : (w1.alloc (.cells #[.slice (some ⟨b, off, none⟩) n c] 25)).alloc (.cells #[.int .i64 0, .int .i64 0] 28) = X at *
          go_loopw [10, 11] (fun cv iv wr => ∃ j : Nat, cv = .int .i64 ((capsN L j : Nat) : Int) ∧ iv = .int .i64 (j : Int) ∧ j ≤ n ∧ wr = X) (fun _ iv _ => n - (intOf iv).toNat)
          case atStart => exact ⟨0, rfl, rfl, Nat.zero_le _, by first | trivial | rfl⟩
          case round =>
            obtain ⟨j, rfl, rfl, hjn, rfl⟩ := hrel
            by_cases hj : j < n
            · have dj : decide (j < n) = true := decide_eq_true hj
              have dj' : (j : Int) < (n : Int) := by omega
              obtain ⟨x, hx⟩ : ∃ x, L[j]? = some x := ⟨_, List.getElem?_eq_getElem (by rw [HNL.out]; exact hj)⟩
              obtain ⟨As, ks, ⟨c0, _, _, _, _, _, c6⟩, _⟩ := HCS.out j x hx
              have hsucc := capsN_succ hx
              have hcle : capsN L j ≤ n := by have := capsN_le L j; rw [HNL.out] at this; exact this
              have HX := Lib.hid hx
              clear hx
              by_cases h8 : x.kind = 8
              · rw [HPM.out.1 j x HX.out h8] at c6
                rw [if_pos h8] at hsucc
                rw [h8] at c0
                generalize capsN L j = cc at *
                go_wp2_with fail
                go_roundw
                case rel => exact ⟨j + 1, congrArg (Value.int .i64) (by rw [hsucc]; omega), congrArg (Value.int .i64) (by omega), hj, by first | trivial | rfl⟩
                case measure => simp [intOf]; omega
              · have e8 : (x.kind == 8) = false := beq_eq_false_iff_ne.2 h8
                rw [if_neg h8] at hsucc
                generalize capsN L j = cc at *
                generalize x.kind = kd8 at *
                clear h8
                go_wp2_with fail
                go_roundw
                case rel => exact ⟨j + 1, congrArg (Value.int .i64) (by rw [hsucc]; omega), congrArg (Value.int .i64) (by omega), hj, by first | trivial | rfl⟩
                case measure => simp [intOf]; omega
            · have dj : decide (j < n) = false := decide_eq_false hj
              obtain rfl : j = n := by omega
              have hcap : capsN L j = i := by have := HPM.out.2; rw [HNL.out] at this; exact this
              rw [hcap]
              obtain ⟨n', rfl⟩ : ∃ n', j = n' + 1 := ⟨j - 1, by omega⟩
              obtain ⟨As, ks, ⟨c0, _, _, _, _, _, _⟩, _⟩ := HCS.out n' x5 HX5.out
              rw [HK5.out] at c0
              have ew : IntKind.i64.wrap ((n' : Int) + 1 - 1) = (n' : Int) := by rw [show (n' : Int) + 1 - 1 = n' by omega]; exact IntWalk.i64_in _ (by omega)
              have ew2 : IntKind.i64.wrap (((n' + 1 : Nat) : Int) - 1) = (n' : Int) := by rw [show ((n' + 1 : Nat) : Int) - 1 = n' by omega]; exact IntWalk.i64_in _ (by omega)
              have ew3 : IntKind.i64.wrap (n' : Int) = (n' : Int) := IntWalk.i64_in _ (by omega)
              have d1i : decide (1 < i) = true := decide_eq_true (by omega)
              have d1i' : (1 : Int) < (i : Int) := by omega
              have hkl : (n' : Int) < (n' : Int) + 1 := by omega
              go_wp2_with fail
              refine (wakes9_any _ (HT.out.below HB1.out)).mono ?_
              rintro e w3 ⟨rfl, hb3⟩
              go_wp2_with fail
              go_ret
              exact ⟨rfl, S.bel_trans HB1.out hb3⟩
        · obtain ⟨rfl, rfl, rfl⟩ := HBAD.out (by omega)
          have d99 : decide (99 < i) = true := decide_eq_true (by omega)
          have d99' : (99 : Int) < (i : Int) := by omega
          obtain rfl : n = 0 := HNL.out.symm
          have hq := eqf 7 297
          clear HOK HBAD HN
          go_wp2_with fail
          refine (wakes9_any _ (HT.out.below HB1.out)).mono ?_
          rintro e w3 ⟨rfl, hb3⟩
          go_wp2_with fail
          go_ret
          exact ⟨rfl, S.bel_trans HB1.out hb3⟩
theorem pmany_any (n : Int) (st : Bool) (w : World) (hT : U.Tb w) (hn : 0 ≤ n ∧ n < 256) : Calls Tryd.prog 4 #[.int .u8 n, .bool st] w fun e w' => e = .returned (.bool true) ∧ Below w.heap.size w w' := by
  obtain ⟨m, rfl⟩ := Int.eq_ofNat_of_zero_le hn.1
  exact pmany_walk m st w hT (by omega)
end Go.Proofs.YtceeimolfalmpaaDoor.T
