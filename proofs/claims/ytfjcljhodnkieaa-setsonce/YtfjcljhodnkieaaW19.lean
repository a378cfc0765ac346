/-
  What Fold of the page's own and Set answer. Condition: at most 300000 ranges; for Set: at most 100 are kept.
-/
import Derived.Test.YtfjcljhodnkieaaW18
namespace Go.Proofs.Ytfjcljhodnkieaa
open Go.RowKit ObSets

theorem lets_succ (l : List R) (k : Nat) : lets l (k + 1) = lets l k ++ (if has l (97 + k) = true then [((97 + k : Int) - 32, (97 + k : Int) - 32)] else []) ++ (if has l ((97 + k : Int) - 32) = true then [((97 + k : Int), (97 + k : Int))] else []) := rfl

set_option maxHeartbeats 2000000 in
set_option maxRecDepth 100000 in
theorem rfold_any (A : Option Addr) (c : Nat) (l : List R) (w : World) (h : Rgs w w.heap.size A l) (hl : l.length ≤ 300000) :
    Calls Try.prog 28 #[.slice A l.length c] w (RetR (foldL l) w) := by
  obtain ⟨i0, hi, hz0, hz1, hz2⟩ := info_parts info32
  have hb0 := (Below.refl w.heap.size w).alloc (Nat.le_refl _) (.cells #[] 32)
  obtain ⟨v1, w1, hrun1, hown1, hg1⟩ := append_src (c := c) 22 (made_none w) (h.on hb0) (rgs_none h) (by simp; omega) (by simp)
  obtain ⟨o1, hb1⟩ := cat_rel hb0 (made_none w) hg1 hown1
  rw [List.nil_append] at o1
  have HR1 := Lib.hid hrun1
  have HO1 := Lib.hid o1
  have HH := Lib.hid (show ∀ (wr : World) (x : Int), Below w.heap.size w wr → Calls Try.prog 17 #[.slice A l.length c, .int .i64 x] wr fun e w' => e = .returned (.bool (has l x)) ∧ Below wr.heap.size wr w' from fun wr x hb => rhas_any A c l x wr (h.on hb) (by omega))
  have HF := Lib.hid (fold_same l)
  have HNL := Lib.hid (show ∀ k : Nat, k ≤ 26 → (l ++ lets l k).length ≤ 400000 from fun k hk => by have := lets_len l k; rw [List.length_append]; omega)
  have HN := Lib.hid (show ∀ (wr : World) (B : Option Addr) (d : Nat), Rgs wr wr.heap.size B (l ++ lets l 26) → Calls Try.prog 15 #[.slice B (l ++ lets l 26).length d] wr (RetR (nrm (l ++ lets l 26)) wr) from fun wr B d g => rnorm_any B d _ wr g (by have := HNL.out 26 (Nat.le_refl _); omega))
  rw [HF.out] at HN
  generalize foldL l = res at *
  generalize hnn : l.length = n at *
  clear hrun1 hown1 hg1 o1 h hnn
  go_enter Try.func28, Try.ntmps28
  go_wp2_with (at_builtin; refine Lib.wpList_append_run _ rfl _ _ _ _ rfl _ _ rfl rfl _ _ HR1.out ?_)
  go_loopw [3, 4] (fun v t wr => ∃ k : Nat, k ≤ 26 ∧ t = .int .i32 (97 + k) ∧ Hid (Ow wr w.heap.size v (l ++ lets l k)) ∧ Below w.heap.size w wr) (fun _ t _ => 200 - (intOf t).toNat)
  case atStart => exact ⟨0, by omega, rfl, (by show Ow _ _ _ (l ++ []); rw [List.append_nil]; exact HO1.out), hb1⟩
  case round =>
    obtain ⟨k, hk, rfl, HO, hb2⟩ := hrel
    by_cases hkn : k < 26
    · have hd : decide ((97 : Int) + k ≤ 122) = true := by simp; omega
      have hdx : (97 : Int) + k ≤ 122 := by omega
      have HS := Lib.hid (lets_succ l k)
      have hlen := Lib.hid (HNL.out k hk)
      have HA := Lib.hid (fun wr hb => HH.out wr (97 + k) hb)
      have HB := Lib.hid (fun wr hb => HH.out wr ((97 + k : Int) - 32) hb)
      have hsz := Lib.hid hb2.size
      generalize hm : l ++ lets l k = m at HO hlen
      have HM := Lib.hid hm
      clear hm
      cases h1 : has l (97 + k) with
      | true =>
        have h1x : has l (97 + k) = true := h1
        cases h2 : has l ((97 + k : Int) - 32) with
        | true =>
          have h2x : has l ((97 + k : Int) - 32) = true := h2
          have HT := Lib.hid (show l ++ lets l (k + 1) = (m ++ [((97 + k : Int) - 32, (97 + k : Int) - 32)]) ++ [((97 + k : Int), (97 + k : Int))] by rw [HS.out, if_pos h1x, if_pos h2x, ← HM.out]; simp only [List.append_assoc])
          rw [h1] at HA; rw [h2] at HB
          clear h1 h2 h1x h2x HS
          go_wp2_with (first | (go_at_call 17; refine (HA.out _ hb2).mono ?_; rintro e w3 ⟨rfl, hb3⟩; have HB3 := Lib.hid hb3; clear hb3; have HO3 := Lib.hid (HO.out.below HB3.out); have HL3 := Lib.hid (bel_trans hb2 HB3.out)) | (at_builtin; refine wpList_append_own _ rfl _ _ 22 rfl w.heap.size 32 i0 (.agg #[.int .i64 0, .int .i64 0]) 2 16 Try.underlying22 hi hz0 hz1 hz2 rfl (by omega) _ _ _ rfl (HO3.out.alloc _) ⟨w3.heap.size, 0, none⟩ 1 1 [.int .i64 ((97 + k : Int) - 32), .int .i64 ((97 + k : Int) - 32)] rfl rfl (two_cells _ _ _ _) (ones2 _ _) ?c3 ?c4 ?c5 ?_))
          case c3 => have := hlen.out; unfold maxLen; omega
          case c4 => have := hlen.out; omega
          case c5 => have := HL3.out.size; simp; omega
          intro v' w4 hown' hgrow _
          have R := push_rel hb2 HB3.out HO.out hown' hgrow
          clear hown' hgrow
          have R1 := Lib.hid R.1; have R2 := R.2
          clear R
          generalize hm2 : m ++ [((97 + k : Int) - 32, (97 + k : Int) - 32)] = m2 at R1 HT
          have hlen2 := Lib.hid (show m2.length ≤ 400001 by have := hlen.out; rw [← hm2]; simp; omega)
          clear hm2
          go_wp2_with (first | (go_at_call 17; refine (HB.out _ R2).mono ?_; rintro e w5 ⟨rfl, hb5⟩; have HB5 := Lib.hid hb5; clear hb5; have HO5 := Lib.hid (R1.out.below HB5.out); have HL5 := Lib.hid (bel_trans R2 HB5.out)) | (at_builtin; refine wpList_append_own _ rfl _ _ 22 rfl w.heap.size 32 i0 (.agg #[.int .i64 0, .int .i64 0]) 2 16 Try.underlying22 hi hz0 hz1 hz2 rfl (by omega) _ _ _ rfl (HO5.out.alloc _) ⟨w5.heap.size, 0, none⟩ 1 1 [.int .i64 ((97 + k : Int)), .int .i64 ((97 + k : Int))] rfl rfl (two_cells _ _ _ _) (ones2 _ _) ?c3 ?c4 ?c5 ?_))
          case c3 => have := hlen2.out; unfold maxLen; omega
          case c4 => have := hlen2.out; omega
          case c5 => have := HL5.out.size; simp; omega
          intro v'' w6 hown'' hgrow' _
          have R := push_rel R2 HB5.out R1.out hown'' hgrow'
          clear hown'' hgrow'
          have S1 := Lib.hid R.1; have S2 := R.2
          clear R
          go_wp2
          go_roundw
          case rel => exact ⟨k + 1, by omega, congrArg (Value.int .i32) (by omega), (by show Ow _ _ _ (l ++ lets l (k + 1)); rw [HT.out]; exact S1.out), S2⟩
          case measure => simp [intOf]; omega
        | false =>
          have h2x : ¬ has l ((97 + k : Int) - 32) = true := by rw [h2]; simp
          have HT := Lib.hid (show l ++ lets l (k + 1) = (m ++ [((97 + k : Int) - 32, (97 + k : Int) - 32)]) by rw [HS.out, if_pos h1x, if_neg h2x, ← HM.out]; simp only [List.append_assoc, List.append_nil])
          rw [h1] at HA; rw [h2] at HB
          clear h1 h2 h1x h2x HS
          go_wp2_with (first | (go_at_call 17; refine (HA.out _ hb2).mono ?_; rintro e w3 ⟨rfl, hb3⟩; have HB3 := Lib.hid hb3; clear hb3; have HO3 := Lib.hid (HO.out.below HB3.out); have HL3 := Lib.hid (bel_trans hb2 HB3.out)) | (at_builtin; refine wpList_append_own _ rfl _ _ 22 rfl w.heap.size 32 i0 (.agg #[.int .i64 0, .int .i64 0]) 2 16 Try.underlying22 hi hz0 hz1 hz2 rfl (by omega) _ _ _ rfl (HO3.out.alloc _) ⟨w3.heap.size, 0, none⟩ 1 1 [.int .i64 ((97 + k : Int) - 32), .int .i64 ((97 + k : Int) - 32)] rfl rfl (two_cells _ _ _ _) (ones2 _ _) ?c3 ?c4 ?c5 ?_))
          case c3 => have := hlen.out; unfold maxLen; omega
          case c4 => have := hlen.out; omega
          case c5 => have := HL3.out.size; simp; omega
          intro v' w4 hown' hgrow _
          have R := push_rel hb2 HB3.out HO.out hown' hgrow
          clear hown' hgrow
          have R1 := Lib.hid R.1; have R2 := R.2
          clear R
          generalize hm2 : m ++ [((97 + k : Int) - 32, (97 + k : Int) - 32)] = m2 at R1 HT
          have hlen2 := Lib.hid (show m2.length ≤ 400001 by have := hlen.out; rw [← hm2]; simp; omega)
          clear hm2
          go_wp2_with (go_at_call 17; refine (HB.out _ R2).mono ?_; rintro e w5 ⟨rfl, hb5⟩; have HB5 := Lib.hid hb5; clear hb5; have HO5 := Lib.hid (R1.out.below HB5.out); have HL5 := Lib.hid (bel_trans R2 HB5.out))
          go_roundw
          case rel => exact ⟨k + 1, by omega, congrArg (Value.int .i32) (by omega), (by show Ow _ _ _ (l ++ lets l (k + 1)); rw [HT.out]; exact HO5.out), HL5.out⟩
          case measure => simp [intOf]; omega
      | false =>
        have h1x : ¬ has l (97 + k) = true := by rw [h1]; simp
        cases h2 : has l ((97 + k : Int) - 32) with
        | true =>
          have h2x : has l ((97 + k : Int) - 32) = true := h2
          have HT := Lib.hid (show l ++ lets l (k + 1) = m ++ [((97 + k : Int), (97 + k : Int))] by rw [HS.out, if_neg h1x, if_pos h2x, ← HM.out]; simp only [List.append_assoc, List.append_nil])
          rw [h1] at HA; rw [h2] at HB
          clear h1 h2 h1x h2x HS
          have hlen2 := hlen
          go_wp2_with (first | (go_at_call 17; refine (HA.out _ hb2).mono ?_; rintro e w3 ⟨rfl, hb3⟩; have HB3 := Lib.hid hb3; clear hb3; clear HA; have HO3 := Lib.hid (HO.out.below HB3.out); have HL3 := Lib.hid (bel_trans hb2 HB3.out)) | (go_at_call 17; refine (HB.out _ HL3.out).mono ?_; rintro e w5 ⟨rfl, hb5⟩; have HB5 := Lib.hid hb5; clear hb5; have HO5 := Lib.hid (HO3.out.below HB5.out); have HL5 := Lib.hid (bel_trans HL3.out HB5.out)) | (at_builtin; refine wpList_append_own _ rfl _ _ 22 rfl w.heap.size 32 i0 (.agg #[.int .i64 0, .int .i64 0]) 2 16 Try.underlying22 hi hz0 hz1 hz2 rfl (by omega) _ _ _ rfl (HO5.out.alloc _) ⟨w5.heap.size, 0, none⟩ 1 1 [.int .i64 ((97 + k : Int)), .int .i64 ((97 + k : Int))] rfl rfl (two_cells _ _ _ _) (ones2 _ _) ?c3 ?c4 ?c5 ?_))
          case c3 => have := hlen2.out; unfold maxLen; omega
          case c4 => have := hlen2.out; omega
          case c5 => have := HL5.out.size; simp; omega
          intro v'' w6 hown'' hgrow' _
          have R := push_rel HL3.out HB5.out HO3.out hown'' hgrow'
          clear hown'' hgrow'
          have S1 := Lib.hid R.1; have S2 := R.2
          clear R
          go_wp2
          go_roundw
          case rel => exact ⟨k + 1, by omega, congrArg (Value.int .i32) (by omega), (by show Ow _ _ _ (l ++ lets l (k + 1)); rw [HT.out]; exact S1.out), S2⟩
          case measure => simp [intOf]; omega
        | false =>
          have h2x : ¬ has l ((97 + k : Int) - 32) = true := by rw [h2]; simp
          have HT := Lib.hid (show l ++ lets l (k + 1) = m by rw [HS.out, if_neg h1x, if_neg h2x, ← HM.out]; simp only [List.append_nil])
          rw [h1] at HA; rw [h2] at HB
          clear h1 h2 h1x h2x HS
          have hlen2 := hlen
          go_wp2_with (first | (go_at_call 17; refine (HA.out _ hb2).mono ?_; rintro e w3 ⟨rfl, hb3⟩; have HB3 := Lib.hid hb3; clear hb3; clear HA; have HO3 := Lib.hid (HO.out.below HB3.out); have HL3 := Lib.hid (bel_trans hb2 HB3.out)) | (go_at_call 17; refine (HB.out _ HL3.out).mono ?_; rintro e w5 ⟨rfl, hb5⟩; have HB5 := Lib.hid hb5; clear hb5; have HO5 := Lib.hid (HO3.out.below HB5.out); have HL5 := Lib.hid (bel_trans HL3.out HB5.out)))
          go_roundw
          case rel => exact ⟨k + 1, by omega, congrArg (Value.int .i32) (by omega), (by show Ow _ _ _ (l ++ lets l (k + 1)); rw [HT.out]; exact HO5.out), HL5.out⟩
          case measure => simp [intOf]; omega
    · have hd : decide ((97 : Int) + k ≤ 122) = false := by simp; omega
      obtain rfl : k = 26 := by omega
      obtain ⟨B, d, rfl, _, _, r, _⟩ := HO.out.shape
      have HR := Lib.hid r
      clear r
      generalize (l ++ lets l 26).length = n2 at *
      go_wp2_with (go_at_call 15; refine (HN.out _ _ _ HR.out).mono ?_; rintro e w3 ⟨v3, rfl, hown3, hb3⟩)
      go_ret
      exact ⟨_, rfl, hown3.less hb2.size, bel_trans hb2 hb3⟩

set_option maxHeartbeats 1000000 in
theorem set_any (A : Option Addr) (n c : Nat) (most : Nat) (l : List R) (w : World) (hn : l.length = n) (hnc : n ≤ c) (hc : c ≤ maxLen) (h : Rgs w w.heap.size A (l.take most)) (hA : A = none → l = []) (hm : most ≤ 100) :
    Calls Try.prog 8 #[.slice A n c, .int .i64 most] w (RetR (l.take most) w) := by
  have hc' : c ≤ 9223372036854775807 := by unfold maxLen at hc; omega
  have hb0 := (Below.refl w.heap.size w).alloc (Nat.le_refl _) (.cells #[] 32)
  have htl : (l.take most).length = min most n := by rw [List.length_take, hn]
  obtain ⟨v1, w1, hrun1, hown1, hg1⟩ := append_src (c := c) 22 (made_none w) (h.on hb0) (rgs_none h) (by simp; omega) (by simp)
  obtain ⟨o1, hb1⟩ := cat_rel hb0 (made_none w) hg1 hown1
  rw [List.nil_append] at o1
  have HR1 := Lib.hid hrun1
  have HO1 := Lib.hid o1
  rw [htl] at HR1
  clear hrun1 hown1 hg1 o1 h htl
  by_cases hgt : most < n
  · have hd : decide (most < n) = true := by simp; omega
    have hgt' : (most : Int) < (n : Int) := by omega
    rw [show min most n = most by omega] at HR1
    rcases A with _ | ⟨b, off, sp⟩
    · have := hA rfl; rw [this] at hn; simp at hn; omega
    · clear hA
      go_enter Try.func8, Try.ntmps8
      go_wp2_with (at_builtin; refine Lib.wpList_append_run _ rfl _ _ _ _ rfl _ _ rfl rfl _ _ HR1.out ?_)
      go_ret
      exact ⟨_, rfl, HO1.out, hb1⟩
  · have hd : decide (most < n) = false := by simp; omega
    have hgt' : (n : Int) ≤ (most : Int) := by omega
    rw [show min most n = n by omega] at HR1
    clear hA
    go_enter Try.func8, Try.ntmps8
    go_wp2_with (at_builtin; refine Lib.wpList_append_run _ rfl _ _ _ _ rfl _ _ rfl rfl _ _ HR1.out ?_)
    go_ret
    exact ⟨_, rfl, HO1.out, hb1⟩
end Go.Proofs.Ytfjcljhodnkieaa
