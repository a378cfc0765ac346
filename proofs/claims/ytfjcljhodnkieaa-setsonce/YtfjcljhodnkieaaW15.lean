/-
  What Not answers, of the program and of the page's own. Condition: at most 900000 ranges.
-/
import Derived.Test.YtfjcljhodnkieaaW14
namespace Go.Proofs.Ytfjcljhodnkieaa
open Go.RowKit ObSets

/-- One range gone by: what stands between, and from where on. -/
def st (s : List R × Int) (r : R) : List R × Int := (s.1 ++ (if s.2 < r.1 then [(s.2, pv r.1)] else []), nx r.2)
def sts (m : List R) : List R × Int := m.foldl st ([], 0)
theorem st_not : ∀ (m : List R) (s : List R × Int), (m.foldl st s).1 ++ notF (m.foldl st s).2 [] = s.1 ++ notF s.2 m
  | [], s => rfl
  | r :: m, s => by
    rw [List.foldl_cons, st_not m (st s r)]
    show (s.1 ++ _) ++ notF (nx r.2) m = s.1 ++ notF s.2 (r :: m)
    rw [List.append_assoc]; rfl
theorem sts_not (m : List R) : (sts m).1 ++ notF (sts m).2 [] = notF 0 m := st_not m ([], 0)
theorem st_len : ∀ (m : List R) (s : List R × Int), (m.foldl st s).1.length ≤ s.1.length + m.length
  | [], s => by simp
  | r :: m, s => by
    rw [List.foldl_cons]
    have := st_len m (st s r)
    have h2 : (st s r).1.length ≤ s.1.length + 1 := by unfold st; simp only [List.length_append]; split <;> simp
    simp only [List.length_cons]; omega
theorem sts_len (m : List R) (k : Nat) : (sts (m.take k)).1.length ≤ k := by
  have h1 := st_len (m.take k) ([], 0)
  have h2 : (m.take k).length ≤ k := by rw [List.length_take]; omega
  simp only [List.length_nil] at h1
  unfold sts; omega
theorem sts_take {m : List R} {k : Nat} {r : R} (h : m[k]? = some r) : sts (m.take (k + 1)) = st (sts (m.take k)) r := by
  unfold sts; rw [List.take_add_one, h]; simp
theorem not_neg {lo : Int} (h : lo < 0) : notF lo [] = [] := by unfold notF; rw [if_neg (by omega)]
theorem not_pos {lo : Int} (h : 0 ≤ lo) : notF lo [] = [(lo, 1114367)] := by unfold notF; rw [if_pos h]
theorem last_of {m : List R} {k : Nat} {r : R} (hm : Nrm m) (h : m[k]? = some r) (hn : nx r.2 < 0) : k + 1 = m.length := by
  have hk : k < m.length := by
    rcases Nat.lt_or_ge k m.length with h1 | h1
    · exact h1
    · rw [List.getElem?_eq_none h1] at h; cases h
  rcases Nat.lt_or_ge (k + 1) m.length with h1 | h1
  · have := List.pairwise_iff_getElem.1 hm.2 k (k + 1) hk h1 (by omega)
    have e : m[k] = r := by rw [List.getElem?_eq_getElem hk] at h; injection h
    rw [e] at this
    have := (ap_iff.1 this).1
    have := nx_ge (x := r.2)
    omega
  · omega

set_option maxHeartbeats 1000000 in
set_option maxRecDepth 100000 in
theorem not_any (A : Option Addr) (c : Nat) (l : List R) (w : World) (h : Rgs w w.heap.size A l) (hl : l.length ≤ 900000) :
    Calls Try.prog 25 #[.slice A l.length c] w (RetR (notL l) w) := by
  obtain ⟨i0, hi, hz0, hz1, hz2⟩ := info_parts info32
  have HC := Lib.hid (norm_any A c l w h (by omega))
  have hnl := Lib.hid (show (nrm l).length ≤ 900000 by have := nrm_len l; omega)
  have HE := Lib.hid (show (sts (nrm l)).1 ++ notF (sts (nrm l)).2 [] = notL l from sts_not _)
  generalize notL l = res at *
  generalize nrm l = m at *
  generalize l.length = n at *
  clear h hl
  go_enter Try.func25, Try.ntmps25
  go_wp2_with (go_at_call 14; refine HC.out.mono ?_; rintro e w1 ⟨v, rfl, hown, hb⟩; obtain ⟨A1, cap, rfl, hc1, hc2, hr, _⟩ := hown.shape)
  have hml := hnl.out
  have HR := Lib.hid hr
  clear hown HC hr hnl hc1 hc2
  generalize hn2 : m.length = k0 at *
  have HN := Lib.hid hn2
  clear hn2
  go_loopw [3, 4, 10] (fun v s t wr => ∃ (k : Nat) (out : List R) (lo : Int), k ≤ k0 ∧ t = .int .i64 k ∧ s = .int .i64 lo ∧ Hid (sts (m.take k) = (out, lo)) ∧ Hid (Ow wr w1.heap.size v out) ∧ Below w1.heap.size w1 wr) (fun _ _ t _ => k0 - (intOf t).toNat)
  case atStart => exact ⟨0, [], 0, by omega, rfl, rfl, (rfl : sts [] = ([], 0)), Ow.nil _ _, Below.refl _ _⟩
  case round =>
    obtain ⟨k, out, lo, hk, rfl, rfl, HS, HO, hb2⟩ := hrel
    have hol := Lib.hid (show out.length ≤ k by have := sts_len m k; rw [HS.out] at this; exact this)
    by_cases hkn : k < k0
    · obtain ⟨b, off, p, q, rfl, hbl, e1, f1, f2⟩ := (HR.out.below hb2).at_ (k := k) (by rw [HN.out]; exact hkn)
      have hk1 : (k : Int) < (k0 : Int) := by omega
      have HT := Lib.hid (sts_take e1)
      rw [HS.out] at HT
      have hsz := Lib.hid hb2.size
      have HNX := Lib.hid (next_any q)
      have HPV := Lib.hid (prev_any p)
      clear e1
      by_cases hlt : lo < p
      · have hd : decide (lo < p) = true := by simp; omega
        have HT2 := Lib.hid (show sts (m.take (k + 1)) = (out ++ [(lo, pv p)], nx q) by rw [HT.out]; unfold st; simp [hlt])
        generalize nx q = nq2 at *
        generalize pv p = pp at *
        go_wp2_with (first | (go_at_call 46; refine (HPV.out _).mono ?_; rintro e w' ⟨rfl, rfl⟩) | (at_builtin; refine wpList_append_own _ rfl _ _ 22 rfl w1.heap.size 32 i0 (.agg #[.int .i64 0, .int .i64 0]) 2 16 Try.underlying22 hi hz0 hz1 hz2 rfl (by omega) _ _ _ rfl ((HO.out.alloc _).alloc _) ⟨wr.heap.size + 1, 0, none⟩ 1 1 [.int .i64 lo, .int .i64 pp] rfl rfl (two_cells1 _ _ _ _ _) (ones2 _ _) ?c3 ?c4 ?c5 ?_))
        case c3 => have := hol.out; unfold maxLen; omega
        case c4 => have := hol.out; omega
        case c5 => have := hsz.out; simp; omega
        intro v' w2 hown' hgrow _
        have hnb := Lib.hid (show ∀ g, Value.ownBlock _ = some g → g < wr.heap.size from fun g hg => (HO.out.lt g hg).2)
        have cx : w2.cell? ⟨wr.heap.size, 1, none⟩ = some (.int .i64 q) := hgrow.cell (a := ⟨wr.heap.size, 1, none⟩) (by simp) (fun e => absurd (hnb.out _ e.symm) (Nat.lt_irrefl _))
        have R := push_rel hb2 ((Below.refl _ wr).alloc (Nat.le_refl _) _) HO.out hown' hgrow
        clear hown' hgrow hnb
        have R1 := Lib.hid R.1; have R2 := R.2
        clear R
        go_wp2_with (go_at_call 47; refine (HNX.out _).mono ?_; rintro e w' ⟨rfl, rfl⟩)
        go_roundw
        case rel => exact ⟨k + 1, _, _, by omega, by go_num, rfl, HT2.out, R1.out, R2⟩
        case measure => simp [intOf]; omega
      · have hd : decide (lo < p) = false := by simp; omega
        have HT2 := Lib.hid (show sts (m.take (k + 1)) = (out, nx q) by rw [HT.out]; unfold st; simp [hlt])
        generalize nx q = nq2 at *
        generalize pv p = pp at *
        go_wp2_with (go_at_call 47; refine (HNX.out _).mono ?_; rintro e w' ⟨rfl, rfl⟩)
        go_roundw
        case rel => exact ⟨k + 1, _, _, by omega, by go_num, rfl, HT2.out, HO.out.alloc _, hb2.alloc hb2.size _⟩
        case measure => simp [intOf]; omega
    · have hk1 : decide (k < k0) = false := by simp; omega
      obtain rfl : k = k0 := by omega
      have HE2 := Lib.hid (show out ++ notF lo [] = res by have := HE.out; rw [show m = m.take k by rw [← HN.out, List.take_length], HS.out] at this; exact this)
      by_cases hneg : lo < 0
      · have hd : decide (0 ≤ lo) = false := by simp; omega
        have HE3 := Lib.hid (show out = res by have := HE2.out; rwa [not_neg hneg, List.append_nil] at this)
        go_wp2
        go_ret
        exact ⟨_, rfl, by rw [← HE3.out]; exact HO.out.less hb.size, bel_trans hb hb2⟩
      · have hd : decide (0 ≤ lo) = true := by simp; omega
        have HE3 := Lib.hid (show out ++ [(lo, 1114367)] = res by have := HE2.out; rwa [not_pos (by omega)] at this)
        have hsz := Lib.hid hb2.size
        go_wp2_with (at_builtin; refine wpList_append_own _ rfl _ _ 22 rfl w1.heap.size 32 i0 (.agg #[.int .i64 0, .int .i64 0]) 2 16 Try.underlying22 hi hz0 hz1 hz2 rfl (by omega) _ _ _ rfl (HO.out.alloc _) ⟨wr.heap.size, 0, none⟩ 1 1 [.int .i64 lo, .int .i64 1114367] rfl rfl (two_cells _ _ _ _) (ones2 _ _) ?c3 ?c4 ?c5 ?_)
        case c3 => have := hol.out; unfold maxLen; omega
        case c4 => have := hol.out; omega
        case c5 => have := hsz.out; simp; omega
        intro v' w2 hown' hgrow _
        have R := push_rel hb2 (Below.refl _ wr) HO.out hown' hgrow
        clear hown' hgrow
        have R1 := Lib.hid R.1; have R2 := R.2
        clear R
        go_wp2
        go_ret
        exact ⟨_, rfl, by rw [← HE3.out]; exact R1.out.less hb.size, bel_trans hb R2⟩

set_option maxHeartbeats 1000000 in
set_option maxRecDepth 100000 in
theorem rnot_any (A : Option Addr) (c : Nat) (l : List R) (w : World) (h : Rgs w w.heap.size A l) (hl : l.length ≤ 900000) :
    Calls Try.prog 26 #[.slice A l.length c] w (RetR (notL l) w) := by
  obtain ⟨i0, hi, hz0, hz1, hz2⟩ := info_parts info32
  have HC := Lib.hid (rnorm_any A c l w h (by omega))
  have hnl := Lib.hid (show (nrm l).length ≤ 900000 by have := nrm_len l; omega)
  have HE := Lib.hid (show (sts (nrm l)).1 ++ notF (sts (nrm l)).2 [] = notL l from sts_not _)
  have HNR := Lib.hid (nrm_ok l).1
  generalize notL l = res at *
  generalize nrm l = m at *
  generalize l.length = n at *
  clear h hl
  go_enter Try.func26, Try.ntmps26
  go_wp2_with (go_at_call 15; refine HC.out.mono ?_; rintro e w1 ⟨v, rfl, hown, hb⟩; obtain ⟨A1, cap, rfl, hc1, hc2, hr, _⟩ := hown.shape)
  have hml := hnl.out
  have HR := Lib.hid hr
  clear hown HC hr hnl hc1 hc2
  generalize hn2 : m.length = k0 at *
  have HN := Lib.hid hn2
  clear hn2
  go_loopw [4, 5, 6] (fun v s t wr => ∃ (k : Nat) (out : List R) (lo : Int), k ≤ k0 ∧ t = .int .i64 k ∧ s = .int .i64 lo ∧ 0 ≤ lo ∧ Hid (sts (m.take k) = (out, lo)) ∧ Hid (Ow wr w1.heap.size v out) ∧ Below w1.heap.size w1 wr) (fun _ _ t _ => k0 - (intOf t).toNat)
  case atStart => exact ⟨0, [], 0, by omega, rfl, rfl, by omega, (rfl : sts [] = ([], 0)), Ow.nil _ _, Below.refl _ _⟩
  case round =>
    obtain ⟨k, out, lo, hk, rfl, rfl, hlo, HS, HO, hb2⟩ := hrel
    have hol := Lib.hid (show out.length ≤ k by have := sts_len m k; rw [HS.out] at this; exact this)
    by_cases hkn : k < k0
    · obtain ⟨b, off, p, q, rfl, hbl, e1, f1, f2⟩ := (HR.out.below hb2).at_ (k := k) (by rw [HN.out]; exact hkn)
      have hk1 : (k : Int) < (k0 : Int) := by omega
      have HT := Lib.hid (sts_take e1)
      rw [HS.out] at HT
      have hsz := Lib.hid hb2.size
      have HNX := Lib.hid (rnext_any q)
      have HPV := Lib.hid (rprev_any p)
      have HLAST := Lib.hid (last_of HNR.out e1)
      simp only at HLAST
      clear e1
      by_cases hlt : lo < p
      · have hd : decide (lo < p) = true := by simp; omega
        have HT2 := Lib.hid (show sts (m.take (k + 1)) = (out ++ [(lo, pv p)], nx q) by rw [HT.out]; unfold st; simp [hlt])
        generalize nx q = nq2 at *
        generalize pv p = pp at *
        go_wp2_with (first | (go_at_call 48; refine (HPV.out _).mono ?_; rintro e w' ⟨rfl, rfl⟩) | (at_builtin; refine wpList_append_own _ rfl _ _ 22 rfl w1.heap.size 32 i0 (.agg #[.int .i64 0, .int .i64 0]) 2 16 Try.underlying22 hi hz0 hz1 hz2 rfl (by omega) _ _ _ rfl (HO.out.alloc _) ⟨wr.heap.size, 0, none⟩ 1 1 [.int .i64 lo, .int .i64 pp] rfl rfl (two_cells _ _ _ _) (ones2 _ _) ?c3 ?c4 ?c5 ?_))
        case c3 => have := hol.out; unfold maxLen; omega
        case c4 => have := hol.out; omega
        case c5 => have := hsz.out; simp; omega
        intro v' w2 hown' hgrow _
        have R := push_rel hb2 (Below.refl _ wr) HO.out hown' hgrow
        clear hown' hgrow
        have R1 := Lib.hid R.1; have R2 := R.2
        clear R
        have f1' : w2.cell? ⟨b, off + k * 2, none⟩ = some (.int .i64 p) := ((R2.cell (p := ⟨b, off + k * 2, none⟩) hbl).trans (hb2.cell (p := ⟨b, off + k * 2, none⟩) hbl).symm).trans f1
        have f2' : w2.cell? ⟨b, off + k * 2 + 1, none⟩ = some (.int .i64 q) := ((R2.cell (p := ⟨b, off + k * 2 + 1, none⟩) hbl).trans (hb2.cell (p := ⟨b, off + k * 2 + 1, none⟩) hbl).symm).trans f2
        by_cases hneg : nq2 < 0
        · have hd2 : decide (nq2 < 0) = true := by simp; omega
          have HE2 := Lib.hid (show out ++ [(lo, pp)] = res by
            have := HE.out
            have hk2 := HLAST.out hneg
            rw [show m = m.take (k + 1) by rw [hk2, List.take_length], HT2.out, not_neg hneg, List.append_nil] at this
            exact this)
          go_wp2_with (go_at_call 34; refine (HNX.out _).mono ?_; rintro e w' ⟨rfl, rfl⟩)
          go_ret
          exact ⟨_, rfl, by rw [← HE2.out]; exact R1.out.less hb.size, bel_trans hb R2⟩
        · have hd2 : decide (nq2 < 0) = false := by simp; omega
          go_wp2_with (go_at_call 34; refine (HNX.out _).mono ?_; rintro e w' ⟨rfl, rfl⟩)
          go_roundw
          case rel => exact ⟨k + 1, _, _, by omega, by go_num, rfl, by omega, HT2.out, R1.out, R2⟩
          case measure => simp [intOf]; omega
      · have hd : decide (lo < p) = false := by simp; omega
        have HT2 := Lib.hid (show sts (m.take (k + 1)) = (out, nx q) by rw [HT.out]; unfold st; simp [hlt])
        generalize nx q = nq2 at *
        generalize pv p = pp at *
        by_cases hneg : nq2 < 0
        · have hd2 : decide (nq2 < 0) = true := by simp; omega
          have HE2 := Lib.hid (show out = res by
            have := HE.out
            have hk2 := HLAST.out hneg
            rw [show m = m.take (k + 1) by rw [hk2, List.take_length], HT2.out, not_neg hneg, List.append_nil] at this
            exact this)
          go_wp2_with (go_at_call 34; refine (HNX.out _).mono ?_; rintro e w' ⟨rfl, rfl⟩)
          go_ret
          exact ⟨_, rfl, by rw [← HE2.out]; exact HO.out.less hb.size, bel_trans hb hb2⟩
        · have hd2 : decide (nq2 < 0) = false := by simp; omega
          go_wp2_with (go_at_call 34; refine (HNX.out _).mono ?_; rintro e w' ⟨rfl, rfl⟩)
          go_roundw
          case rel => exact ⟨k + 1, _, _, by omega, by go_num, rfl, by omega, HT2.out, HO.out, hb2⟩
          case measure => simp [intOf]; omega
    · have hk1 : decide (k < k0) = false := by simp; omega
      obtain rfl : k = k0 := by omega
      have HE3 := Lib.hid (show out ++ [(lo, 1114367)] = res by have := HE.out; rw [show m = m.take k by rw [← HN.out, List.take_length], HS.out, not_pos hlo] at this; exact this)
      have hsz := Lib.hid hb2.size
      go_wp2_with (at_builtin; refine wpList_append_own _ rfl _ _ 22 rfl w1.heap.size 32 i0 (.agg #[.int .i64 0, .int .i64 0]) 2 16 Try.underlying22 hi hz0 hz1 hz2 rfl (by omega) _ _ _ rfl (HO.out.alloc _) ⟨wr.heap.size, 0, none⟩ 1 1 [.int .i64 lo, .int .i64 1114367] rfl rfl (two_cells _ _ _ _) (ones2 _ _) ?c3 ?c4 ?c5 ?_)
      case c3 => have := hol.out; unfold maxLen; omega
      case c4 => have := hol.out; omega
      case c5 => have := hsz.out; simp; omega
      intro v' w2 hown' hgrow _
      have R := push_rel hb2 (Below.refl _ wr) HO.out hown' hgrow
      clear hown' hgrow
      have R1 := Lib.hid R.1; have R2 := R.2
      clear R
      go_wp2
      go_ret
      exact ⟨_, rfl, by rw [← HE3.out]; exact R1.out.less hb.size, bel_trans hb R2⟩
end Go.Proofs.Ytfjcljhodnkieaa
