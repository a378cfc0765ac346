/-
  GapMoves answers true at every slice of edits and every slice of ints.
-/
import Derived.Test.YtjciadimeejmjaaPlays
namespace Go.Proofs.Ytjciadimeejmjaa
open Go.RowKit ObGap

/-- A slice of ints, nil let in, in a block below B. -/
def Cells (w : World) (B : Nat) (A : Option Addr) (n : Nat) (f : Nat → Int) : Prop := 0 < n → ∃ b off, A = some ⟨b, off, none⟩ ∧ b < B ∧ ∀ j, j < n → w.cell? ⟨b, off + j, none⟩ = some (.int .i64 (f j))
theorem Cells.below {w w' : World} {B : Nat} {A : Option Addr} {n : Nat} {f : Nat → Int} (h : Cells w B A n f) (hb : Below B w w') : Cells w' B A n f := fun hn => by
  obtain ⟨b, off, e, h1, hc⟩ := h hn
  exact ⟨b, off, e, h1, fun j hj => (hb.cell h1).trans (hc j hj)⟩
/-- Two chunks with one text. -/
def MvRel (w : World) (a ga b gb lo : Nat) (A : Option Addr) (l : List Ed) (wr : World) : Prop :=
  (∃ s p q, Chk wr a ga 64 s p ∧ Chk wr b gb 64 s q) ∧ EdsIn wr lo A l ∧ Below w.heap.size w wr
/-- Where the blocks lie. -/
def Lie (w : World) (a ga b gb lo : Nat) : Prop := a ≠ b ∧ a ≠ gb ∧ ga ≠ b ∧ ga ≠ gb ∧ a < lo ∧ ga < lo ∧ b < lo ∧ gb < lo ∧ w.heap.size ≤ a ∧ w.heap.size ≤ ga ∧ w.heap.size ≤ b ∧ w.heap.size ≤ gb
theorem EdsIn.past {w w' : World} {lo c g : Nat} {A : Option Addr} {l : List Ed} (h : EdsIn w lo A l) (hx : Ex c g w w') (hc : c < lo) (hg : g < lo) : EdsIn w' lo A l := h.keep hx.size (fun k hk hl => hx.block k hk (by omega) (by omega))
theorem EdsIn.less {w : World} {lo : Nat} {A : Option Addr} {l : List Ed} (h : EdsIn w lo A l) : l ≠ [] → lo < w.heap.size := fun hn => by
  obtain ⟨b, off, _, h1, h2, _⟩ := h hn; omega
theorem Chk.drew {w : World} {c g mx : Nat} {s : Bs} {p : Nat} (h : Chk w c g mx s p) : Chk w.drew c g mx s p := h
set_option maxHeartbeats 4000000 in
set_option maxRecDepth 100000 in
theorem moves_walk (A0 A1 : Option Addr) (l0 : List Ed) (cap0 n1 cap1 : Nat) (f : Nat → Int) (w : World) (hE0 : Eds w w.heap.size A0 l0) (hM : Cells w w.heap.size A1 n1 f) : Calls Try.prog 4 #[.slice A0 l0.length cap0, .slice A1 n1 cap1] w fun e w' => e = .returned (.bool true) ∧ Below w.heap.size w w' := by
  have HE0 := Lib.hid hE0
  have HM := Lib.hid hM
  clear hE0 hM
  go_enter Try.func4, Try.ntmps4
  go_wp2_with fail
  refine (new_chk 64 _ (by omega) (by omega)).mono ?_
  rintro e w1 ⟨rfl, hc1, hb1⟩
  have C1 := Lib.hid hc1
  have B1 := Lib.hid hb1
  clear hc1 hb1
  go_wp2_with fail
  refine (new_chk 64 _ (by omega) (by omega)).mono ?_
  rintro e w2 ⟨rfl, hc2, hb2⟩
  have D2 := Lib.hid hc2
  have C2 := Lib.hid (C1.out.on hb2)
  have B2 := Lib.hid (bel_trans B1.out hb2)
  have LL := Lib.hid (show w.heap.size + 1 < w1.heap.size from C1.out.lt.1)
  have LM := Lib.hid (show w1.heap.size + 1 < w2.heap.size from hc2.lt.1)
  clear hc2 hb2 C1 B1
  go_wp2_with fail
  refine (edits_any A0 l0 cap0 60 70 w2 (HE0.out.on B2.out) (by omega)).mono ?_
  rintro e w4 ⟨v, rfl, hO, hb4⟩
  have hlen := eds_len l0 60 70
  generalize eds l0 60 70 = l at hO hlen
  obtain ⟨A, cap, rfl, hE⟩ := hO.edsIn
  have C4 := Lib.hid (C2.out.on hb4)
  have D4 := Lib.hid (D2.out.on hb4)
  have E4 := Lib.hid hE
  have B4 := Lib.hid (bel_trans B2.out hb4)
  have LIE := Lib.hid (show Lie w (w.heap.size + 1) w.heap.size (w1.heap.size + 1) w1.heap.size w2.heap.size by have h1 := LL.out; have h2 := LM.out; unfold Lie; omega)
  clear hO hb4 hE C2 D2 B2 LL LM HE0
  generalize w2.heap.size = lo at *
  generalize hca : w.heap.size + 1 = ca at *
  generalize hga : w.heap.size = ga at C4
  have HGA := Lib.hid hga
  generalize hcb : w1.heap.size + 1 = cb at *
  generalize w1.heap.size = gb at *
  clear hca hga hcb
  go_wp2_with fail
  go_loopw [9] (fun t wr => ∃ k : Nat, k ≤ l.length ∧ t = .int .i64 k ∧ MvRel w ca ga cb gb lo A l wr) (fun t _ => l.length - (intOf t).toNat)
  case atStart => exact ⟨0, by omega, rfl, ⟨[], 0, 0, C4.out, D4.out⟩, E4.out, B4.out⟩
  case round =>
    clear C4 D4 E4 B4
    obtain ⟨k, hk, rfl, ⟨s, p, q, hc, hd⟩, hE, hb⟩ := hrel
    have HC := Lib.hid hc
    have HD := Lib.hid hd
    have HE := Lib.hid hE
    have HB := Lib.hid hb
    clear hc hd hE
    rw [HGA.out] at LIE
    by_cases hkn : k < l.length
    · have i1 : (k : Int) < (l.length : Int) := by omega
      have i2 : decide (k < l.length) = true := by simp [hkn]
      obtain ⟨b, off, rfl, hlo, hbl, hA⟩ := HE.out.at_ hkn
      generalize l[k] = x at hA
      obtain ⟨xk, xa, xn, xs⟩ := x
      obtain ⟨e0, e1, e2, e3⟩ := hA
      simp only at e0 e1 e2 e3
      have HLO := Lib.hid (show lo < wr.heap.size by omega)
      have HX := Lib.hid (boxed wr xk xa xn xs)
      have HY := Lib.hid (alloc_below wr (.cells #[.int .i64 xk, .int .i64 xa, .int .i64 xn, str xs] 34))
      have HLT := Lib.hid (show wr.heap.size < (wr.alloc (.cells #[.int .i64 xk, .int .i64 xa, .int .i64 xn, str xs] 34)).heap.size by simp)
      obtain ⟨wb, hwb⟩ : ∃ W, W = wr.alloc (.cells #[.int .i64 xk, .int .i64 xa, .int .i64 xn, str xs] 34) := ⟨_, rfl⟩
      rw [← hwb] at HX HY HLT
      have HWB := Lib.hid hwb
      have CB := Lib.hid (HC.out.on HY.out)
      have DB := Lib.hid (HD.out.on HY.out)
      have EB := Lib.hid (HE.out.on HY.out)
      have BB := Lib.hid (bel_trans HB.out HY.out)
      have HK := Lib.hid (within_any xk 2 (by omega) (by omega))
      have hk2 := wi_in xk 2 (by omega)
      have jI : (insE 64 s xa xs != insE 64 s xa xs) = false := by simp
      have jD : (delE s xa xn != delE s xa xn) = false := by simp
      clear hwb HC HD HE hlo hbl
      generalize wi xk 2 = kk at HK hk2
      by_cases hkm : k < n1
      · have i3 : decide (k < n1) = true := by simp [hkm]
        have i4 : (k : Int) < (n1 : Int) := by omega
        obtain ⟨bm, offm, rfl, hbm, hcm⟩ := (HM.out.below BB.out) (by omega)
        have m1 := hcm k hkm
        generalize f k = mv at m1
        have HW := Lib.hid (within_any mv 70 (by omega) (by omega))
        generalize wi mv 70 = mw at HW
        clear hcm hkm
        rcases (show kk = 0 ∨ kk = 1 by omega) with rfl | rfl
        · have m2 : (wr.alloc (.cells #[.int .i64 xk, .int .i64 xa, .int .i64 xn, str xs] 34)).cell? ⟨bm, offm + k, none⟩ = some (.int .i64 mv) := by rw [← HWB.out]; exact m1
          go_wp2_with fail
          rw [← HWB.out]
          clear m1 m2
          refine (HW.out _).mono ?_
          rintro e w5 ⟨rfl, rfl⟩
          go_wp2_with fail
          refine (move_chk DB.out mw).mono ?_
          rintro e w5 ⟨rfl, hd5, hx5⟩
          have D5 := Lib.hid hd5
          have C5 := Lib.hid (CB.out.past hx5 LIE.out.1 LIE.out.2.1 LIE.out.2.2.1 LIE.out.2.2.2.1)
          have E5 := Lib.hid (EB.out.past hx5 LIE.out.2.2.2.2.2.2.1 LIE.out.2.2.2.2.2.2.2.1)
          have X5 := Lib.hid (HX.out.ex hx5 HLT.out (by have := LIE.out; unfold Lie at this; have := HLO.out; omega) (by have := LIE.out; unfold Lie at this; have := HLO.out; omega))
          have B5 := Lib.hid (Ex.belowNew BB.out (Nat.le_refl _) hx5 LIE.out.2.2.2.2.2.2.2.2.2.2.1 LIE.out.2.2.2.2.2.2.2.2.2.2.2)
          have L5 := Lib.hid (Nat.lt_of_lt_of_le HLT.out hx5.size)
          clear hd5 hx5
          obtain ⟨b0, b1, b2, b3⟩ := X5.out
          simp only [Nat.zero_add] at b0 b1 b2 b3
          go_wp2_with fail
          refine (HK.out _).mono ?_
          rintro e w6 ⟨rfl, rfl⟩
          go_wp2_with fail
          have HNE := Lib.hid (show wr.heap.size ≠ ca ∧ wr.heap.size ≠ ga ∧ wr.heap.size ≠ cb ∧ wr.heap.size ≠ gb by have := LIE.out; unfold Lie at this; have := HLO.out; omega)
          go_region_held3 (fun V => V.cell? ⟨wr.heap.size, 0, none⟩ = some (.int .i64 xk) ∧ V.cell? ⟨wr.heap.size, 1, none⟩ = some (.int .i64 xa) ∧ V.cell? ⟨wr.heap.size, 2, none⟩ = some (.int .i64 xn) ∧ V.cell? ⟨wr.heap.size, 3, none⟩ = some (str xs)) (first | exact X5.out | exact X5.out.drew.ex hx6 L5.out HNE.out.1 HNE.out.2.1 | exact (X5.out.drew.ex hx6 L5.out HNE.out.1 HNE.out.2.1).ex hx7 (Nat.lt_of_lt_of_le L5.out hx6.size) HNE.out.2.2.1 HNE.out.2.2.2) (first
            | (go_at_call 17; refine (insert_chk (Chk.past (w := w5.drew) D5.out hx6 (Ne.symm LIE.out.1) (Ne.symm LIE.out.2.2.1) (Ne.symm LIE.out.2.1) (Ne.symm LIE.out.2.2.2.1)) xa xs).mono ?_; rintro e w7 ⟨rfl, hc7, hx7⟩)
            | (go_at_call 17; refine (insert_chk (w := w5.drew) C5.out xa xs).mono ?_; rintro e w6 ⟨rfl, hc6, hx6⟩))
          all_goals (
            have D7 := Lib.hid hc7
            have C7 := Lib.hid (Chk.past hc6 hx7 LIE.out.1 LIE.out.2.1 LIE.out.2.2.1 LIE.out.2.2.2.1)
            have E7 := Lib.hid ((EdsIn.past (w := w5.drew) E5.out hx6 LIE.out.2.2.2.2.1 LIE.out.2.2.2.2.2.1).past hx7 LIE.out.2.2.2.2.2.2.1 LIE.out.2.2.2.2.2.2.2.1)
            have B7 := Lib.hid (Ex.belowNew (Ex.belowNew (B5.out.drew : Below _ _ w5.drew) (Nat.le_refl _) hx6 LIE.out.2.2.2.2.2.2.2.2.1 LIE.out.2.2.2.2.2.2.2.2.2.1) (Nat.le_refl _) hx7 LIE.out.2.2.2.2.2.2.2.2.2.2.1 LIE.out.2.2.2.2.2.2.2.2.2.2.2)
            clear hc6 hx6 hc7 hx7 b0 b1 b2 b3
            go_wp2_with fail
            refine (text_chk C7.out).mono ?_
            rintro e w8 ⟨rfl, hb8⟩
            have C8 := Lib.hid (C7.out.on hb8)
            have D8 := Lib.hid (D7.out.on hb8)
            have E8 := Lib.hid (E7.out.on hb8)
            have B8 := Lib.hid (below_on B7.out (Nat.le_refl _) hb8)
            clear hb8
            go_wp2_with fail
            refine (text_chk D8.out).mono ?_
            rintro e w9 ⟨rfl, hb9⟩
            have C9 := Lib.hid (C8.out.on hb9)
            have D9 := Lib.hid (D8.out.on hb9)
            have E9 := Lib.hid (E8.out.on hb9)
            have B9 := Lib.hid (below_on B8.out (Nat.le_refl _) hb9)
            clear hb9
            go_wp2_with fail
            go_roundw
            case rel => exact ⟨k + 1, by omega, by go_num, ⟨_, _, _, C9.out, D9.out⟩, E9.out, B9.out⟩
            case measure => simp [intOf]; omega)
        · have m2 : (wr.alloc (.cells #[.int .i64 xk, .int .i64 xa, .int .i64 xn, str xs] 34)).cell? ⟨bm, offm + k, none⟩ = some (.int .i64 mv) := by rw [← HWB.out]; exact m1
          go_wp2_with fail
          rw [← HWB.out]
          clear m1 m2
          refine (HW.out _).mono ?_
          rintro e w5 ⟨rfl, rfl⟩
          go_wp2_with fail
          refine (move_chk DB.out mw).mono ?_
          rintro e w5 ⟨rfl, hd5, hx5⟩
          have D5 := Lib.hid hd5
          have C5 := Lib.hid (CB.out.past hx5 LIE.out.1 LIE.out.2.1 LIE.out.2.2.1 LIE.out.2.2.2.1)
          have E5 := Lib.hid (EB.out.past hx5 LIE.out.2.2.2.2.2.2.1 LIE.out.2.2.2.2.2.2.2.1)
          have X5 := Lib.hid (HX.out.ex hx5 HLT.out (by have := LIE.out; unfold Lie at this; have := HLO.out; omega) (by have := LIE.out; unfold Lie at this; have := HLO.out; omega))
          have B5 := Lib.hid (Ex.belowNew BB.out (Nat.le_refl _) hx5 LIE.out.2.2.2.2.2.2.2.2.2.2.1 LIE.out.2.2.2.2.2.2.2.2.2.2.2)
          have L5 := Lib.hid (Nat.lt_of_lt_of_le HLT.out hx5.size)
          clear hd5 hx5
          obtain ⟨b0, b1, b2, b3⟩ := X5.out
          simp only [Nat.zero_add] at b0 b1 b2 b3
          go_wp2_with fail
          refine (HK.out _).mono ?_
          rintro e w6 ⟨rfl, rfl⟩
          go_wp2_with fail
          have HNE := Lib.hid (show wr.heap.size ≠ ca ∧ wr.heap.size ≠ ga ∧ wr.heap.size ≠ cb ∧ wr.heap.size ≠ gb by have := LIE.out; unfold Lie at this; have := HLO.out; omega)
          go_region_held3 (fun V => V.cell? ⟨wr.heap.size, 0, none⟩ = some (.int .i64 xk) ∧ V.cell? ⟨wr.heap.size, 1, none⟩ = some (.int .i64 xa) ∧ V.cell? ⟨wr.heap.size, 2, none⟩ = some (.int .i64 xn) ∧ V.cell? ⟨wr.heap.size, 3, none⟩ = some (str xs)) (first | exact X5.out | exact X5.out.drew.ex hx6 L5.out HNE.out.1 HNE.out.2.1 | exact (X5.out.drew.ex hx6 L5.out HNE.out.1 HNE.out.2.1).ex hx7 (Nat.lt_of_lt_of_le L5.out hx6.size) HNE.out.2.2.1 HNE.out.2.2.2) (first
            | (go_at_call 18; refine (delete_chk (Chk.past (w := w5.drew) D5.out hx6 (Ne.symm LIE.out.1) (Ne.symm LIE.out.2.2.1) (Ne.symm LIE.out.2.1) (Ne.symm LIE.out.2.2.2.1)) xa xn).mono ?_; rintro e w7 ⟨rfl, hc7, hx7⟩)
            | (go_at_call 18; refine (delete_chk (w := w5.drew) C5.out xa xn).mono ?_; rintro e w6 ⟨rfl, hc6, hx6⟩))
          all_goals (
            have D7 := Lib.hid hc7
            have C7 := Lib.hid (Chk.past hc6 hx7 LIE.out.1 LIE.out.2.1 LIE.out.2.2.1 LIE.out.2.2.2.1)
            have E7 := Lib.hid ((EdsIn.past (w := w5.drew) E5.out hx6 LIE.out.2.2.2.2.1 LIE.out.2.2.2.2.2.1).past hx7 LIE.out.2.2.2.2.2.2.1 LIE.out.2.2.2.2.2.2.2.1)
            have B7 := Lib.hid (Ex.belowNew (Ex.belowNew (B5.out.drew : Below _ _ w5.drew) (Nat.le_refl _) hx6 LIE.out.2.2.2.2.2.2.2.2.1 LIE.out.2.2.2.2.2.2.2.2.2.1) (Nat.le_refl _) hx7 LIE.out.2.2.2.2.2.2.2.2.2.2.1 LIE.out.2.2.2.2.2.2.2.2.2.2.2)
            clear hc6 hx6 hc7 hx7 b0 b1 b2 b3
            go_wp2_with fail
            refine (text_chk C7.out).mono ?_
            rintro e w8 ⟨rfl, hb8⟩
            have C8 := Lib.hid (C7.out.on hb8)
            have D8 := Lib.hid (D7.out.on hb8)
            have E8 := Lib.hid (E7.out.on hb8)
            have B8 := Lib.hid (below_on B7.out (Nat.le_refl _) hb8)
            clear hb8
            go_wp2_with fail
            refine (text_chk D8.out).mono ?_
            rintro e w9 ⟨rfl, hb9⟩
            have C9 := Lib.hid (C8.out.on hb9)
            have D9 := Lib.hid (D8.out.on hb9)
            have E9 := Lib.hid (E8.out.on hb9)
            have B9 := Lib.hid (below_on B8.out (Nat.le_refl _) hb9)
            clear hb9
            go_wp2_with fail
            go_roundw
            case rel => exact ⟨k + 1, by omega, by go_num, ⟨_, _, _, C9.out, D9.out⟩, E9.out, B9.out⟩
            case measure => simp [intOf]; omega)
      · have i3 : decide (k < n1) = false := by simp; omega
        clear hkm
        rcases (show kk = 0 ∨ kk = 1 by omega) with rfl | rfl
        · go_wp2_with fail
          rw [← HWB.out]
          obtain ⟨w5, hw5⟩ : ∃ W, W = wb := ⟨_, rfl⟩
          rw [← hw5]
          rw [← hw5] at DB CB EB HX BB HLT
          have D5 := DB
          have C5 := CB
          have E5 := EB
          have X5 := HX
          have B5 := BB
          have L5 := HLT
          clear hw5
          obtain ⟨b0, b1, b2, b3⟩ := X5.out
          simp only [Nat.zero_add] at b0 b1 b2 b3
          go_wp2_with fail
          refine (HK.out _).mono ?_
          rintro e w6 ⟨rfl, rfl⟩
          go_wp2_with fail
          have HNE := Lib.hid (show wr.heap.size ≠ ca ∧ wr.heap.size ≠ ga ∧ wr.heap.size ≠ cb ∧ wr.heap.size ≠ gb by have := LIE.out; unfold Lie at this; have := HLO.out; omega)
          go_region_held3 (fun V => V.cell? ⟨wr.heap.size, 0, none⟩ = some (.int .i64 xk) ∧ V.cell? ⟨wr.heap.size, 1, none⟩ = some (.int .i64 xa) ∧ V.cell? ⟨wr.heap.size, 2, none⟩ = some (.int .i64 xn) ∧ V.cell? ⟨wr.heap.size, 3, none⟩ = some (str xs)) (first | exact X5.out | exact X5.out.drew.ex hx6 L5.out HNE.out.1 HNE.out.2.1 | exact (X5.out.drew.ex hx6 L5.out HNE.out.1 HNE.out.2.1).ex hx7 (Nat.lt_of_lt_of_le L5.out hx6.size) HNE.out.2.2.1 HNE.out.2.2.2) (first
            | (go_at_call 17; refine (insert_chk (Chk.past (w := w5.drew) D5.out hx6 (Ne.symm LIE.out.1) (Ne.symm LIE.out.2.2.1) (Ne.symm LIE.out.2.1) (Ne.symm LIE.out.2.2.2.1)) xa xs).mono ?_; rintro e w7 ⟨rfl, hc7, hx7⟩)
            | (go_at_call 17; refine (insert_chk (w := w5.drew) C5.out xa xs).mono ?_; rintro e w6 ⟨rfl, hc6, hx6⟩))
          all_goals (
            have D7 := Lib.hid hc7
            have C7 := Lib.hid (Chk.past hc6 hx7 LIE.out.1 LIE.out.2.1 LIE.out.2.2.1 LIE.out.2.2.2.1)
            have E7 := Lib.hid ((EdsIn.past (w := w5.drew) E5.out hx6 LIE.out.2.2.2.2.1 LIE.out.2.2.2.2.2.1).past hx7 LIE.out.2.2.2.2.2.2.1 LIE.out.2.2.2.2.2.2.2.1)
            have B7 := Lib.hid (Ex.belowNew (Ex.belowNew (B5.out.drew : Below _ _ w5.drew) (Nat.le_refl _) hx6 LIE.out.2.2.2.2.2.2.2.2.1 LIE.out.2.2.2.2.2.2.2.2.2.1) (Nat.le_refl _) hx7 LIE.out.2.2.2.2.2.2.2.2.2.2.1 LIE.out.2.2.2.2.2.2.2.2.2.2.2)
            clear hc6 hx6 hc7 hx7 b0 b1 b2 b3
            go_wp2_with fail
            refine (text_chk C7.out).mono ?_
            rintro e w8 ⟨rfl, hb8⟩
            have C8 := Lib.hid (C7.out.on hb8)
            have D8 := Lib.hid (D7.out.on hb8)
            have E8 := Lib.hid (E7.out.on hb8)
            have B8 := Lib.hid (below_on B7.out (Nat.le_refl _) hb8)
            clear hb8
            go_wp2_with fail
            refine (text_chk D8.out).mono ?_
            rintro e w9 ⟨rfl, hb9⟩
            have C9 := Lib.hid (C8.out.on hb9)
            have D9 := Lib.hid (D8.out.on hb9)
            have E9 := Lib.hid (E8.out.on hb9)
            have B9 := Lib.hid (below_on B8.out (Nat.le_refl _) hb9)
            clear hb9
            go_wp2_with fail
            go_roundw
            case rel => exact ⟨k + 1, by omega, by go_num, ⟨_, _, _, C9.out, D9.out⟩, E9.out, B9.out⟩
            case measure => simp [intOf]; omega)
        · go_wp2_with fail
          rw [← HWB.out]
          obtain ⟨w5, hw5⟩ : ∃ W, W = wb := ⟨_, rfl⟩
          rw [← hw5]
          rw [← hw5] at DB CB EB HX BB HLT
          have D5 := DB
          have C5 := CB
          have E5 := EB
          have X5 := HX
          have B5 := BB
          have L5 := HLT
          clear hw5
          obtain ⟨b0, b1, b2, b3⟩ := X5.out
          simp only [Nat.zero_add] at b0 b1 b2 b3
          go_wp2_with fail
          refine (HK.out _).mono ?_
          rintro e w6 ⟨rfl, rfl⟩
          go_wp2_with fail
          have HNE := Lib.hid (show wr.heap.size ≠ ca ∧ wr.heap.size ≠ ga ∧ wr.heap.size ≠ cb ∧ wr.heap.size ≠ gb by have := LIE.out; unfold Lie at this; have := HLO.out; omega)
          go_region_held3 (fun V => V.cell? ⟨wr.heap.size, 0, none⟩ = some (.int .i64 xk) ∧ V.cell? ⟨wr.heap.size, 1, none⟩ = some (.int .i64 xa) ∧ V.cell? ⟨wr.heap.size, 2, none⟩ = some (.int .i64 xn) ∧ V.cell? ⟨wr.heap.size, 3, none⟩ = some (str xs)) (first | exact X5.out | exact X5.out.drew.ex hx6 L5.out HNE.out.1 HNE.out.2.1 | exact (X5.out.drew.ex hx6 L5.out HNE.out.1 HNE.out.2.1).ex hx7 (Nat.lt_of_lt_of_le L5.out hx6.size) HNE.out.2.2.1 HNE.out.2.2.2) (first
            | (go_at_call 18; refine (delete_chk (Chk.past (w := w5.drew) D5.out hx6 (Ne.symm LIE.out.1) (Ne.symm LIE.out.2.2.1) (Ne.symm LIE.out.2.1) (Ne.symm LIE.out.2.2.2.1)) xa xn).mono ?_; rintro e w7 ⟨rfl, hc7, hx7⟩)
            | (go_at_call 18; refine (delete_chk (w := w5.drew) C5.out xa xn).mono ?_; rintro e w6 ⟨rfl, hc6, hx6⟩))
          all_goals (
            have D7 := Lib.hid hc7
            have C7 := Lib.hid (Chk.past hc6 hx7 LIE.out.1 LIE.out.2.1 LIE.out.2.2.1 LIE.out.2.2.2.1)
            have E7 := Lib.hid ((EdsIn.past (w := w5.drew) E5.out hx6 LIE.out.2.2.2.2.1 LIE.out.2.2.2.2.2.1).past hx7 LIE.out.2.2.2.2.2.2.1 LIE.out.2.2.2.2.2.2.2.1)
            have B7 := Lib.hid (Ex.belowNew (Ex.belowNew (B5.out.drew : Below _ _ w5.drew) (Nat.le_refl _) hx6 LIE.out.2.2.2.2.2.2.2.2.1 LIE.out.2.2.2.2.2.2.2.2.2.1) (Nat.le_refl _) hx7 LIE.out.2.2.2.2.2.2.2.2.2.2.1 LIE.out.2.2.2.2.2.2.2.2.2.2.2)
            clear hc6 hx6 hc7 hx7 b0 b1 b2 b3
            go_wp2_with fail
            refine (text_chk C7.out).mono ?_
            rintro e w8 ⟨rfl, hb8⟩
            have C8 := Lib.hid (C7.out.on hb8)
            have D8 := Lib.hid (D7.out.on hb8)
            have E8 := Lib.hid (E7.out.on hb8)
            have B8 := Lib.hid (below_on B7.out (Nat.le_refl _) hb8)
            clear hb8
            go_wp2_with fail
            refine (text_chk D8.out).mono ?_
            rintro e w9 ⟨rfl, hb9⟩
            have C9 := Lib.hid (C8.out.on hb9)
            have D9 := Lib.hid (D8.out.on hb9)
            have E9 := Lib.hid (E8.out.on hb9)
            have B9 := Lib.hid (below_on B8.out (Nat.le_refl _) hb9)
            clear hb9
            go_wp2_with fail
            go_roundw
            case rel => exact ⟨k + 1, by omega, by go_num, ⟨_, _, _, C9.out, D9.out⟩, E9.out, B9.out⟩
            case measure => simp [intOf]; omega)
    · have i2 : decide (k < l.length) = false := by simp; omega
      go_wp2_with fail
      refine (wakes_any _).mono ?_
      rintro e w6 ⟨rfl, hb6⟩
      go_wp2_with fail
      go_ret
      exact ⟨rfl, below_on HB.out (Nat.le_refl _) hb6⟩
end Go.Proofs.Ytjciadimeejmjaa
