/-
  GapClones answers true at every two slices of edits.
-/
import Derived.Test.YtjciadimeejmjaaPlays
import Derived.LaidEqlPtr
namespace Go.Proofs.Ytjciadimeejmjaa
open Go.RowKit ObGap

/-- A slice of edits in a block from lo on, below hi. -/
def EdsR (w : World) (lo hi : Nat) (A : Option Addr) (l : List Ed) : Prop :=
  l ≠ [] → ∃ b off, A = some ⟨b, off, none⟩ ∧ lo ≤ b ∧ b < hi ∧ b < w.heap.size ∧ ∀ j x, l[j]? = some x → EdAt w b (off + j * 4) x
theorem EdsIn.range {w : World} {lo : Nat} {A : Option Addr} {l : List Ed} (h : EdsIn w lo A l) : EdsR w lo w.heap.size A l := fun hn => by
  obtain ⟨b, off, e, h1, h2, hc⟩ := h hn
  exact ⟨b, off, e, h1, h2, h2, hc⟩
theorem EdsR.keep {w w' : World} {lo hi : Nat} {A : Option Addr} {l : List Ed} (h : EdsR w lo hi A l) (hs : w.heap.size ≤ w'.heap.size) (hk : ∀ k, k < w.heap.size → lo ≤ k → k < hi → w'.heap[k]? = w.heap[k]?) : EdsR w' lo hi A l := fun hn => by
  obtain ⟨b, off, e, h1, h2, h3, hc⟩ := h hn
  exact ⟨b, off, e, h1, h2, by omega, fun j x hj => (hc j x hj).keep (hk b h3 h1 h2)⟩
theorem EdsR.on {w w' : World} {lo hi : Nat} {A : Option Addr} {l : List Ed} (h : EdsR w lo hi A l) (hb : Below w.heap.size w w') : EdsR w' lo hi A l := h.keep hb.size (fun k hk _ _ => hb.block k hk)
theorem EdsR.past3 {w w' : World} {lo hi c g t : Nat} {A : Option Addr} {l : List Ed} (h : EdsR w lo hi A l) (hx : Ex3 c g t w w') (hc : c < lo ∨ hi ≤ c) (hg : g < lo ∨ hi ≤ g) (ht : t < lo ∨ hi ≤ t) : EdsR w' lo hi A l := h.keep hx.size (fun k hk h1 h2 => hx.block k hk (by omega) (by omega) (by omega))
theorem EdsR.at_ {w : World} {lo hi : Nat} {A : Option Addr} {l : List Ed} (h : EdsR w lo hi A l) {k : Nat} (hk : k < l.length) :
    ∃ b off, A = some ⟨b, off, none⟩ ∧ lo ≤ b ∧ b < hi ∧ b < w.heap.size ∧ EdAt w b (off + k * 4) l[k] := by
  obtain ⟨b, off, e, h1, h2, h3, hc⟩ := h (fun e => by rw [e] at hk; simp at hk)
  exact ⟨b, off, e, h1, h2, h3, hc k _ (List.getElem?_eq_getElem hk)⟩
theorem Chk.past3 {w w' : World} {c g a b d mx : Nat} {s : Bs} {p : Nat} (h : Chk w c g mx s p) (hx : Ex3 a b d w w') (h1 : c ≠ a ∧ c ≠ b ∧ c ≠ d) (h2 : g ≠ a ∧ g ≠ b ∧ g ≠ d) : Chk w' c g mx s p := by
  obtain ⟨L, K, r, h, e⟩ := h; exact ⟨L, K, r, h.keep (hx.block _ h.lt.1 h1.1 h1.2.1 h1.2.2) (hx.block _ h.lt.2 h2.1 h2.2.1 h2.2.2), e⟩
theorem Tx.past3 {w w' : World} {t a b d mx : Nat} {s : Bs} {p : Nat} (h : Tx w t mx s p) (hx : Ex3 a b d w w') (h1 : t ≠ a ∧ t ≠ b ∧ t ≠ d) : Tx w' t mx s p := ⟨(hx.block _ h.lt h1.1 h1.2.1 h1.2.2).trans h.1, h.2⟩
theorem tx_copy (w : World) (n : Nat) (s : Bs) (p : Nat) (hs : s.length ≤ n) (h : n ≤ 4096) : Tx (w.alloc (.cells #[.int .i64 (n : Int), str s, .int .i64 (p : Int)] 30)) w.heap.size n s p := ⟨heap_new _ _, hs, h⟩
theorem ptr_other {w : World} {c g d g2 mx mx2 : Nat} {s s2 : Bs} {p p2 : Nat} (hd : Chk w d g2 mx2 s2 p2) (hc : Chk w c g mx s p) (hne : d ≠ c) : (binOp .eql 24 (ptr d) (ptr c)).run Try.prog w = .ok (.bool false) w := by
  obtain ⟨L, K, r, h, _⟩ := hd
  obtain ⟨L2, K2, r2, h2, _⟩ := hc
  have hi : (Try.prog.info? 56).map (·.size) = some 3 := by kernel_rfl
  cases hq : Try.prog.info? 56 with
  | none => rw [hq] at hi; cases hi
  | some i =>
    rw [hq] at hi
    have hs : i.size = 3 := by simpa using hi
    exact run_eql_ptr_other w (P := Try.prog) (tp := 24) (te := 56) (j := i) (a := ⟨d, 0, none⟩) (b := ⟨c, 0, none⟩) Try.underlying24 hq (by rw [hs]; decide) (fun e => hne (by injection e)) h.1 h2.1
/-- The first loop. -/
def Rel1 (w : World) (c g t lo : Nat) (A A2 : Option Addr) (l m : List Ed) (wr : World) : Prop :=
  (∃ s p, Chk wr c g 50 s p ∧ Tx wr t 50 s p) ∧ EdsIn wr lo A l ∧ EdsIn wr lo A2 m ∧ Below w.heap.size w wr
/-- The second loop. -/
def Rel2 (w : World) (c g t d g2 u lo hi : Nat) (A2 : Option Addr) (m : List Ed) (wr : World) : Prop :=
  (∃ s p s2 p2, Chk wr c g 50 s p ∧ Tx wr t 50 s p ∧ Chk wr d g2 50 s2 p2 ∧ Tx wr u 50 s2 p2) ∧ EdsR wr lo hi A2 m ∧ Below w.heap.size w wr
set_option maxHeartbeats 4000000 in
set_option maxRecDepth 100000 in
theorem clones_walk (A0 A1 : Option Addr) (l0 m0 : List Ed) (cap0 cap1 : Nat) (w : World) (hE0 : Eds w w.heap.size A0 l0) (hE1 : Eds w w.heap.size A1 m0) : Calls Try.prog 5 #[.slice A0 l0.length cap0, .slice A1 m0.length cap1] w fun e w' => e = .returned (.bool true) ∧ Below w.heap.size w w' := by
  have HE0 := Lib.hid hE0
  have HE1 := Lib.hid hE1
  clear hE0 hE1
  go_enter Try.func5, Try.ntmps5
  go_wp2_with fail
  refine (new_chk 50 _ (by omega) (by omega)).mono ?_
  rintro e w1 ⟨rfl, hc1, hb1⟩
  have C1 := Lib.hid hc1
  have B1 := Lib.hid hb1
  clear hc1 hb1
  go_wp2_with fail
  have T2 := Lib.hid (tx_new w1 50 (by omega))
  have Y2 := Lib.hid (alloc_below w1 (.cells #[.int .i64 ((50 : Nat) : Int), str [], .int .i64 0] 30))
  have L2 := Lib.hid (show (w1.alloc (.cells #[.int .i64 ((50 : Nat) : Int), str [], .int .i64 0] 30)).heap.size = w1.heap.size + 1 by simp)
  have LL := Lib.hid (show w.heap.size + 1 < w1.heap.size from C1.out.lt.1)
  obtain ⟨w2, hw2⟩ : ∃ W, W = w1.alloc (.cells #[.int .i64 ((50 : Nat) : Int), str [], .int .i64 0] 30) := ⟨_, rfl⟩
  have hw2' : w1.alloc (.cells #[.int .i64 50, .string ⟨#[]⟩, .int .i64 0] 30) = w2 := hw2.symm
  rw [← hw2] at T2 Y2 L2
  rw [hw2']
  have C2 := Lib.hid (C1.out.on Y2.out)
  have B2 := Lib.hid (bel_trans B1.out Y2.out)
  clear hw2 hw2' C1 B1 Y2
  refine (edits_any A0 l0 cap0 20 60 w2 (HE0.out.on B2.out) (by omega)).mono ?_
  rintro e w3 ⟨v, rfl, hO, hb3⟩
  have hlen := eds_len l0 20 60
  generalize eds l0 20 60 = l at hO hlen
  obtain ⟨A, cap, rfl, hE⟩ := hO.edsIn
  have C3 := Lib.hid (C2.out.on hb3)
  have T3 := Lib.hid (T2.out.on hb3)
  have E3 := Lib.hid hE
  have B3 := Lib.hid (bel_trans B2.out hb3)
  have S3 := Lib.hid hb3.size
  clear hO hb3 hE C2 T2 B2
  go_wp2_with fail
  refine (edits_any A1 m0 cap1 40 60 w3 (HE1.out.on B3.out) (by omega)).mono ?_
  rintro e w4 ⟨v, rfl, hO, hb4⟩
  have hlen2 := eds_len m0 40 60
  generalize eds m0 40 60 = m at hO hlen2
  obtain ⟨A2, cap2, rfl, hE⟩ := hO.edsIn
  have hE' : EdsIn w4 w2.heap.size A2 m := fun hn => by
    obtain ⟨b, off, e, h1, h2⟩ := hE hn
    exact ⟨b, off, e, Nat.le_trans S3.out h1, h2⟩
  have C4 := Lib.hid (C3.out.on hb4)
  have T4 := Lib.hid (T3.out.on hb4)
  have E4 := Lib.hid (E3.out.on hb4)
  have F4 := Lib.hid hE'
  have B4 := Lib.hid (bel_trans B3.out hb4)
  have LIE := Lib.hid (show w.heap.size + 1 < w2.heap.size ∧ w.heap.size < w2.heap.size ∧ w1.heap.size < w2.heap.size ∧ w1.heap.size ≠ w.heap.size + 1 ∧ w1.heap.size ≠ w.heap.size ∧ w.heap.size ≤ w1.heap.size ∧ w.heap.size ≤ w.heap.size + 1 by have h1 := L2.out; have h2 := LL.out; omega)
  clear hO hb4 hE hE' C3 T3 B3 E3 S3 L2 LL HE0 HE1
  generalize w2.heap.size = lo at *
  generalize w1.heap.size = t at *
  go_wp2_with fail
  go_loopw [8] (fun v wr => ∃ k : Nat, k ≤ l.length ∧ v = .int .i64 k ∧ Rel1 w (w.heap.size + 1) w.heap.size t lo A A2 l m wr) (fun v _ => l.length - (intOf v).toNat)
  case atStart => exact ⟨0, by omega, rfl, ⟨[], 0, C4.out, T4.out⟩, E4.out, F4.out, B4.out⟩
  case round =>
    clear C4 T4 E4 F4 B4
    obtain ⟨k, hk, rfl, ⟨s, p, hc, ht⟩, hE, hF, hb⟩ := hrel
    have HC := Lib.hid hc
    have HT := Lib.hid ht
    have HE := Lib.hid hE
    have HF := Lib.hid hF
    have HB := Lib.hid hb
    clear hc ht hE hF hb
    by_cases hkn : k < l.length
    · have i1 : (k : Int) < (l.length : Int) := by omega
      have i2 : decide (k < l.length) = true := by simp [hkn]
      obtain ⟨b, off, rfl, hlo, hbl, hA⟩ := HE.out.at_ hkn
      generalize l[k] = x at hA
      obtain ⟨xk, xa, xn, xs⟩ := x
      obtain ⟨e0, e1, e2, e3⟩ := hA
      simp only at e0 e1 e2 e3
      clear hlo hbl
      go_wp2_with fail
      refine (does_any HC.out HT.out LIE.out.2.2.2.1 LIE.out.2.2.2.2.1 ⟨xk, xa, xn, xs⟩).mono ?_
      rintro e w5 ⟨rfl, ⟨⟨s5, p5, hc5, ht5⟩, hx5⟩⟩
      have C5 := Lib.hid hc5
      have T5 := Lib.hid ht5
      have E5 := Lib.hid (HE.out.past3 hx5 LIE.out.1 LIE.out.2.1 LIE.out.2.2.1)
      have F5 := Lib.hid (HF.out.past3 hx5 LIE.out.1 LIE.out.2.1 LIE.out.2.2.1)
      have B5 := Lib.hid (HB.out.trans (hx5.below HB.out.size LIE.out.2.2.2.2.2.2 (Nat.le_refl _) LIE.out.2.2.2.2.2.1))
      clear hc5 ht5 hx5
      go_wp2_with fail
      go_roundw
      case rel => exact ⟨k + 1, by omega, by go_num, ⟨s5, p5, C5.out, T5.out⟩, E5.out, F5.out, B5.out⟩
      case measure => simp [intOf]; omega
    · have i2 : decide (k < l.length) = false := by simp; omega
      clear hkn HE
      go_wp2_with fail
      refine (clone_chk HC.out).mono ?_
      rintro e w5 ⟨⟨d, g2, rfl, hd5, hd, hg2⟩, hb5⟩
      have C5 := Lib.hid (HC.out.on hb5)
      have T5 := Lib.hid (HT.out.on hb5)
      have F5 := Lib.hid (HF.out.range.on hb5)
      have B5 := Lib.hid (below_on HB.out (Nat.le_refl _) hb5)
      have D5 := Lib.hid hd5
      have LW := Lib.hid (show w.heap.size + 1 < wr.heap.size ∧ w.heap.size < wr.heap.size ∧ t < wr.heap.size ∧ w.heap.size ≤ wr.heap.size from ⟨HC.out.lt.1, HC.out.lt.2, HT.out.lt, HB.out.size⟩)
      have LD := Lib.hid (And.intro hd hg2)
      have LU := Lib.hid (show d < w5.heap.size ∧ g2 < w5.heap.size from hd5.lt)
      have hne : (d = w.heap.size + 1) = False := by simp; have := LW.out; omega
      have hlen5 := hd5.len
      have U6 := Lib.hid (tx_copy w5 50 s p hlen5.1 (by omega))
      have Y6 := Lib.hid (alloc_below w5 (.cells #[.int .i64 ((50 : Nat) : Int), str s, .int .i64 (p : Int)] 30))
      obtain ⟨c0, c1, c2, cf⟩ := T5.out.cells
      have c0 : w5.cell? ⟨t, 0, none⟩ = some (.int .i64 50) := c0
      obtain ⟨w6, hw6⟩ : ∃ W, W = w5.alloc (.cells #[.int .i64 ((50 : Nat) : Int), str s, .int .i64 (p : Int)] 30) := ⟨_, rfl⟩
      have hw6' : w5.alloc (.cells #[.int .i64 50, str s, .int .i64 (p : Int)] 30) = w6 := hw6.symm
      rw [← hw6] at U6 Y6
      have HW6 := Lib.hid hw6'
      have C6 := Lib.hid (C5.out.on Y6.out)
      have T6 := Lib.hid (T5.out.on Y6.out)
      have F6 := Lib.hid (F5.out.on Y6.out)
      have D6 := Lib.hid (D5.out.on Y6.out)
      have B6 := Lib.hid (below_on B5.out (Nat.le_refl _) Y6.out)
      have S5 := Lib.hid hb5.size
      have hpe : (binOp .eql 24 (ptr d) (ptr (w.heap.size + 1))).run Try.prog (w5.alloc (.cells #[.int .i64 50, str s, .int .i64 (p : Int)] 30)) = .ok (.bool false) (w5.alloc (.cells #[.int .i64 50, str s, .int .i64 (p : Int)] 30)) := by
        rw [HW6.out]
        exact ptr_other D6.out C6.out (by have := LW.out; omega)
      clear hw6 hw6' hd5 hd hg2 hb5 HC HT HF HB C5 T5 F5 B5 D5 cf hlen5 Y6
      go_wp2_with fail
      rw [HW6.out]
      refine (same_any D6.out U6.out).mono ?_
      rintro e w7 ⟨rfl, hb7⟩
      have C7 := Lib.hid (C6.out.on hb7)
      have T7 := Lib.hid (T6.out.on hb7)
      have F7 := Lib.hid (F6.out.on hb7)
      have D7 := Lib.hid (D6.out.on hb7)
      have U7 := Lib.hid (U6.out.on hb7)
      have B7 := Lib.hid (below_on B6.out (Nat.le_refl _) hb7)
      have LY := Lib.hid (show w5.heap.size ≠ d ∧ w5.heap.size ≠ g2 ∧ wr.heap.size ≤ w5.heap.size ∧ wr.heap.size ≤ d ∧ wr.heap.size ≤ g2 ∧ w.heap.size + 1 < wr.heap.size ∧ w.heap.size < wr.heap.size ∧ t < wr.heap.size from ⟨by have := LU.out; omega, by have := LU.out; omega, S5.out, LD.out.1, LD.out.2, LW.out.1, LW.out.2.1, LW.out.2.2.1⟩)
      clear hpe hb7 C6 T6 F6 D6 U6 B6 HW6 c0 c1 c2 LU LD LW S5
      generalize wr.heap.size = hi at *
      generalize w5.heap.size = u at *
      go_wp2_with fail
      go_loopw [11] (fun v wq => ∃ j : Nat, j ≤ m.length ∧ v = .int .i64 j ∧ Rel2 w (w.heap.size + 1) w.heap.size t d g2 u lo hi A2 m wq) (fun v _ => m.length - (intOf v).toNat)
      case atStart => exact ⟨0, by omega, rfl, ⟨s, p, s, p, C7.out, T7.out, D7.out, U7.out⟩, F7.out, B7.out⟩
      case round =>
        clear C7 T7 F7 D7 U7 B7
        obtain ⟨j, hj, rfl, ⟨s, p, s2, p2, hc, ht, hd, hu⟩, hF, hb⟩ := hrel
        have HC := Lib.hid hc
        have HT := Lib.hid ht
        have HD := Lib.hid hd
        have HU := Lib.hid hu
        have HF := Lib.hid hF
        have HB := Lib.hid hb
        clear hc ht hd hu hF hb
        by_cases hjn : j < m.length
        · have i3 : (j : Int) < (m.length : Int) := by omega
          have i4 : decide (j < m.length) = true := by simp [hjn]
          obtain ⟨b, off, rfl, hlo, hhi, hbl, hA⟩ := HF.out.at_ hjn
          generalize m[j] = x at hA
          obtain ⟨xk, xa, xn, xs⟩ := x
          obtain ⟨e0, e1, e2, e3⟩ := hA
          simp only at e0 e1 e2 e3
          clear hlo hhi hbl
          by_cases h2 : j % 2 = 0
          · have ht2 : Int.tmod (j : Int) 2 = 0 := by rw [Int.tmod_eq_emod_of_nonneg (by omega)]; omega
            go_wp2_with fail
            refine (does_any HC.out HT.out LIE.out.2.2.2.1 LIE.out.2.2.2.2.1 ⟨xk, xa, xn, xs⟩).mono ?_
            rintro e v5 ⟨rfl, ⟨⟨s5, p5, hc5, ht5⟩, hx5⟩⟩
            have C5 := Lib.hid hc5
            have T5 := Lib.hid ht5
            have D5 := Lib.hid (HD.out.past3 hx5 (by have := LY.out; omega) (by have := LY.out; omega))
            have U5 := Lib.hid (HU.out.past3 hx5 (by have := LY.out; omega))
            have F5 := Lib.hid (HF.out.past3 hx5 (.inl LIE.out.1) (.inl LIE.out.2.1) (.inl LIE.out.2.2.1))
            have B5 := Lib.hid (HB.out.trans (hx5.below HB.out.size LIE.out.2.2.2.2.2.2 (Nat.le_refl _) LIE.out.2.2.2.2.2.1))
            clear hc5 ht5 hx5
            go_wp2_with fail
            refine (same_any C5.out T5.out).mono ?_
            rintro e v6 ⟨rfl, hb6⟩
            have C6 := Lib.hid (C5.out.on hb6)
            have T6 := Lib.hid (T5.out.on hb6)
            have D6 := Lib.hid (D5.out.on hb6)
            have U6 := Lib.hid (U5.out.on hb6)
            have F6 := Lib.hid (F5.out.on hb6)
            have B6 := Lib.hid (below_on B5.out (Nat.le_refl _) hb6)
            clear hb6
            go_wp2_with fail
            refine (same_any D6.out U6.out).mono ?_
            rintro e v7 ⟨rfl, hb7⟩
            have C7 := Lib.hid (C6.out.on hb7)
            have T7 := Lib.hid (T6.out.on hb7)
            have D7 := Lib.hid (D6.out.on hb7)
            have U7 := Lib.hid (U6.out.on hb7)
            have F7 := Lib.hid (F6.out.on hb7)
            have B7 := Lib.hid (below_on B6.out (Nat.le_refl _) hb7)
            clear hb7
            go_wp2_with fail
            go_roundw
            case rel => exact ⟨j + 1, by omega, by go_num, ⟨_, _, _, _, C7.out, T7.out, D7.out, U7.out⟩, F7.out, B7.out⟩
            case measure => simp [intOf]; omega
          · have ht2 : Int.tmod (j : Int) 2 = 1 := by rw [Int.tmod_eq_emod_of_nonneg (by omega)]; omega
            go_wp2_with fail
            refine (does_any HD.out HU.out LY.out.1 LY.out.2.1 ⟨xk, xa, xn, xs⟩).mono ?_
            rintro e v5 ⟨rfl, ⟨⟨s5, p5, hd5, hu5⟩, hx5⟩⟩
            have D5 := Lib.hid hd5
            have U5 := Lib.hid hu5
            have C5 := Lib.hid (HC.out.past3 hx5 (by have := LY.out; omega) (by have := LY.out; omega))
            have T5 := Lib.hid (HT.out.past3 hx5 (by have := LY.out; omega))
            have F5 := Lib.hid (HF.out.past3 hx5 (.inr LY.out.2.2.2.1) (.inr LY.out.2.2.2.2.1) (.inr LY.out.2.2.1))
            have B5 := Lib.hid (HB.out.trans (hx5.below HB.out.size (by have := LY.out; omega) (by have := LY.out; omega) (by have := LY.out; omega)))
            clear hd5 hu5 hx5
            go_wp2_with fail
            refine (same_any C5.out T5.out).mono ?_
            rintro e v6 ⟨rfl, hb6⟩
            have C6 := Lib.hid (C5.out.on hb6)
            have T6 := Lib.hid (T5.out.on hb6)
            have D6 := Lib.hid (D5.out.on hb6)
            have U6 := Lib.hid (U5.out.on hb6)
            have F6 := Lib.hid (F5.out.on hb6)
            have B6 := Lib.hid (below_on B5.out (Nat.le_refl _) hb6)
            clear hb6
            go_wp2_with fail
            refine (same_any D6.out U6.out).mono ?_
            rintro e v7 ⟨rfl, hb7⟩
            have C7 := Lib.hid (C6.out.on hb7)
            have T7 := Lib.hid (T6.out.on hb7)
            have D7 := Lib.hid (D6.out.on hb7)
            have U7 := Lib.hid (U6.out.on hb7)
            have F7 := Lib.hid (F6.out.on hb7)
            have B7 := Lib.hid (below_on B6.out (Nat.le_refl _) hb7)
            clear hb7
            go_wp2_with fail
            go_roundw
            case rel => exact ⟨j + 1, by omega, by go_num, ⟨_, _, _, _, C7.out, T7.out, D7.out, U7.out⟩, F7.out, B7.out⟩
            case measure => simp [intOf]; omega
        · have i4 : decide (j < m.length) = false := by simp; omega
          go_wp2_with fail
          refine (wakes_any _).mono ?_
          rintro e v6 ⟨rfl, hb6⟩
          go_wp2_with fail
          go_ret
          exact ⟨rfl, below_on HB.out (Nat.le_refl _) hb6⟩
end Go.Proofs.Ytjciadimeejmjaa
