/-
  BufChunks answers true at every two ints, every slice of edits and every slice of ints.
-/
import Derived.Test.YtlobaokeagpefaaClones
namespace Go.Proofs.Ytlobaokeagpefaa
open Go.RowKit ObGap

/-- Two buffers of one text, made within the call, apart from one another; the edits as they were. -/
def Ch (w : World) (lo hi : Nat) (w4 : World) (a m1 b m2 : Nat) (s : Bs) (p q : Nat) (F G : Nat → Prop) (wr : World) : Prop :=
  Bu wr F a m1 s p ∧ Bu wr G b m2 s q ∧ (∀ k, F k → ¬ G k) ∧ (∀ k, F k → w.heap.size ≤ k) ∧ (∀ k, G k → w.heap.size ≤ k) ∧ (∀ k, lo ≤ k → k < hi → ¬ F k ∧ ¬ G k) ∧ Kep lo hi w4 wr ∧ Below w.heap.size w wr
section
variable {w w4 wr w' : World} {lo hi a m1 b m2 : Nat} {s s' : Bs} {p q : Nat} {F G : Nat → Prop}
theorem Ch.on (h : Ch w lo hi w4 a m1 b m2 s p q F G wr) (hb : Below wr.heap.size wr w') : Ch w lo hi w4 a m1 b m2 s p q F G w' := by
  obtain ⟨h1, h2, h3, h4, h5, h6, h7, h8⟩ := h
  exact ⟨h1.on hb, h2.on hb, h3, h4, h5, h6, h7.on hb, bel_trans h8 hb⟩
/-- One behind the other: the first one turned. -/
structure Mid (w : World) (lo hi : Nat) (w4 : World) (b m2 : Nat) (s : Bs) (q : Nat) (F' G : Nat → Prop) (w' : World) : Prop where
  hb : Bu w' G b m2 s q
  h3 : ∀ k, F' k → ¬ G k
  h4 : ∀ k, F' k → w.heap.size ≤ k
  h5 : ∀ k, G k → w.heap.size ≤ k
  h6 : ∀ k, lo ≤ k → k < hi → ¬ F' k ∧ ¬ G k
  h7 : Kep lo hi w4 w'
  h8 : Below w.heap.size w w'
theorem Ch.first (h : Ch w lo hi w4 a m1 b m2 s p q F G wr) {v : Value} {e : Ending} {p' : Nat} (hd : Edt F a m1 s' p' wr v e w') : Mid w lo hi w4 b m2 s q (Fn F wr w') G w' := by
  obtain ⟨h1, h2, h3, h4, h5, h6, h7, h8⟩ := h
  obtain ⟨_, d1, d2⟩ := hd
  have hsz := h8.size
  refine ⟨h2.past d2 fun k hk hf => h3 k hf hk, fun k hk hg => ?_, fun k hk => ?_, h5, fun k k1 k2 => ⟨not_fn (h6 k k1 k2).1 (by have := h7.1; omega), (h6 k k1 k2).2⟩, h7.gs d2 fun k k1 k2 => (h6 k k1 k2).1, h8.trans (d2.below h4 hsz)⟩
  · rcases hk with h | h
    · exact h3 k h hg
    · have := h2.hF k hg; have := h.1; omega
  · rcases hk with h | h
    · exact h4 k h
    · have := h.1; omega
theorem Mid.second {w'' : World} {F' : Nat → Prop} {p' q' : Nat} (h : Mid w lo hi w4 b m2 s q F' G w') (ha : Bu w' F' a m1 s' p') {v : Value} {e : Ending} (hd : Edt G b m2 s' q' w' v e w'') : Ch w lo hi w4 a m1 b m2 s' p' q' F' (Fn G w' w'') w'' := by
  obtain ⟨_, d1, d2⟩ := hd
  have hsz := h.h8.size
  refine ⟨ha.past d2 fun k hk hf => h.h3 k hk hf, d1, fun k hk hg => ?_, h.h4, fun k hk => ?_, fun k k1 k2 => ⟨(h.h6 k k1 k2).1, not_fn (h.h6 k k1 k2).2 (by have := h.h7.1; omega)⟩, h.h7.gs d2 fun k k1 k2 => (h.h6 k k1 k2).2, h.h8.trans (d2.below h.h5 hsz)⟩
  · rcases hg with h1 | h1
    · exact h.h3 k hk h1
    · have := ha.hF k hk; have := h1.1; omega
  · rcases hk with h1 | h1
    · exact h.h5 k h1
    · have := h1.1; omega
/-- The second one's place moved. -/
theorem ch_move (h : Ch w lo hi w4 a m1 b m2 s p q F G wr) (i : Int) : Calls Try.prog 24 #[ptr b, .int .i64 i] wr fun e w' => (∃ v, e = .returned (.int .i64 v)) ∧ (∀ k, k < wr.heap.size → ¬ G k → w'.heap[k]? = wr.heap[k]?) ∧ wr.heap.size ≤ w'.heap.size ∧ ∃ q G', Ch w lo hi w4 a m1 b m2 s p q F G' w' ∧ ∀ k, k < wr.heap.size → ¬ G k → ¬ G' k := by
  obtain ⟨h1, h2, h3, h4, h5, h6, h7, h8⟩ := h
  refine (bmove_bu h2 i).mono ?_
  intro e w' hd
  have hm : Mid w lo hi w4 b m2 s q F G wr := ⟨h2, h3, h4, h5, h6, h7, h8⟩
  exact ⟨⟨_, hd.1⟩, fun k hk hn => hd.2.2.block k hk hn, hd.2.2.size, _, _, hm.second h1 hd, fun k hk hn => not_fn hn hk⟩
theorem ch_text1 (h : Ch w lo hi w4 a m1 b m2 s p q F G wr) : Calls Try.prog 23 #[ptr a] wr fun e w' => e = .returned (str s) ∧ Ch w lo hi w4 a m1 b m2 s p q F G w' := by
  refine (btext_bu h.1).mono ?_
  rintro e w' ⟨rfl, hb⟩
  exact ⟨rfl, h.on hb⟩
theorem ch_text2 (h : Ch w lo hi w4 a m1 b m2 s p q F G wr) : Calls Try.prog 23 #[ptr b] wr fun e w' => e = .returned (str s) ∧ Ch w lo hi w4 a m1 b m2 s p q F G w' := by
  refine (btext_bu h.2.1).mono ?_
  rintro e w' ⟨rfl, hb⟩
  exact ⟨rfl, h.on hb⟩
theorem ch_len1 (h : Ch w lo hi w4 a m1 b m2 s p q F G wr) : Calls Try.prog 19 #[ptr a] wr fun e w' => e = .returned (.int .i64 (s.length : Int)) ∧ Ch w lo hi w4 a m1 b m2 s p q F G w' := by
  refine (blen_bu h.1).mono ?_
  rintro e w' ⟨rfl, rfl⟩
  exact ⟨rfl, h⟩
theorem ch_len2 (h : Ch w lo hi w4 a m1 b m2 s p q F G wr) : Calls Try.prog 19 #[ptr b] wr fun e w' => e = .returned (.int .i64 (s.length : Int)) ∧ Ch w lo hi w4 a m1 b m2 s p q F G w' := by
  refine (blen_bu h.2.1).mono ?_
  rintro e w' ⟨rfl, rfl⟩
  exact ⟨rfl, h⟩
end
/-- A slice of ints that came in. -/
def Ins (w : World) (A : Option Addr) (l : List Int) : Prop := l ≠ [] → ∃ b off, A = some ⟨b, off, none⟩ ∧ b < w.heap.size ∧ ∀ j x, l[j]? = some x → w.cell? ⟨b, off + j, none⟩ = some (.int .i64 x)
theorem Ins.at_ {w wr : World} {A : Option Addr} {l : List Int} (h : Ins w A l) (hb : Below w.heap.size w wr) {j : Nat} (hj : j < l.length) : ∃ b off, A = some ⟨b, off, none⟩ ∧ wr.cell? ⟨b, off + j, none⟩ = some (.int .i64 l[j]) := by
  obtain ⟨b, off, e, h1, h2⟩ := h (fun e => by rw [e] at hj; simp at hj)
  exact ⟨b, off, e, (hb.cell h1).trans (h2 j _ (List.getElem?_eq_getElem hj))⟩
theorem wi2 (k : Int) : wi k 2 = 0 ∨ wi k 2 = 1 := by have := wi_in k 2 (by omega); omega
set_option maxHeartbeats 4000000 in
set_option maxRecDepth 100000 in
theorem chunks_walk (z0 z1 : Int) (A0 : Option Addr) (l0 : List Ed) (cap0 : Nat) (M : Option Addr) (ms : List Int) (capm : Nat) (w : World) (hE0 : Eds w w.heap.size A0 l0) (hM : Ins w M ms) : Calls Try.prog 5 #[.agg #[.int .i64 z0, .int .i64 z1], .slice A0 l0.length cap0, .slice M ms.length capm] w fun e w' => e = .returned (.bool true) ∧ Below w.heap.size w w' := by
  have HE0 := Lib.hid hE0
  have HMS := Lib.hid hM
  clear hE0 hM
  have hin1 := wi_in z0 40 (by omega)
  have hin2 := wi_in z1 4000 (by omega)
  have HW1 := Lib.hid (fun W => within_any z0 40 (by omega) (by omega) W)
  have HW2 := Lib.hid (fun W => within_any z1 4000 (by omega) (by omega) W)
  obtain ⟨q1, hq1, hq1l⟩ : ∃ q : Nat, wi z0 40 = q ∧ q < 40 := ⟨(wi z0 40).toNat, by omega, by omega⟩
  obtain ⟨q2, hq2, hq2l⟩ : ∃ q : Nat, wi z1 4000 = q ∧ q < 4000 := ⟨(wi z1 4000).toNat, by omega, by omega⟩
  rw [hq1] at HW1
  rw [hq2] at HW2
  have HN1 := Lib.hid (fun W => bnew_bu (4 + q1) W (by omega) (by omega))
  have HN2 := Lib.hid (fun W => bnew_bu (4 + q2) W (by omega) (by omega))
  have wq1 : IntKind.i64.wrap ((4 : Int) + (q1 : Int)) = ((4 + q1 : Nat) : Int) := (IntWalk.i64_in _ (by omega)).trans (by omega)
  have eq1 : (4 : Int) + (q1 : Int) = ((4 + q1 : Nat) : Int) := by omega
  have wq2 : IntKind.i64.wrap ((4 : Int) + (q2 : Int)) = ((4 + q2 : Nat) : Int) := (IntWalk.i64_in _ (by omega)).trans (by omega)
  have eq2 : (4 : Int) + (q2 : Int) = ((4 + q2 : Nat) : Int) := by omega
  have hm1 : 4 + q1 ≤ 4096 := by omega
  have hm2 : 4 + q2 ≤ 4096 := by omega
  generalize 4 + q1 = m1 at *
  generalize 4 + q2 = m2 at *
  clear hin1 hin2 hq1 hq2 hq1l hq2l
  have hbx0 : (w.alloc (.cells #[.int .i64 z0, .int .i64 z1] 50)).heap[w.heap.size]? = some (.cells #[.int .i64 z0, .int .i64 z1] 50 (0, 0)) := heap_new _ _
  have B0 := Lib.hid (alloc_below w (.cells #[.int .i64 z0, .int .i64 z1] 50))
  obtain ⟨w0, hw0⟩ : ∃ W, W = w.alloc (.cells #[.int .i64 z0, .int .i64 z1] 50) := ⟨_, rfl⟩
  have HW0 := Lib.hid hw0.symm
  have LW0 := Lib.hid (show w.heap.size < w0.heap.size by rw [hw0]; simp)
  have z1c : w0.cell? ⟨w.heap.size, 1, none⟩ = some (.int .i64 z1) := by rw [hw0]; simp only [World.cell?, hbx0]; rfl
  rw [← hw0] at B0
  clear hw0 hbx0
  go_enter Try.func5, Try.ntmps5
  go_wp2_with fail
  rw [HW0.out]
  refine (HW1.out _).mono ?_
  rintro e w1 ⟨rfl, rfl⟩
  go_wp2_with fail
  refine (HN1.out _).mono ?_
  rintro e w2 ⟨rfl, hc2, hb2⟩
  have C2 := Lib.hid hc2
  have B2 := Lib.hid hb2
  have z1d : w2.cell? ⟨w.heap.size, 1, none⟩ = some (.int .i64 z1) := (hb2.cell LW0.out).trans z1c
  clear hc2 hb2 z1c
  go_wp2_with fail
  refine (HW2.out _).mono ?_
  rintro e w1' ⟨rfl, rfl⟩
  go_wp2_with fail
  refine (HN2.out _).mono ?_
  rintro e w3 ⟨rfl, hc3, hb3⟩
  have C3 := Lib.hid hc3
  have A3 := Lib.hid (C2.out.on hb3)
  have B3 := Lib.hid (bel_trans (bel_trans B0.out B2.out) hb3)
  have S3 := Lib.hid hb3.size
  clear hc3 hb3 z1d
  go_wp2_with fail
  refine (edits_any A0 l0 cap0 60 300 w3 (HE0.out.on B3.out) (by omega)).mono ?_
  rintro e w4 ⟨v, rfl, hO, hb4⟩
  have hlen := eds_len l0 60 300
  have hsh := eds_short (l := l0) (most := 60) (each := 300)
  generalize eds l0 60 300 = l at hO hlen hsh
  have HSH := Lib.hid hsh
  obtain ⟨A, cap, rfl, hE⟩ := hO.edl
  have E4 := Lib.hid hE
  have P4 := Lib.hid (show Ch w w3.heap.size w4.heap.size w4 w0.heap.size m1 w2.heap.size m2 [] 0 0 (New w0 w2) (New w2 w3) w4 from
    ⟨A3.out.on hb4, C3.out.on hb4, fun k h1 h2 => by have := h1.2; have := h2.1; omega, fun k hk => Nat.le_trans B0.out.size hk.1, fun k hk => Nat.le_trans (Nat.le_trans B0.out.size B2.out.size) hk.1, fun k k1 k2 => ⟨fun h => by have := h.2; have := S3.out; omega, fun h => by have := h.2; omega⟩, ⟨Nat.le_refl _, fun _ _ _ => rfl⟩, bel_trans B3.out hb4⟩)
  clear hO hb4 hE B2 B3 HE0 HN1 HN2 C2 C3 A3 hsh HW1 HW2 S3 LW0 HW0 B0
  generalize hlo : w3.heap.size = lo at *
  generalize hhi : w4.heap.size = hi at *
  generalize ha : w0.heap.size = a at *
  generalize hbb : w2.heap.size = b at *
  clear hlo hhi ha hbb
  go_wp2_with fail
  go_loopw [11] (fun t11 wr => ∃ k : Nat, k ≤ l.length ∧ t11 = .int .i64 k ∧ ∃ s p q F G, Ch w lo hi w4 a m1 b m2 s p q F G wr) (fun t11 _ => l.length - (intOf t11).toNat)
  case atStart => exact ⟨0, by omega, rfl, [], 0, 0, _, _, P4.out⟩
  case round =>
    obtain ⟨k, hk, rfl, s, p, q, F, G, hP⟩ := hrel
    have HP := Lib.hid hP
    clear hP P4
    by_cases hkn : k < l.length
    · have i1 : (k : Int) < (l.length : Int) := by omega
      have i2 : decide (k < l.length) = true := decide_eq_true hkn
      obtain ⟨g, off, rfl, hg1, hg2, hA⟩ := E4.out.at_ HP.out.2.2.2.2.2.2.1 hkn
      have hxs := HSH.out l[k] (List.getElem_mem hkn)
      generalize l[k] = x at *
      obtain ⟨xk, xa, xn, xs⟩ := x
      simp only at hxs
      obtain ⟨e0, e1, e2, e3⟩ := hA
      simp only at e0 e1 e2 e3
      have X1 := Lib.hid (boxed wr xk xa xn xs)
      have PX := Lib.hid (HP.out.on (alloc_below wr (.cells #[.int .i64 xk, .int .i64 xa, .int .i64 xn, str xs] 34)))
      obtain ⟨W, hW⟩ : ∃ W, W = wr.alloc (.cells #[.int .i64 xk, .int .i64 xa, .int .i64 xn, str xs] 34) := ⟨_, rfl⟩
      have LB := Lib.hid (show wr.heap.size < W.heap.size by rw [hW]; simp)
      have HWE := Lib.hid hW.symm
      have NF := Lib.hid (show ¬ F wr.heap.size ∧ ¬ G wr.heap.size from ⟨fun h => by have := HP.out.1.hF _ h; omega, fun h => by have := HP.out.2.1.hF _ h; omega⟩)
      rw [← hW] at X1 PX
      clear hW
      have HW3 := Lib.hid (fun W => within_any xk 2 (by omega) (by omega) W)
      have hk2 := wi2 xk
      by_cases hmv : k < ms.length
      · have j1 : (k : Int) < (ms.length : Int) := by omega
        have j2 : decide (k < ms.length) = true := decide_eq_true hmv
        obtain ⟨gm, om, rfl, hcm⟩ := HMS.out.at_ PX.out.2.2.2.2.2.2.2 hmv
        generalize ms[k] = mk at *
        rw [← HWE.out] at hcm
        go_wp2_with fail
        rw [HWE.out]
        refine (ch_move PX.out mk).mono ?_
        rintro e W2 ⟨⟨v2, rfl⟩, hkeep, hsz2, q2', G2, hP2, hng⟩
        have X2 := Lib.hid (X1.out.keep (hkeep _ LB.out NF.out.2))
        have PX2 := Lib.hid hP2
        have LB2 := Lib.hid (Nat.lt_of_lt_of_le LB.out hsz2)
        have NF2 := Lib.hid (And.intro NF.out.1 (hng _ LB.out NF.out.2))
        clear hkeep hsz2 hP2 hng PX X1 LB NF HWE hcm
        clear W
        have X1 := X2
        have PX := PX2
        have LB := LB2
        have NF := NF2
        clear X2 PX2 LB2 NF2
        rcases hk2 with hk2 | hk2
        · rw [hk2] at HW3
          obtain ⟨b0, b1, b2, b3⟩ := X1.out
          simp only [Nat.zero_add] at b0 b1 b2 b3
          go_wp2_with fail
          refine (HW3.out _).mono ?_
          rintro e w5 ⟨rfl, rfl⟩
          go_wp2_with fail
          have PD := Lib.hid (PX.out.on (Below.refl _ W2).drew)
          have PA := Lib.hid PD.out.1
          go_region_held3 (fun V => V.cell? ⟨wr.heap.size, 0, none⟩ = some (.int .i64 xk) ∧ V.cell? ⟨wr.heap.size, 1, none⟩ = some (.int .i64 xa) ∧ V.cell? ⟨wr.heap.size, 2, none⟩ = some (.int .i64 xn) ∧ V.cell? ⟨wr.heap.size, 3, none⟩ = some (str xs)) (first | exact X1.out | exact X1.out.drew.gs hd5.2.2 LB.out NF.out.1 | exact (X1.out.drew.gs hd5.2.2 LB.out NF.out.1).gs hd6.2.2 (Nat.lt_of_lt_of_le LB.out hd5.2.2.size) NF.out.2 | fail) (first
            | (go_at_call 21; (with_reducible refine (binsert_bu PA.out xa xs (by omega)).mono ?_); intro e w6 hd5; obtain ⟨rfl, _⟩ := id hd5)
            | (go_at_call 21; (with_reducible refine (binsert_bu (PD.out.first hd5).hb xa xs (by omega)).mono ?_); intro e w7 hd6; obtain ⟨rfl, _⟩ := id hd6)
            | fail)
          all_goals (
            have P7 := Lib.hid ((PD.out.first hd5).second hd5.2.1 hd6)
            clear hd5 hd6 PD PA PX X1 HP
            go_wp2_with fail
            refine (ch_text1 P7.out).mono ?_
            rintro e w8 ⟨rfl, hP8⟩
            have P8 := Lib.hid hP8
            clear hP8 P7
            go_wp2_with fail
            refine (ch_text2 P8.out).mono ?_
            rintro e w9 ⟨rfl, hP9⟩
            have P9 := Lib.hid hP9
            clear hP9 P8
            go_wp2_with fail
            refine (ch_len1 P9.out).mono ?_
            rintro e w10 ⟨rfl, hP10⟩
            have P10 := Lib.hid hP10
            clear hP10 P9
            go_wp2_with fail
            refine (ch_len2 P10.out).mono ?_
            rintro e w11 ⟨rfl, hP11⟩
            have P11 := Lib.hid hP11
            clear hP11 P10
            go_wp2_with fail
            go_roundw
            case rel => exact ⟨k + 1, by omega, by go_num, _, _, _, _, _, P11.out⟩
            case measure => simp [intOf]; omega)
        · rw [hk2] at HW3
          obtain ⟨b0, b1, b2, b3⟩ := X1.out
          simp only [Nat.zero_add] at b0 b1 b2 b3
          go_wp2_with fail
          refine (HW3.out _).mono ?_
          rintro e w5 ⟨rfl, rfl⟩
          go_wp2_with fail
          have PD := Lib.hid (PX.out.on (Below.refl _ W2).drew)
          have PA := Lib.hid PD.out.1
          go_region_held3 (fun V => V.cell? ⟨wr.heap.size, 0, none⟩ = some (.int .i64 xk) ∧ V.cell? ⟨wr.heap.size, 1, none⟩ = some (.int .i64 xa) ∧ V.cell? ⟨wr.heap.size, 2, none⟩ = some (.int .i64 xn) ∧ V.cell? ⟨wr.heap.size, 3, none⟩ = some (str xs)) (first | exact X1.out | exact X1.out.drew.gs hd5.2.2 LB.out NF.out.1 | exact (X1.out.drew.gs hd5.2.2 LB.out NF.out.1).gs hd6.2.2 (Nat.lt_of_lt_of_le LB.out hd5.2.2.size) NF.out.2 | fail) (first
            | (go_at_call 20; (with_reducible refine (bdelete_bu PA.out xa xn).mono ?_); intro e w6 hd5; obtain ⟨rfl, _⟩ := id hd5)
            | (go_at_call 20; (with_reducible refine (bdelete_bu (PD.out.first hd5).hb xa xn).mono ?_); intro e w7 hd6; obtain ⟨rfl, _⟩ := id hd6)
            | fail)
          all_goals (
            have P7 := Lib.hid ((PD.out.first hd5).second hd5.2.1 hd6)
            clear hd5 hd6 PD PA PX X1 HP
            go_wp2_with fail
            refine (ch_text1 P7.out).mono ?_
            rintro e w8 ⟨rfl, hP8⟩
            have P8 := Lib.hid hP8
            clear hP8 P7
            go_wp2_with fail
            refine (ch_text2 P8.out).mono ?_
            rintro e w9 ⟨rfl, hP9⟩
            have P9 := Lib.hid hP9
            clear hP9 P8
            go_wp2_with fail
            refine (ch_len1 P9.out).mono ?_
            rintro e w10 ⟨rfl, hP10⟩
            have P10 := Lib.hid hP10
            clear hP10 P9
            go_wp2_with fail
            refine (ch_len2 P10.out).mono ?_
            rintro e w11 ⟨rfl, hP11⟩
            have P11 := Lib.hid hP11
            clear hP11 P10
            go_wp2_with fail
            go_roundw
            case rel => exact ⟨k + 1, by omega, by go_num, _, _, _, _, _, P11.out⟩
            case measure => simp [intOf]; omega)
      · have j2 : decide (k < ms.length) = false := decide_eq_false hmv
        rcases hk2 with hk2 | hk2
        · rw [hk2] at HW3
          obtain ⟨b0, b1, b2, b3⟩ := X1.out
          simp only [Nat.zero_add] at b0 b1 b2 b3
          go_wp2_with fail
          rw [HWE.out]
          refine (HW3.out _).mono ?_
          rintro e w5 ⟨rfl, rfl⟩
          go_wp2_with fail
          have PD := Lib.hid (PX.out.on (Below.refl _ W).drew)
          have PA := Lib.hid PD.out.1
          go_region_held3 (fun V => V.cell? ⟨wr.heap.size, 0, none⟩ = some (.int .i64 xk) ∧ V.cell? ⟨wr.heap.size, 1, none⟩ = some (.int .i64 xa) ∧ V.cell? ⟨wr.heap.size, 2, none⟩ = some (.int .i64 xn) ∧ V.cell? ⟨wr.heap.size, 3, none⟩ = some (str xs)) (first | exact X1.out | exact X1.out.drew.gs hd5.2.2 LB.out NF.out.1 | exact (X1.out.drew.gs hd5.2.2 LB.out NF.out.1).gs hd6.2.2 (Nat.lt_of_lt_of_le LB.out hd5.2.2.size) NF.out.2 | fail) (first
            | (go_at_call 21; (with_reducible refine (binsert_bu PA.out xa xs (by omega)).mono ?_); intro e w6 hd5; obtain ⟨rfl, _⟩ := id hd5)
            | (go_at_call 21; (with_reducible refine (binsert_bu (PD.out.first hd5).hb xa xs (by omega)).mono ?_); intro e w7 hd6; obtain ⟨rfl, _⟩ := id hd6)
            | fail)
          all_goals (
            have P7 := Lib.hid ((PD.out.first hd5).second hd5.2.1 hd6)
            clear hd5 hd6 PD PA PX X1 HP
            go_wp2_with fail
            refine (ch_text1 P7.out).mono ?_
            rintro e w8 ⟨rfl, hP8⟩
            have P8 := Lib.hid hP8
            clear hP8 P7
            go_wp2_with fail
            refine (ch_text2 P8.out).mono ?_
            rintro e w9 ⟨rfl, hP9⟩
            have P9 := Lib.hid hP9
            clear hP9 P8
            go_wp2_with fail
            refine (ch_len1 P9.out).mono ?_
            rintro e w10 ⟨rfl, hP10⟩
            have P10 := Lib.hid hP10
            clear hP10 P9
            go_wp2_with fail
            refine (ch_len2 P10.out).mono ?_
            rintro e w11 ⟨rfl, hP11⟩
            have P11 := Lib.hid hP11
            clear hP11 P10
            go_wp2_with fail
            go_roundw
            case rel => exact ⟨k + 1, by omega, by go_num, _, _, _, _, _, P11.out⟩
            case measure => simp [intOf]; omega)
        · rw [hk2] at HW3
          obtain ⟨b0, b1, b2, b3⟩ := X1.out
          simp only [Nat.zero_add] at b0 b1 b2 b3
          go_wp2_with fail
          rw [HWE.out]
          refine (HW3.out _).mono ?_
          rintro e w5 ⟨rfl, rfl⟩
          go_wp2_with fail
          have PD := Lib.hid (PX.out.on (Below.refl _ W).drew)
          have PA := Lib.hid PD.out.1
          go_region_held3 (fun V => V.cell? ⟨wr.heap.size, 0, none⟩ = some (.int .i64 xk) ∧ V.cell? ⟨wr.heap.size, 1, none⟩ = some (.int .i64 xa) ∧ V.cell? ⟨wr.heap.size, 2, none⟩ = some (.int .i64 xn) ∧ V.cell? ⟨wr.heap.size, 3, none⟩ = some (str xs)) (first | exact X1.out | exact X1.out.drew.gs hd5.2.2 LB.out NF.out.1 | exact (X1.out.drew.gs hd5.2.2 LB.out NF.out.1).gs hd6.2.2 (Nat.lt_of_lt_of_le LB.out hd5.2.2.size) NF.out.2 | fail) (first
            | (go_at_call 20; (with_reducible refine (bdelete_bu PA.out xa xn).mono ?_); intro e w6 hd5; obtain ⟨rfl, _⟩ := id hd5)
            | (go_at_call 20; (with_reducible refine (bdelete_bu (PD.out.first hd5).hb xa xn).mono ?_); intro e w7 hd6; obtain ⟨rfl, _⟩ := id hd6)
            | fail)
          all_goals (
            have P7 := Lib.hid ((PD.out.first hd5).second hd5.2.1 hd6)
            clear hd5 hd6 PD PA PX X1 HP
            go_wp2_with fail
            refine (ch_text1 P7.out).mono ?_
            rintro e w8 ⟨rfl, hP8⟩
            have P8 := Lib.hid hP8
            clear hP8 P7
            go_wp2_with fail
            refine (ch_text2 P8.out).mono ?_
            rintro e w9 ⟨rfl, hP9⟩
            have P9 := Lib.hid hP9
            clear hP9 P8
            go_wp2_with fail
            refine (ch_len1 P9.out).mono ?_
            rintro e w10 ⟨rfl, hP10⟩
            have P10 := Lib.hid hP10
            clear hP10 P9
            go_wp2_with fail
            refine (ch_len2 P10.out).mono ?_
            rintro e w11 ⟨rfl, hP11⟩
            have P11 := Lib.hid hP11
            clear hP11 P10
            go_wp2_with fail
            go_roundw
            case rel => exact ⟨k + 1, by omega, by go_num, _, _, _, _, _, P11.out⟩
            case measure => simp [intOf]; omega)
    · have i2 : decide (k < l.length) = false := decide_eq_false hkn
      go_wp2_with fail
      refine (wakes_any _).mono ?_
      rintro e w9 ⟨rfl, hb9⟩
      go_wp2_with fail
      go_ret
      exact ⟨rfl, bel_trans HP.out.2.2.2.2.2.2.2 hb9⟩
end Go.Proofs.Ytlobaokeagpefaa
