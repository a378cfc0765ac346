/-
  BufPlays answers true at every size, every slice of edits and every two places.
-/
import Derived.Test.YtlobaokeagpefaaB17
namespace Go.Proofs.Ytlobaokeagpefaa
open Go.RowKit ObGap

/-- A slice of edits that lies in blocks from lo up to hi. -/
def EdL (lo hi : Nat) (w4 : World) (A : Option Addr) (l : List Ed) : Prop := l = [] ∨ ∃ g off, A = some ⟨g, off, none⟩ ∧ lo ≤ g ∧ g < hi ∧ ∀ j x, l[j]? = some x → EdAt w4 g (off + j * 4) x
theorem Ow.edl {w : World} {B : Nat} {v : Value} {l : List Ed} (h : Ow w B v l) : ∃ A cap, v = .slice A l.length cap ∧ EdL B w.heap.size w A l := by
  obtain ⟨A, cap, rfl, h1, h2⟩ := h.shape
  refine ⟨A, cap, rfl, ?_⟩
  rcases h2 with h2 | ⟨g, rfl, h3, h4⟩
  · exact .inl h2
  · by_cases hn : l = []
    · exact .inl hn
    · obtain ⟨b, off, e, hb, hc⟩ := h1 hn
      injection e with e
      injection e with e1 e2
      subst e1 e2
      exact .inr ⟨_, _, rfl, h3, hb, hc⟩
/-- The blocks of the edits are as they were. -/
def Kep (lo hi : Nat) (w4 wr : World) : Prop := hi ≤ wr.heap.size ∧ ∀ k, lo ≤ k → k < hi → wr.heap[k]? = w4.heap[k]?
theorem Kep.on {lo hi : Nat} {w4 wr w' : World} (h : Kep lo hi w4 wr) (hb : Below wr.heap.size wr w') : Kep lo hi w4 w' := ⟨Nat.le_trans h.1 hb.size, fun k h1 h2 => (hb.block k (by have := h.1; omega)).trans (h.2 k h1 h2)⟩
theorem Kep.gs {lo hi : Nat} {w4 wr w' : World} {G G' : Nat → Prop} (h : Kep lo hi w4 wr) (hg : Gs G G' wr w') (hn : ∀ k, lo ≤ k → k < hi → ¬ G k) : Kep lo hi w4 w' := ⟨Nat.le_trans h.1 hg.size, fun k h1 h2 => (hg.block k (by have := h.1; omega) (hn k h1 h2)).trans (h.2 k h1 h2)⟩
theorem EdL.at_ {lo hi : Nat} {w4 wr : World} {A : Option Addr} {l : List Ed} (h : EdL lo hi w4 A l) (hk : Kep lo hi w4 wr) {j : Nat} (hj : j < l.length) : ∃ g off, A = some ⟨g, off, none⟩ ∧ lo ≤ g ∧ g < hi ∧ EdAt wr g (off + j * 4) l[j] := by
  rcases h with rfl | ⟨g, off, e, h1, h2, h3⟩
  · simp at hj
  · exact ⟨g, off, e, h1, h2, (h3 j _ (List.getElem?_eq_getElem hj)).keep (hk.2 g h1 h2)⟩
theorem EdL.get {lo hi : Nat} {w4 : World} {g off : Nat} {l : List Ed} (h : EdL lo hi w4 (some ⟨g, off, none⟩) l) {j : Nat} (hj : j < l.length) (wr : World) (hk : Kep lo hi w4 wr) : EdAt wr g (off + j * 4) l[j] := by
  obtain ⟨g', off', e, _, _, h'⟩ := h.at_ hk hj
  simp only [Option.some.injEq, Addr.mk.injEq, and_true] at e
  obtain ⟨rfl, rfl⟩ := e
  exact h'
/-- A buffer and the page's own text that are one, made within the call; the edits as they were. -/
def Pl (w : World) (lo hi : Nat) (w4 : World) (b t mx : Nat) (s : Bs) (p : Nat) (wr : World) : Prop :=
  (∃ F, Bu wr F b mx s p ∧ ¬ F t ∧ (∀ k, F k → w.heap.size ≤ k) ∧ (∀ k, lo ≤ k → k < hi → ¬ F k)) ∧ Tx wr t 1048576 s p ∧ w.heap.size ≤ t ∧ t < lo ∧ Kep lo hi w4 wr ∧ Below w.heap.size w wr
section
variable {w w4 wr w' : World} {lo hi b t mx : Nat} {s : Bs} {p : Nat}
theorem Pl.on (h : Pl w lo hi w4 b t mx s p wr) (hb : Below wr.heap.size wr w') : Pl w lo hi w4 b t mx s p w' := by
  obtain ⟨⟨F, h1, h2, h3, h4⟩, h5, h6, h7, h8, h9⟩ := h
  exact ⟨⟨F, h1.on hb, h2, h3, h4⟩, h5.on hb, h6, h7, h8.on hb, bel_trans h9 hb⟩
theorem pl_does (h : Pl w lo hi w4 b t mx s p wr) (x : Ed) (hx : x.s.length ≤ 2097152) : Calls Try.prog 12 #[ptr b, ptr t, edv x] wr fun e w' => e = .returned (.bool true) ∧ ∃ s p, Pl w lo hi w4 b t mx s p w' := by
  obtain ⟨⟨F, h1, h2, h3, h4⟩, h5, h6, h7, h8, h9⟩ := h
  refine (does_any h1 h5 h2 x hx).mono ?_
  rintro e w' ⟨rfl, s', p', d1, d2, d3⟩
  have hsz := h9.size
  refine ⟨rfl, s', p', ⟨Fn F wr w', d1, not_fn h2 h5.lt, fun k hk => ?_, fun k k1 k2 => not_fn (h4 k k1 k2) (by have := h8.1; omega)⟩, d2, h6, h7, h8.gs d3 fun k k1 k2 hk => ?_, h9.trans (d3.below (fun k hk => ?_) hsz)⟩
  · rcases hk with h | h
    · exact h3 k h
    · have := h.1; omega
  · rcases hk with h | h
    · exact h4 k k1 k2 h
    · omega
  · rcases hk with h | h
    · exact h3 k h
    · omega
theorem pl_same (h : Pl w lo hi w4 b t mx s p wr) : Calls Try.prog 13 #[ptr b, ptr t] wr fun e w' => e = .returned (.bool true) ∧ Below wr.heap.size wr w' := by
  obtain ⟨⟨F, h1, _⟩, h5, _⟩ := h
  exact same_any h1 h5
theorem pl_slice (h : Pl w lo hi w4 b t mx s p wr) (f u : Int) : Calls Try.prog 14 #[ptr b, .int .i64 f, .int .i64 u] wr fun e w' => e = .returned (.tuple #[str (slT s f u), .int .i64 (slE s f u)]) ∧ Below wr.heap.size wr w' := by
  obtain ⟨⟨F, h1, _⟩, _⟩ := h
  exact bslice_bu h1 f u
theorem pl_byte (h : Pl w lo hi w4 b t mx s p wr) (i : Int) : Calls Try.prog 16 #[ptr b, .int .i64 i] wr fun e w' => e = .returned (.int .i64 (byt s i)) ∧ Below wr.heap.size wr w' := by
  obtain ⟨⟨F, h1, _⟩, _⟩ := h
  exact bbyte_bu h1 i
end
theorem tx_new (w : World) : Tx (w.alloc (.cells #[.int .i64 1048576, str [], .int .i64 0] 30)) w.heap.size 1048576 [] 0 := ⟨heap_new _ _, by simp, by omega⟩
set_option maxHeartbeats 4000000 in
set_option maxRecDepth 100000 in
theorem plays_walk (size : Int) (A0 : Option Addr) (l0 : List Ed) (cap0 : Nat) (from0 to0 : Int) (w : World) (hE0 : Eds w w.heap.size A0 l0) : Calls Try.prog 3 #[.int .i64 size, .slice A0 l0.length cap0, .int .i64 from0, .int .i64 to0] w fun e w' => e = .returned (.bool true) ∧ Below w.heap.size w w' := by
  have HE0 := Lib.hid hE0
  clear hE0
  by_cases hsz : size < 4 ∨ 4096 < size
  · have HN := Lib.hid (fun W => bnew_not size W hsz)
    by_cases h1 : size < 4
    · have d1 : decide (size < 4) = true := decide_eq_true h1
      go_enter Try.func3, Try.ntmps3
      go_wp2_with fail
      refine (wakes_any _).mono ?_
      rintro e w1 ⟨rfl, hb1⟩
      go_wp2_with fail
      refine (HN.out _).mono ?_
      rintro e w2 ⟨rfl, hb2⟩
      go_wp2_with fail
      go_ret
      exact ⟨rfl, bel_trans hb1 hb2⟩
    · have d1 : decide (size < 4) = false := decide_eq_false h1
      have d2 : decide (4096 < size) = true := decide_eq_true (by omega)
      go_enter Try.func3, Try.ntmps3
      go_wp2_with fail
      refine (wakes_any _).mono ?_
      rintro e w1 ⟨rfl, hb1⟩
      go_wp2_with fail
      refine (HN.out _).mono ?_
      rintro e w2 ⟨rfl, hb2⟩
      go_wp2_with fail
      go_ret
      exact ⟨rfl, bel_trans hb1 hb2⟩
  · have d1 : decide (size < 4) = false := decide_eq_false (by omega)
    have d2 : decide (4096 < size) = false := decide_eq_false (by omega)
    obtain ⟨mx, rfl⟩ : ∃ mx : Nat, size = mx := ⟨size.toNat, by omega⟩
    have HN := Lib.hid (fun W => bnew_bu mx W (by omega) (by omega))
    clear hsz
    go_enter Try.func3, Try.ntmps3
    go_wp2_with fail
    refine (wakes_any _).mono ?_
    rintro e w1 ⟨rfl, hb1⟩
    have B1 := Lib.hid hb1
    clear hb1
    go_wp2_with fail
    refine (HN.out _).mono ?_
    rintro e w2 ⟨rfl, hc2, hb2⟩
    have C2 := Lib.hid hc2
    have B2 := Lib.hid (bel_trans B1.out hb2)
    clear hc2 hb2
    go_wp2_with fail
    have T3 := Lib.hid (tx_new w2)
    have B3 := Lib.hid (alloc_below w2 (.cells #[.int .i64 1048576, str [], .int .i64 0] 30))
    have L3 := Lib.hid (show (w2.alloc (.cells #[.int .i64 1048576, str [], .int .i64 0] 30)).heap.size = w2.heap.size + 1 by simp)
    obtain ⟨w3, hw3⟩ : ∃ W, W = w2.alloc (.cells #[.int .i64 1048576, str [], .int .i64 0] 30) := ⟨_, rfl⟩
    have hw3' : w2.alloc (.cells #[.int .i64 1048576, .string ⟨#[]⟩, .int .i64 0] 30) = w3 := hw3.symm
    rw [← hw3] at T3 B3 L3
    rw [hw3']
    have C3 := Lib.hid (C2.out.on B3.out)
    have BB3 := Lib.hid (bel_trans B2.out B3.out)
    clear hw3 hw3'
    refine (edits_any A0 l0 cap0 60 300 w3 (HE0.out.on BB3.out) (by omega)).mono ?_
    rintro e w4 ⟨v, rfl, hO, hb4⟩
    have hlen := eds_len l0 60 300
    have hsh := eds_short (l := l0) (most := 60) (each := 300)
    generalize eds l0 60 300 = l at hO hlen hsh
    have HSH := Lib.hid hsh
    obtain ⟨A, cap, rfl, hE⟩ := hO.edl
    have E4 := Lib.hid hE
    have P4 := Lib.hid (show Pl w w3.heap.size w4.heap.size w4 w1.heap.size w2.heap.size mx [] 0 w4 from
      ⟨⟨_, C3.out.on hb4, fun h => Nat.lt_irrefl _ h.2, fun k hk => Nat.le_trans B1.out.size hk.1, fun k k1 k2 hk => by have := hk.2; have := L3.out; omega⟩, T3.out.on hb4, B2.out.size, by have := L3.out; omega, ⟨Nat.le_refl _, fun _ _ _ => rfl⟩, bel_trans BB3.out hb4⟩)
    clear hO hb4 hE C3 T3 BB3 B3 B2 B1 HE0 HN C2 L3 hsh
    generalize hlo : w3.heap.size = lo at *
    generalize hhi : w4.heap.size = hi at *
    generalize hbb : w1.heap.size = b at *
    generalize htt : w2.heap.size = t at *
    clear hlo hhi hbb htt
    go_wp2_with fail
    go_loopw [12] (fun t12 wr => ∃ k : Nat, k ≤ l.length ∧ t12 = .int .i64 k ∧ ∃ s p, Pl w lo hi w4 b t mx s p wr) (fun t12 _ => l.length - (intOf t12).toNat)
    case atStart => exact ⟨0, by omega, rfl, [], 0, P4.out⟩
    case round =>
      obtain ⟨k, hk, rfl, s, p, hP⟩ := hrel
      have HP := Lib.hid hP
      clear hP
      by_cases hkn : k < l.length
      · have i1 : (k : Int) < (l.length : Int) := by omega
        have i2 : decide (k < l.length) = true := decide_eq_true hkn
        obtain ⟨g, off, rfl, hg1, hg2, hA⟩ := E4.out.at_ HP.out.2.2.2.2.1 hkn
        have hxs := HSH.out l[k] (List.getElem_mem hkn)
        have HEL := Lib.hid (fun W (hW : Kep lo hi w4 W) => E4.out.get hkn W hW)
        generalize l[k] = x at *
        obtain ⟨xk, xa, xn, xs⟩ := x
        simp only at hxs
        obtain ⟨e0, e1, e2, e3⟩ := hA
        simp only at e0 e1 e2 e3
        go_wp2_with fail
        refine (pl_does HP.out ⟨xk, xa, xn, xs⟩ (by simp only; omega)).mono ?_
        rintro e w5 ⟨rfl, s5, p5, hP5⟩
        have P5 := Lib.hid hP5
        clear hP5 e0 e1 e2 e3 HP
        go_wp2_with fail
        refine (pl_same P5.out).mono ?_
        rintro e w6 ⟨rfl, hb6⟩
        have P6 := Lib.hid (P5.out.on hb6)
        clear hb6 P5
        obtain ⟨e0, e1, e2, e3⟩ := HEL.out _ P6.out.2.2.2.2.1
        simp only at e0 e1 e2 e3
        go_wp2_with fail
        go_quiet (fail)
        go_wp2_with fail
        refine (pl_slice (P6.out.on (below_drews (Below.refl _ w6) nq)) xa xn).mono ?_
        rintro e w7 ⟨rfl, hb7⟩
        have P7 := Lib.hid ((P6.out.on (below_drews (Below.refl _ w6) nq)).on hb7)
        clear hb7 P6 e0 e1 e2 e3
        obtain ⟨t0, t1, t2, _⟩ := P7.out.2.1.cells
        go_wp2_with fail
        refine (rslice_any s5 xa xn _).mono ?_
        rintro e w8 ⟨rfl, rfl⟩
        generalize slT s5 xa xn = sl
        generalize slE s5 xa xn = sle
        have HBY := Lib.hid (fun W (hW : Below w7.heap.size w7 W) => pl_byte (P7.out.on hW) xa)
        have HT1 := Lib.hid (fun W (hW : Below w7.heap.size w7 W) => (P7.out.on hW).2.1.cells.2.1)
        go_wp2_with fail
        go_region_held3 (fun W => W.cell? ⟨t, 1, none⟩ = some (str s5)) (first | exact t1 | exact HT1.out _ (undrew hb9)) (first
          | (go_at_call 16; (with_reducible refine (HBY.out _ (Below.refl _ _).drew).mono ?_); rintro e w9 ⟨rfl, hb9⟩)
          | (go_at_call 17; (with_reducible refine (rbyte_any s5 xa _).mono ?_); rintro e w10 ⟨rfl, rfl⟩))
        all_goals (
          have P9 := Lib.hid (P7.out.on (undrew hb9))
          clear hb9
          go_wp2_with fail
          go_roundw
          case rel => exact ⟨k + 1, by omega, by go_num, s5, p5, P9.out⟩
          case measure => simp [intOf]; omega)
      · have i2 : decide (k < l.length) = false := decide_eq_false hkn
        go_wp2_with fail
        refine (pl_slice HP.out from0 to0).mono ?_
        rintro e w7 ⟨rfl, hb7⟩
        have P7 := Lib.hid (HP.out.on hb7)
        clear hb7 HP
        obtain ⟨t0, t1, t2, _⟩ := P7.out.2.1.cells
        go_wp2_with fail
        refine (rslice_any s from0 to0 _).mono ?_
        rintro e w8 ⟨rfl, rfl⟩
        generalize slT s from0 to0 = sl
        generalize slE s from0 to0 = sle
        have HBY := Lib.hid (fun W (hW : Below w7.heap.size w7 W) => pl_byte (P7.out.on hW) from0)
        have HT1 := Lib.hid (fun W (hW : Below w7.heap.size w7 W) => (P7.out.on hW).2.1.cells.2.1)
        go_wp2_with fail
        go_region_held3 (fun W => W.cell? ⟨t, 1, none⟩ = some (str s)) (first | exact t1 | exact HT1.out _ (undrew hb9)) (first
          | (go_at_call 16; (with_reducible refine (HBY.out _ (Below.refl _ _).drew).mono ?_); rintro e w9 ⟨rfl, hb9⟩)
          | (go_at_call 17; (with_reducible refine (rbyte_any s from0 _).mono ?_); rintro e w10 ⟨rfl, rfl⟩))
        all_goals (
          have P9 := Lib.hid (P7.out.on (undrew hb9))
          clear hb9
          go_wp2_with fail
          go_ret
          exact ⟨rfl, P9.out.2.2.2.2.2⟩)
end Go.Proofs.Ytlobaokeagpefaa
