/-
  BufClones answers true at every int and every two slices of edits.
-/
import Derived.Test.YtlobaokeagpefaaPlays
import Derived.LaidEqlPtr
namespace Go.Proofs.Ytlobaokeagpefaa
open Go.RowKit ObGap

/-- Two buffers and two texts that lie apart from one another and from the edits. -/
structure Sep (w : World) (lo hi t u : Nat) (F G : Nat → Prop) : Prop where
  a1 : ¬ F t
  a2 : ¬ F u
  a3 : ¬ G t
  a4 : ¬ G u
  a5 : t ≠ u
  a6 : ∀ k, F k → ¬ G k
  a7 : ∀ k, F k → w.heap.size ≤ k
  a8 : ∀ k, G k → w.heap.size ≤ k
  a9 : ∀ k, lo ≤ k → k < hi → ¬ F k ∧ ¬ G k ∧ k ≠ t ∧ k ≠ u
  b1 : w.heap.size ≤ t
  b2 : w.heap.size ≤ u
theorem Sep.swap {w : World} {lo hi t u : Nat} {F G : Nat → Prop} (h : Sep w lo hi t u F G) : Sep w lo hi u t G F :=
  ⟨h.a4, h.a3, h.a2, h.a1, Ne.symm h.a5, fun k hk hf => h.a6 k hf hk, h.a8, h.a7, fun k k1 k2 => ⟨(h.a9 k k1 k2).2.1, (h.a9 k k1 k2).1, (h.a9 k k1 k2).2.2.2, (h.a9 k k1 k2).2.2.1⟩, h.b2, h.b1⟩
/-- Two buffers, each one with its text. -/
def D2 (w : World) (lo hi : Nat) (w4 : World) (mx b t d u : Nat) (wr : World) : Prop :=
  ∃ F G s p s' p', Bu wr F b mx s p ∧ Tx wr t 1048576 s p ∧ Bu wr G d mx s' p' ∧ Tx wr u 1048576 s' p' ∧ Sep w lo hi t u F G ∧ Kep lo hi w4 wr ∧ Below w.heap.size w wr
section
variable {w w4 wr w' : World} {lo hi mx b t d u : Nat}
theorem D2.swap (h : D2 w lo hi w4 mx b t d u wr) : D2 w lo hi w4 mx d u b t wr := by
  obtain ⟨F, G, s, p, s', p', h1, h2, h3, h4, h5, h6⟩ := h
  exact ⟨G, F, s', p', s, p, h3, h4, h1, h2, h5.swap, h6⟩
theorem D2.on (h : D2 w lo hi w4 mx b t d u wr) (hb : Below wr.heap.size wr w') : D2 w lo hi w4 mx b t d u w' := by
  obtain ⟨F, G, s, p, s', p', h1, h2, h3, h4, h5, h6, h7⟩ := h
  exact ⟨F, G, s, p, s', p', h1.on hb, h2.on hb, h3.on hb, h4.on hb, h5, h6.on hb, bel_trans h7 hb⟩
theorem D2.kep (h : D2 w lo hi w4 mx b t d u wr) : Kep lo hi w4 wr := by
  obtain ⟨F, G, s, p, s', p', h1, h2, h3, h4, h5, h6, h7⟩ := h; exact h6
theorem D2.bel (h : D2 w lo hi w4 mx b t d u wr) : Below w.heap.size w wr := by
  obtain ⟨F, G, s, p, s', p', h1, h2, h3, h4, h5, h6, h7⟩ := h; exact h7
theorem d2_does (h : D2 w lo hi w4 mx b t d u wr) (x : Ed) (hx : x.s.length ≤ 2097152) : Calls Try.prog 12 #[ptr b, ptr t, edv x] wr fun e w' => e = .returned (.bool true) ∧ D2 w lo hi w4 mx b t d u w' := by
  obtain ⟨F, G, s, p, s', p', h1, h2, h3, h4, h5, h6, h7⟩ := h
  refine (does_any h1 h2 h5.a1 x hx).mono ?_
  rintro e w' ⟨rfl, s1, p1, d1, d2, d3⟩
  have hsz := h7.size
  have hs2 := d3.size
  refine ⟨rfl, Fn F wr w', G, s1, p1, s', p', d1, d2, h3.past d3 fun k hk hf => ?_, ⟨(d3.block _ h4.lt fun hf => ?_).trans h4.1, h4.2⟩, ?_, h6.gs d3 fun k k1 k2 hk => ?_, h7.trans (d3.below (fun k hk => ?_) hsz)⟩
  · rcases hf with h | h
    · exact h5.a6 k h hk
    · subst h; exact h5.a3 hk
  · rcases hf with h | h
    · exact h5.a2 h
    · exact h5.a5 h.symm
  · refine ⟨not_fn h5.a1 h2.lt, not_fn h5.a2 h4.lt, h5.a3, h5.a4, h5.a5, fun k hk hg => ?_, fun k hk => ?_, h5.a8, fun k k1 k2 => ⟨not_fn (h5.a9 k k1 k2).1 (by have := h6.1; omega), (h5.a9 k k1 k2).2⟩, h5.b1, h5.b2⟩
    · rcases hk with h | h
      · exact h5.a6 k h hg
      · have := h3.hF k hg; have := h.1; omega
    · rcases hk with h | h
      · exact h5.a7 k h
      · have := h.1; omega
  · rcases hk with h | h
    · exact (h5.a9 k k1 k2).1 h
    · exact (h5.a9 k k1 k2).2.2.1 h
  · rcases hk with h | h
    · exact h5.a7 k h
    · have := h5.b1; omega
theorem d2_same (h : D2 w lo hi w4 mx b t d u wr) : Calls Try.prog 13 #[ptr b, ptr t] wr fun e w' => e = .returned (.bool true) ∧ D2 w lo hi w4 mx b t d u w' := by
  have h0 := h
  obtain ⟨F, G, s, p, s', p', h1, h2, h3, h4, h5, h6, h7⟩ := h
  refine (same_any h1 h2).mono ?_
  rintro e w' ⟨rfl, hb⟩
  exact ⟨rfl, h0.on hb⟩
end
theorem Pl.clone {w w4 wr w' : World} {lo hi b t mx d : Nat} {s : Bs} {p : Nat} (h : Pl w lo hi w4 b t mx s p wr) (hd : Bu w' (New wr w') d mx s p) (hb : Below wr.heap.size wr w') :
    D2 w lo hi w4 mx b t d w'.heap.size (w'.alloc (.cells #[.int .i64 1048576, str s, .int .i64 (p : Int)] 30)) := by
  have h0 := h.on hb
  obtain ⟨⟨F, h1, h2, h3, h4⟩, h5, h6, h7, h8, h9⟩ := h
  have hba := alloc_below w' (.cells #[.int .i64 1048576, str s, .int .i64 (p : Int)] 30)
  have s1 := hb.size
  have s2 := h9.size
  have hl := h1.lens
  have hlo := h8.1
  have ht := h5.lt
  refine ⟨F, New wr w', s, p, s, p, (h1.on hb).on hba, (h5.on hb).on hba, hd.on hba, ⟨heap_new _ _, hl.1, by omega⟩, ⟨h2, fun hf => ?_, fun hg => ?_, fun hg => Nat.lt_irrefl _ hg.2, by omega, fun k hk hg => ?_, h3, fun k hk => Nat.le_trans s2 hk.1, fun k k1 k2 => ⟨h4 k k1 k2, fun hg => ?_, by omega, by omega⟩, h6, by omega⟩, (h8.on hb).on hba, bel_trans (bel_trans h9 hb) hba⟩
  · have := h1.hF _ hf; omega
  · have := hg.1; omega
  · have := h1.hF k hk; have := hg.1; omega
  · have := hg.1; omega
theorem EdL.on {lo hi lo' hi' : Nat} {w4 w5 : World} {A : Option Addr} {l : List Ed} (h : EdL lo hi w4 A l) (hk : ∀ k, k < hi → w5.heap[k]? = w4.heap[k]?) (h1 : lo' ≤ lo) (h2 : hi ≤ hi') : EdL lo' hi' w5 A l := by
  rcases h with h | ⟨g, off, e, h3, h4, h5⟩
  · exact .inl h
  · exact .inr ⟨g, off, e, by omega, by omega, fun j x hj => (h5 j x hj).keep (hk g h4)⟩
theorem Bu.blk {w : World} {F : Nat → Prop} {b mx : Nat} {s : Bs} {p : Nat} (h : Bu w F b mx s p) : ∃ a, w.heap[b]? = some (.cells a 60 (0, 0)) := by
  obtain ⟨V, qs, U, h1, _⟩ := h; exact ⟨_, h1.blk⟩
theorem ptr_other {w : World} {d c : Nat} (hd : ∃ a, w.heap[d]? = some (.cells a 60 (0, 0))) (hc : ∃ a, w.heap[c]? = some (.cells a 60 (0, 0))) (hne : d ≠ c) : (binOp .eql 24 (ptr d) (ptr c)).run Try.prog w = .ok (.bool false) w := by
  obtain ⟨a1, h⟩ := hd
  obtain ⟨a2, h2⟩ := hc
  have hi : (Try.prog.info? 60).map (·.size) = some 4 := by kernel_rfl
  cases hq : Try.prog.info? 60 with
  | none => rw [hq] at hi; cases hi
  | some i =>
    rw [hq] at hi
    have hs : i.size = 4 := by simpa using hi
    exact run_eql_ptr_other w (P := Try.prog) (tp := 24) (te := 60) (j := i) (a := ⟨d, 0, none⟩) (b := ⟨c, 0, none⟩) Try.underlying24 hq (by rw [hs]; decide) (fun e => hne (by injection e)) h h2
set_option maxHeartbeats 4000000 in
set_option maxRecDepth 100000 in
theorem clones_walk (size : Int) (A0 : Option Addr) (l0 : List Ed) (cap0 : Nat) (A1 : Option Addr) (m0 : List Ed) (cap1 : Nat) (w : World) (hE0 : Eds w w.heap.size A0 l0) (hE1 : Eds w w.heap.size A1 m0) : Calls Try.prog 6 #[.int .i64 size, .slice A0 l0.length cap0, .slice A1 m0.length cap1] w fun e w' => e = .returned (.bool true) ∧ Below w.heap.size w w' := by
  have HE0 := Lib.hid hE0
  have HE1 := Lib.hid hE1
  clear hE0 hE1
  have hin := wi_in size 20 (by omega)
  have HWI := Lib.hid (fun W => within_any size 20 (by omega) (by omega) W)
  obtain ⟨q, hq, hq2⟩ : ∃ q : Nat, wi size 20 = q ∧ q < 20 := ⟨(wi size 20).toNat, by omega, by omega⟩
  rw [hq] at HWI
  have HN := Lib.hid (fun W => bnew_bu (4 + q) W (by omega) (by omega))
  have wq : IntKind.i64.wrap ((4 : Int) + (q : Int)) = ((4 + q : Nat) : Int) := (IntWalk.i64_in _ (by omega)).trans (by omega)
  have eq : (4 : Int) + (q : Int) = ((4 + q : Nat) : Int) := by omega
  generalize 4 + q = mx at *
  clear hin hq
  go_enter Try.func6, Try.ntmps6
  go_wp2_with fail
  refine (HWI.out _).mono ?_
  rintro e w1 ⟨rfl, rfl⟩
  go_wp2_with fail
  refine (HN.out _).mono ?_
  rintro e w2 ⟨rfl, hc2, hb2⟩
  have C2 := Lib.hid hc2
  have B2 := Lib.hid hb2
  clear hc2 hb2
  go_wp2_with fail
  have T3 := Lib.hid (tx_new w2)
  have B3 := Lib.hid (alloc_below w2 (.cells #[.int .i64 1048576, str [], .int .i64 0] 30))
  have L3 := Lib.hid (show (w2.alloc (.cells #[.int .i64 1048576, str [], .int .i64 0] 30)).heap.size = w2.heap.size + 1 by simp)
  obtain ⟨w3, hw3⟩ : ∃ W, W = w2.alloc (.cells #[.int .i64 1048576, str [], .int .i64 0] 30) := ⟨_, rfl⟩
  have hw3' : w2.alloc (.cells #[.int .i64 1048576, .string ⟨#[]⟩, .int .i64 0] 30) = w3 := hw3.symm
  rw [← hw3] at T3 B3 L3
  rw [hw3']
  have C3 := Lib.hid (C2.out.on B3.out)
  have BB3 := Lib.hid (bel_trans B2.out B3.out)
  clear hw3 hw3'
  refine (edits_any A0 l0 cap0 20 100 w3 (HE0.out.on BB3.out) (by omega)).mono ?_
  rintro e w4 ⟨v, rfl, hO, hb4⟩
  have hlen := eds_len l0 20 100
  have hsh := eds_short (l := l0) (most := 20) (each := 100)
  generalize eds l0 20 100 = l at hO hlen hsh
  have HSH := Lib.hid hsh
  obtain ⟨A, cap, rfl, hE⟩ := hO.edl
  have E4 := Lib.hid hE
  have B4 := Lib.hid hb4
  have BB4 := Lib.hid (bel_trans BB3.out hb4)
  clear hO hb4 hE hsh
  go_wp2_with fail
  refine (edits_any A1 m0 cap1 40 100 w4 (HE1.out.on BB4.out) (by omega)).mono ?_
  rintro e w5 ⟨v5, rfl, hO5, hb5⟩
  have hlen5 := eds_len m0 40 100
  have hsh5 := eds_short (l := m0) (most := 40) (each := 100)
  generalize eds m0 40 100 = m at hO5 hlen5 hsh5
  have HSM := Lib.hid hsh5
  obtain ⟨A2, cap2, rfl, hE5⟩ := hO5.edl
  have E5 := Lib.hid (show EdL w3.heap.size w5.heap.size w5 A l from E4.out.on (fun k hk => hb5.block k hk) (Nat.le_refl _) hb5.size)
  have M5 := Lib.hid (show EdL w3.heap.size w5.heap.size w5 A2 m from hE5.on (fun _ _ => rfl) B4.out.size (Nat.le_refl _))
  have P5 := Lib.hid (show Pl w w3.heap.size w5.heap.size w5 w.heap.size w2.heap.size mx [] 0 w5 from
    ⟨⟨_, (C3.out.on B4.out).on hb5, fun h => Nat.lt_irrefl _ h.2, fun k hk => hk.1, fun k k1 k2 hk => by have := hk.2; have := L3.out; omega⟩, (T3.out.on B4.out).on hb5, B2.out.size, by have := L3.out; omega, ⟨Nat.le_refl _, fun _ _ _ => rfl⟩, bel_trans BB4.out hb5⟩)
  clear hO5 hb5 hE5 hsh5 C3 T3 BB3 BB4 B4 B3 B2 HE0 HE1 HN HWI C2 L3 E4
  generalize hlo : w3.heap.size = lo at *
  generalize hhi : w5.heap.size = hi at *
  generalize htt : w2.heap.size = t at *
  clear hlo hhi htt
  go_wp2_with fail
  go_loopw [10] (fun t10 wr => ∃ k : Nat, k ≤ l.length ∧ t10 = .int .i64 k ∧ ∃ s p, Pl w lo hi w5 w.heap.size t mx s p wr) (fun t10 _ => l.length - (intOf t10).toNat)
  case atStart => exact ⟨0, by omega, rfl, [], 0, P5.out⟩
  case round =>
    obtain ⟨k, hk, rfl, s, p, hP⟩ := hrel
    have HP := Lib.hid hP
    clear hP
    by_cases hkn : k < l.length
    · have i1 : (k : Int) < (l.length : Int) := by omega
      have i2 : decide (k < l.length) = true := decide_eq_true hkn
      obtain ⟨g, off, rfl, hg1, hg2, hA⟩ := E5.out.at_ HP.out.2.2.2.2.1 hkn
      have hxs := HSH.out l[k] (List.getElem_mem hkn)
      generalize l[k] = x at *
      obtain ⟨xk, xa, xn, xs⟩ := x
      simp only at hxs
      obtain ⟨e0, e1, e2, e3⟩ := hA
      simp only at e0 e1 e2 e3
      go_wp2_with fail
      refine (pl_does HP.out ⟨xk, xa, xn, xs⟩ (by simp only; omega)).mono ?_
      rintro e w6 ⟨rfl, s6, p6, hP6⟩
      have P6 := Lib.hid hP6
      clear hP6 e0 e1 e2 e3 HP
      go_wp2_with fail
      go_roundw
      case rel => exact ⟨k + 1, by omega, by go_num, s6, p6, P6.out⟩
      case measure => simp [intOf]; omega
    · have i2 : decide (k < l.length) = false := decide_eq_false hkn
      have HCL := Lib.hid (show Calls Try.prog 25 #[ptr w.heap.size] wr (Clb mx s p wr) from by
        obtain ⟨F, h1, _⟩ := HP.out.1
        exact bclone_bu h1)
      clear P5 E5
      go_wp2_with fail
      refine HCL.out.mono ?_
      rintro e w6 ⟨d, rfl, hd, hB6, hb6⟩
      have D6 := Lib.hid (HP.out.clone hB6 hb6)
      have hpe := fun o => ptr_other (w := w6.alloc o) (d := d) (c := w.heap.size) (by
        obtain ⟨a, ha⟩ := (hB6.on (alloc_below w6 o)).blk; exact ⟨a, ha⟩) (by
        obtain ⟨F, h1, _⟩ := ((HP.out.on hb6).on (alloc_below w6 o)).1; exact h1.blk) (by
        have : w.heap.size < wr.heap.size := by obtain ⟨F, h1, _⟩ := HP.out.1; exact h1.hF _ h1.fb
        omega)
      obtain ⟨t0, t1, t2, _⟩ := (HP.out.on hb6).2.1.cells
      clear hB6 hb6 hd HCL
      go_wp2_with fail
      refine (d2_same D6.out.swap).mono ?_
      rintro e w7 ⟨rfl, hD7⟩
      have D7 := Lib.hid hD7.swap
      clear hD7 D6 hpe t0 t1 t2
      generalize w6.heap.size = u at *
      go_wp2_with fail
      go_loopw [13] (fun v wq => ∃ j : Nat, j ≤ m.length ∧ v = .int .i64 j ∧ D2 w lo hi w5 mx w.heap.size t d u wq) (fun v _ => m.length - (intOf v).toNat)
      case atStart => exact ⟨0, by omega, rfl, D7.out⟩
      case round =>
        clear D7 HP
        obtain ⟨j, hj, rfl, hD⟩ := hrel
        have HD := Lib.hid hD
        clear hD
        by_cases hjn : j < m.length
        · have i3 : (j : Int) < (m.length : Int) := by omega
          have i4 : decide (j < m.length) = true := decide_eq_true hjn
          obtain ⟨g, off, rfl, hg1, hg2, hA⟩ := M5.out.at_ HD.out.kep hjn
          have hxs := HSM.out m[j] (List.getElem_mem hjn)
          generalize m[j] = x at *
          obtain ⟨xk, xa, xn, xs⟩ := x
          simp only at hxs
          obtain ⟨e0, e1, e2, e3⟩ := hA
          simp only at e0 e1 e2 e3
          by_cases h2 : j % 2 = 0
          · have ht2 : Int.tmod (j : Int) 2 = 0 := by rw [Int.tmod_eq_emod_of_nonneg (by omega)]; omega
            go_wp2_with fail
            refine (d2_does HD.out ⟨xk, xa, xn, xs⟩ (by simp only; omega)).mono ?_
            rintro e v5 ⟨rfl, hD5⟩
            have D5 := Lib.hid hD5
            clear hD5 HD e0 e1 e2 e3
            go_wp2_with fail
            refine (d2_same D5.out).mono ?_
            rintro e v6 ⟨rfl, hD6⟩
            have D6 := Lib.hid hD6
            clear hD6 D5
            go_wp2_with fail
            refine (d2_same D6.out.swap).mono ?_
            rintro e v7 ⟨rfl, hD7⟩
            have D7 := Lib.hid hD7.swap
            clear hD7 D6
            go_wp2_with fail
            go_roundw
            case rel => exact ⟨j + 1, by omega, by go_num, D7.out⟩
            case measure => simp [intOf]; omega
          · have ht2 : Int.tmod (j : Int) 2 = 1 := by rw [Int.tmod_eq_emod_of_nonneg (by omega)]; omega
            go_wp2_with fail
            refine (d2_does HD.out.swap ⟨xk, xa, xn, xs⟩ (by simp only; omega)).mono ?_
            rintro e v5 ⟨rfl, hD5⟩
            have D5 := Lib.hid hD5.swap
            clear hD5 HD e0 e1 e2 e3
            go_wp2_with fail
            refine (d2_same D5.out).mono ?_
            rintro e v6 ⟨rfl, hD6⟩
            have D6 := Lib.hid hD6
            clear hD6 D5
            go_wp2_with fail
            refine (d2_same D6.out.swap).mono ?_
            rintro e v7 ⟨rfl, hD7⟩
            have D7 := Lib.hid hD7.swap
            clear hD7 D6
            go_wp2_with fail
            go_roundw
            case rel => exact ⟨j + 1, by omega, by go_num, D7.out⟩
            case measure => simp [intOf]; omega
        · have i4 : decide (j < m.length) = false := decide_eq_false hjn
          go_wp2_with fail
          refine (wakes_any _).mono ?_
          rintro e v9 ⟨rfl, hb9⟩
          go_wp2_with fail
          go_ret
          exact ⟨rfl, bel_trans HD.out.bel hb9⟩
end Go.Proofs.Ytlobaokeagpefaa
