/-
  BufSizes answers true at every int and every slice of edits.
-/
import Derived.Test.YtlobaokeagpefaaPlays
import Derived.Test.YtlobaokeagpefaaFull
namespace Go.Proofs.Ytlobaokeagpefaa
open Go.RowKit ObGap

/-- A buffer made within the call; the edits as they were. -/
def Sz (w : World) (lo hi : Nat) (w4 : World) (b mx : Nat) (s : Bs) (p : Nat) (wr : World) : Prop :=
  (∃ F, Bu wr F b mx s p ∧ (∀ k, F k → w.heap.size ≤ k) ∧ (∀ k, lo ≤ k → k < hi → ¬ F k)) ∧ Kep lo hi w4 wr ∧ Below w.heap.size w wr
section
variable {w w4 wr w' : World} {lo hi b mx : Nat} {s : Bs} {p : Nat}
theorem Sz.on (h : Sz w lo hi w4 b mx s p wr) (hb : Below wr.heap.size wr w') : Sz w lo hi w4 b mx s p w' := by
  obtain ⟨⟨F, h1, h2, h3⟩, h4, h5⟩ := h
  exact ⟨⟨F, h1.on hb, h2, h3⟩, h4.on hb, bel_trans h5 hb⟩
theorem Sz.edt {F : Nat → Prop} {v : Value} {e : Ending} (h2 : ∀ k, F k → w.heap.size ≤ k) (h3 : ∀ k, lo ≤ k → k < hi → ¬ F k) (h4 : Kep lo hi w4 wr) (h5 : Below w.heap.size w wr) (hd : Edt F b mx s p wr v e w') : Sz w lo hi w4 b mx s p w' := by
  obtain ⟨_, d1, d2⟩ := hd
  have hsz := h5.size
  refine ⟨⟨_, d1, fun k hk => ?_, fun k k1 k2 => not_fn (h3 k k1 k2) (by have := h4.1; omega)⟩, h4.gs d2 h3, h5.trans (d2.below h2 hsz)⟩
  rcases hk with h | h
  · exact h2 k h
  · have := h.1; omega
theorem sz_insert (h : Sz w lo hi w4 b mx s p wr) (i : Int) (x : Bs) (hx : x.length ≤ 2097152) : Calls Try.prog 21 #[ptr b, .int .i64 i, str x] wr fun e w' => (∃ v, e = .returned (.int .i64 v)) ∧ ∃ s p, Sz w lo hi w4 b mx s p w' := by
  obtain ⟨⟨F, h1, h2, h3⟩, h4, h5⟩ := h
  refine (binsert_bu h1 i x hx).mono ?_
  intro e w' he
  exact ⟨⟨_, he.1⟩, _, _, Sz.edt h2 h3 h4 h5 he⟩
theorem sz_delete (h : Sz w lo hi w4 b mx s p wr) (i n : Int) : Calls Try.prog 20 #[ptr b, .int .i64 i, .int .i64 n] wr fun e w' => (∃ v, e = .returned (.int .i64 v)) ∧ ∃ s p, Sz w lo hi w4 b mx s p w' := by
  obtain ⟨⟨F, h1, h2, h3⟩, h4, h5⟩ := h
  refine (bdelete_bu h1 i n).mono ?_
  intro e w' he
  exact ⟨⟨_, he.1⟩, _, _, Sz.edt h2 h3 h4 h5 he⟩
theorem sz_len (h : Sz w lo hi w4 b mx s p wr) : Calls Try.prog 19 #[ptr b] wr fun e w' => e = .returned (.int .i64 (s.length : Int)) ∧ wr = w' := by
  obtain ⟨⟨F, h1, _⟩, _⟩ := h
  exact blen_bu h1
theorem sz_text (h : Sz w lo hi w4 b mx s p wr) : Calls Try.prog 23 #[ptr b] wr fun e w' => e = .returned (str s) ∧ Below wr.heap.size wr w' := by
  obtain ⟨⟨F, h1, _⟩, _⟩ := h
  exact btext_bu h1
theorem sz_sizes (h : Sz w lo hi w4 b mx s p wr) : Calls Try.prog 22 #[ptr b] wr (Siz mx s wr) := by
  obtain ⟨⟨F, h1, _⟩, _⟩ := h
  exact bsizes_bu h1
theorem Sz.len (h : Sz w lo hi w4 b mx s p wr) : s.length ≤ 1048576 := by
  obtain ⟨⟨F, h1, _⟩, _⟩ := h
  exact h1.lens.1
end
theorem adj_at {m : Nat} : ∀ {T : List Bs}, Adj m T → ∀ (j : Nat) (h : j + 1 < T.length), m < 2 * (T[j].length + T[j + 1].length)
  | a :: b :: r, h, 0, _ => h.1
  | a :: b :: r, h, j + 1, hj => adj_at (T := b :: r) h.2 j (by simpa using hj)
set_option maxHeartbeats 4000000 in
set_option maxRecDepth 100000 in
theorem sizes_walk (size : Int) (A0 : Option Addr) (l0 : List Ed) (cap0 : Nat) (w : World) (hE0 : Eds w w.heap.size A0 l0) : Calls Try.prog 4 #[.int .i64 size, .slice A0 l0.length cap0] w fun e w' => e = .returned (.bool true) ∧ Below w.heap.size w w' := by
  have HE0 := Lib.hid hE0
  clear hE0
  have hin := wi_in size 30 (by omega)
  have HWI := Lib.hid (fun W => within_any size 30 (by omega) (by omega) W)
  obtain ⟨q, hq, hq2⟩ : ∃ q : Nat, wi size 30 = q ∧ q < 30 := ⟨(wi size 30).toNat, by omega, by omega⟩
  rw [hq] at HWI
  have HN := Lib.hid (fun W => bnew_bu (4 + q) W (by omega) (by omega))
  have wq : IntKind.i64.wrap ((4 : Int) + (q : Int)) = ((4 + q : Nat) : Int) := (IntWalk.i64_in _ (by omega)).trans (by omega)
  have eq : (4 : Int) + (q : Int) = ((4 + q : Nat) : Int) := by omega
  have hmx : 4 + q ≤ 4096 := by omega
  generalize 4 + q = mx at *
  clear hin hq hq2
  go_enter Try.func4, Try.ntmps4
  go_wp2_with fail
  refine (HWI.out _).mono ?_
  rintro e w1 ⟨rfl, rfl⟩
  go_wp2_with fail
  refine (HN.out _).mono ?_
  rintro e w2 ⟨rfl, hc2, hb2⟩
  have C2 := Lib.hid hc2
  have B2 := Lib.hid hb2
  clear hc2 hb2
  go_wp2_with fail
  refine (edits_any A0 l0 cap0 60 300 w2 (HE0.out.on B2.out) (by omega)).mono ?_
  rintro e w4 ⟨v, rfl, hO, hb4⟩
  have hlen := eds_len l0 60 300
  have hsh := eds_short (l := l0) (most := 60) (each := 300)
  generalize eds l0 60 300 = l at hO hlen hsh
  have HSH := Lib.hid hsh
  obtain ⟨A, cap, rfl, hE⟩ := hO.edl
  have E4 := Lib.hid hE
  have P4 := Lib.hid (show Sz w w2.heap.size w4.heap.size w4 w.heap.size mx [] 0 w4 from
    ⟨⟨_, C2.out.on hb4, fun k hk => hk.1, fun k k1 k2 hk => by have := hk.2; omega⟩, ⟨Nat.le_refl _, fun _ _ _ => rfl⟩, bel_trans B2.out hb4⟩)
  clear hO hb4 hE B2 HE0 HN C2 hsh HWI
  generalize hlo : w2.heap.size = lo at *
  generalize hhi : w4.heap.size = hi at *
  clear hlo hhi
  go_wp2_with fail
  go_loopw [7] (fun t7 wr => ∃ k : Nat, k ≤ l.length ∧ t7 = .int .i64 k ∧ ∃ s p, Sz w lo hi w4 w.heap.size mx s p wr) (fun t7 _ => l.length - (intOf t7).toNat)
  case atStart => exact ⟨0, by omega, rfl, [], 0, P4.out⟩
  case round =>
    obtain ⟨k, hk, rfl, s, p, hP⟩ := hrel
    have HP := Lib.hid hP
    clear hP
    by_cases hkn : k < l.length
    · have i1 : (k : Int) < (l.length : Int) := by omega
      have i2 : decide (k < l.length) = true := decide_eq_true hkn
      obtain ⟨g, off, rfl, hg1, hg2, hA⟩ := E4.out.at_ HP.out.2.1 hkn
      have hxs := HSH.out l[k] (List.getElem_mem hkn)
      generalize l[k] = x at *
      obtain ⟨xk, xa, xn, xs⟩ := x
      simp only at hxs
      obtain ⟨e0, e1, e2, e3⟩ := hA
      simp only at e0 e1 e2 e3
      have X1 := Lib.hid (boxed wr xk xa xn xs)
      have PX := Lib.hid (HP.out.on (alloc_below wr (.cells #[.int .i64 xk, .int .i64 xa, .int .i64 xn, str xs] 34)))
      have BX := Lib.hid (alloc_below wr (.cells #[.int .i64 xk, .int .i64 xa, .int .i64 xn, str xs] 34))
      obtain ⟨W, hW⟩ : ∃ W, W = wr.alloc (.cells #[.int .i64 xk, .int .i64 xa, .int .i64 xn, str xs] 34) := ⟨_, rfl⟩
      have LW := Lib.hid (show W.heap.size = wr.heap.size + 1 by rw [hW]; simp)
      have HWE := Lib.hid hW.symm
      have hW4 : W.heap[wr.heap.size]? = some (.cells #[.int .i64 xk, .int .i64 xa, .int .i64 xn, str xs] 34 (0, 0)) := by rw [hW]; exact heap_new _ _
      have HW4 := Lib.hid hW4
      rw [← hW] at X1 PX BX
      clear hW hW4
      by_cases hev : Int.tmod xn 2 = 0
      · have hsl := HP.out.len
        obtain ⟨n1, hn1⟩ : ∃ n1, n1 = s.length + 1 := ⟨_, rfl⟩
        have HWN := Lib.hid (fun W => within_big xa n1 (by omega) (by omega) W)
        have wl : IntKind.i64.wrap ((s.length : Int) + 1) = (n1 : Int) := (IntWalk.i64_in _ (by omega)).trans (by omega)
        have el : (s.length : Int) + 1 = (n1 : Int) := by omega
        have wl2 : IntKind.i64.wrap (n1 : Int) = (n1 : Int) := IntWalk.i64_in _ (by omega)
        clear hn1
        obtain ⟨a', ha'⟩ : ∃ a', a' = wi xa n1 := ⟨_, rfl⟩
        rw [← ha'] at HWN
        clear ha'
        go_wp2_with fail
        rw [HWE.out]
        obtain ⟨b0, b1, b2, b3⟩ := X1.out
        simp only [Nat.zero_add] at b0 b1 b2 b3
        have bf : W.frozen? ⟨wr.heap.size, 1, none⟩ = false := row_frozen (c := #[.int .i64 xk, .int .i64 xa, .int .i64 xn, str xs]) HW4.out 1
        go_region_with (first
          | (go_at_call 19; refine (sz_len (PX.out.on (Below.refl _ W).drew)).mono ?_; rintro e w3' ⟨rfl, rfl⟩)
          | (go_at_call 18; refine (HWN.out _).mono ?_; rintro e w4' ⟨rfl, rfl⟩))
        all_goals (
          have PY := Lib.hid (show Sz w lo hi w4 w.heap.size mx s p (W.setCell ⟨wr.heap.size, 1, none⟩ (.int .i64 a')).drew from HP.out.on (BX.out.setCell (p := ⟨wr.heap.size, 1, none⟩) (Nat.le_refl _) _).drew)
          have hXY : EdAt (W.setCell ⟨wr.heap.size, 1, none⟩ (.int .i64 a')).drew wr.heap.size 0 ⟨xk, a', xn, xs⟩ := by
            have h : (W.setCell ⟨wr.heap.size, 1, none⟩ (.int .i64 a')).drew.heap[wr.heap.size]? = _ := heap_set (w := W) 1 (.int .i64 a') HW4.out
            refine ⟨?_, ?_, ?_, ?_⟩ <;> (simp only [World.cell?, h]; rfl)
          generalize (W.setCell ⟨wr.heap.size, 1, none⟩ (.int .i64 a')).drew = W1 at *
          clear b0 b1 b2 b3 bf PX X1 HP HW4 LW HWE BX e0 e1 e2 e3 hsl wl el wl2 HWN
          have hk3 := wi3 xk
          have HW3 := Lib.hid (fun W => within_any xk 3 (by omega) (by omega) W)
          by_cases hkk : wi xk 3 = 1
          · rw [hkk] at HW3
            obtain ⟨b0, b1, b2, b3⟩ := hXY
            simp only [Nat.zero_add] at b0 b1 b2 b3
            go_wp2_with fail
            refine (HW3.out _).mono ?_
            rintro e w5 ⟨rfl, rfl⟩
            go_wp2_with fail
            refine (sz_delete PY.out a' xn).mono ?_
            rintro e w6 ⟨⟨v6, rfl⟩, s6, p6, hP6⟩
            clear b0 b1 b2 b3
            have P6 := Lib.hid hP6
            clear hP6
            go_wp2_with fail
            refine (sz_sizes P6.out).mono ?_
            rintro e w7 ⟨gn, T, rfl, _, hOT, hSN, hTF, hTl, hb7⟩
            have P7 := Lib.hid (P6.out.on hb7)
            have HOT := Lib.hid hOT
            have HSN := Lib.hid hSN
            have hTlen : T.flatten.length ≤ 1048576 := by rw [hTF]; exact P6.out.len
            have HTF := Lib.hid hTF
            clear hb7 P6 hOT hSN hTF
            go_wp2_with fail
            go_loopw [9, 11] (fun s9 s11 wi' => ∃ j : Nat, j ≤ T.length ∧ s11 = .int .i64 (j : Int) ∧ s9 = .int .i64 ((st T j : Nat) : Int) ∧ Below w7.heap.size w7 wi') (fun _ s11 _ => T.length - (intOf s11).toNat)
            case atStart => exact ⟨0, Nat.zero_le _, rfl, by rw [st_zero]; rfl, Below.refl _ _⟩
            case round =>
              obtain ⟨j, hj, rfl, rfl, hbw⟩ := hrel
              have HBW := Lib.hid hbw
              have hstl := st_le T j
              by_cases hjn : j < T.length
              · have j1 : (j : Int) < (T.length : Int) := by omega
                have j2 : decide (j < T.length) = true := decide_eq_true hjn
                have hc0 : ∀ i (hi : i < T.length), wr.cell? ⟨gn, i, none⟩ = some (.int .i64 (T[i].length : Int)) := fun i hi => by
                  have h0 := HOT.out.cells (g := gn) rfl i (.int .i64 (T[i].length : Int)) (by simp [hi])
                  rw [add_at, Nat.zero_add] at h0
                  exact (hbw.cell (HOT.out.lt gn rfl).2).trans h0
                have c1 := hc0 j hjn
                have hb1 := HSN.out.1 T[j] (List.getElem_mem hjn)
                have hs1 := st_succ hjn
                have hs2 := st_le T (j + 1)
                have HS1 := Lib.hid (show ((st T (j + 1) : Nat) : Int) = (st T j : Int) + (T[j].length : Int) by rw [hs1]; simp)
                have HADJ := Lib.hid (fun (i : Nat) (hi : i + 1 < T.length) => adj_at HSN.out.2 i hi)
                obtain ⟨tl, htl⟩ : ∃ tl, tl = T[j].length := ⟨_, rfl⟩
                rw [← htl] at c1 hb1 HS1 hs1
                have q1 : decide ((tl : Int) < 1) = false := decide_eq_false (by omega)
                have q1' : decide (tl < 1) = false := decide_eq_false (by omega)
                have q2 : decide (mx < tl) = false := decide_eq_false (by omega)
                have q2' : decide ((mx : Int) < (tl : Int)) = false := decide_eq_false (by omega)
                generalize hsj : st T j = sj at *
                have w1 : IntKind.i64.wrap ((sj : Int) + (tl : Int)) = (sj : Int) + (tl : Int) := IntWalk.i64_in _ (by omega)
                rcases Nat.eq_zero_or_pos j with h0 | h0
                · have p1 : decide (0 < j) = false := decide_eq_false (by omega)
                  clear hbw hstl hs1 hs2 hc0 htl h0
                  go_wp2_with fail
                  go_quiet (fail)
                  go_wp2_with fail
                  go_roundw
                  case rel => exact ⟨j + 1, by omega, by go_num, by rw [HS1.out], below_drews HBW.out _⟩
                  case measure => simp [intOf]; omega
                · obtain ⟨i, rfl⟩ : ∃ i, j = i + 1 := ⟨j - 1, by omega⟩
                  have c2 := hc0 i (by omega)
                  have hb2 := HSN.out.1 T[i] (List.getElem_mem (by omega))
                  have hadj := HADJ.out i hjn
                  rw [← htl] at hadj
                  obtain ⟨ti, hti⟩ : ∃ ti, ti = T[i].length := ⟨_, rfl⟩
                  rw [← hti] at c2 hb2 hadj
                  have p1 : decide (0 < i + 1) = true := decide_eq_true (by omega)
                  have p2 : ((i + 1 : Nat) : Int) - 1 = (i : Int) := by omega
                  have p3 : IntKind.i64.wrap (((i + 1 : Nat) : Int) - 1) = (i : Int) := (IntWalk.i64_in _ (by omega)).trans (by omega)
                  have p3' : IntKind.i64.wrap ((i : Int) + 1 - 1) = (i : Int) := (IntWalk.i64_in _ (by omega)).trans (by omega)
                  have p3'' : (i : Int) + 1 - 1 = (i : Int) := by omega
                  have p32 : IntKind.i64.wrap (i : Int) = (i : Int) := IntWalk.i64_in _ (by omega)
                  have p4 : (i : Int) < (T.length : Int) := by omega
                  have p5 : IntKind.i64.wrap ((ti : Int) + (tl : Int)) = (ti : Int) + (tl : Int) := IntWalk.i64_in _ (by omega)
                  have p6 : IntKind.i64.wrap (2 * ((ti : Int) + (tl : Int))) = 2 * ((ti : Int) + (tl : Int)) := IntWalk.i64_in _ (by omega)
                  have p7 : decide (2 * ((ti : Int) + (tl : Int)) ≤ (mx : Int)) = false := decide_eq_false (by omega)
                  have p8 : (0 : Int) < ((i + 1 : Nat) : Int) := by omega
                  clear hbw hstl hs1 hs2 hti htl hc0
                  go_wp2_with fail
                  go_quiet (fail)
                  go_wp2_with fail
                  go_roundw
                  case rel => exact ⟨i + 1 + 1, by omega, by go_num, by rw [HS1.out], below_drews HBW.out _⟩
                  case measure => simp [intOf]; omega
              · obtain rfl : j = T.length := by omega
                have j2 : decide (T.length < T.length) = false := decide_eq_false (by omega)
                have HE := Lib.hid (show st T T.length = s6.length by rw [st_all, HTF.out])
                rw [HE.out]
                have P8 := Lib.hid (P7.out.on HBW.out)
                clear hbw hstl
                go_wp2_with fail
                refine (sz_len P8.out).mono ?_
                rintro e w8 ⟨rfl, rfl⟩
                go_wp2_with fail
                refine (sz_text P8.out).mono ?_
                rintro e w9 ⟨rfl, hb9⟩
                have P9 := Lib.hid (P8.out.on hb9)
                clear hb9 P8
                go_wp2_with fail
                go_roundw
                case rel => exact ⟨k + 1, by omega, by go_num, s6, p6, P9.out⟩
                case measure => simp [intOf]; omega
          · have hk0 : decide (wi xk 3 = 1) = false := decide_eq_false hkk
            have hk0' : (wi xk 3 == 1) = false := by simpa using hkk
            obtain ⟨b0, b1, b2, b3⟩ := hXY
            simp only [Nat.zero_add] at b0 b1 b2 b3
            generalize wi xk 3 = kk at *
            go_wp2_with fail
            refine (HW3.out _).mono ?_
            rintro e w5 ⟨rfl, rfl⟩
            go_wp2_with fail
            refine (sz_insert PY.out a' xs (by omega)).mono ?_
            rintro e w6 ⟨⟨v6, rfl⟩, s6, p6, hP6⟩
            clear b0 b1 b2 b3
            have P6 := Lib.hid hP6
            clear hP6
            go_wp2_with fail
            refine (sz_sizes P6.out).mono ?_
            rintro e w7 ⟨gn, T, rfl, _, hOT, hSN, hTF, hTl, hb7⟩
            have P7 := Lib.hid (P6.out.on hb7)
            have HOT := Lib.hid hOT
            have HSN := Lib.hid hSN
            have hTlen : T.flatten.length ≤ 1048576 := by rw [hTF]; exact P6.out.len
            have HTF := Lib.hid hTF
            clear hb7 P6 hOT hSN hTF
            go_wp2_with fail
            go_loopw [9, 11] (fun s9 s11 wi' => ∃ j : Nat, j ≤ T.length ∧ s11 = .int .i64 (j : Int) ∧ s9 = .int .i64 ((st T j : Nat) : Int) ∧ Below w7.heap.size w7 wi') (fun _ s11 _ => T.length - (intOf s11).toNat)
            case atStart => exact ⟨0, Nat.zero_le _, rfl, by rw [st_zero]; rfl, Below.refl _ _⟩
            case round =>
              obtain ⟨j, hj, rfl, rfl, hbw⟩ := hrel
              have HBW := Lib.hid hbw
              have hstl := st_le T j
              by_cases hjn : j < T.length
              · have j1 : (j : Int) < (T.length : Int) := by omega
                have j2 : decide (j < T.length) = true := decide_eq_true hjn
                have hc0 : ∀ i (hi : i < T.length), wr.cell? ⟨gn, i, none⟩ = some (.int .i64 (T[i].length : Int)) := fun i hi => by
                  have h0 := HOT.out.cells (g := gn) rfl i (.int .i64 (T[i].length : Int)) (by simp [hi])
                  rw [add_at, Nat.zero_add] at h0
                  exact (hbw.cell (HOT.out.lt gn rfl).2).trans h0
                have c1 := hc0 j hjn
                have hb1 := HSN.out.1 T[j] (List.getElem_mem hjn)
                have hs1 := st_succ hjn
                have hs2 := st_le T (j + 1)
                have HS1 := Lib.hid (show ((st T (j + 1) : Nat) : Int) = (st T j : Int) + (T[j].length : Int) by rw [hs1]; simp)
                have HADJ := Lib.hid (fun (i : Nat) (hi : i + 1 < T.length) => adj_at HSN.out.2 i hi)
                obtain ⟨tl, htl⟩ : ∃ tl, tl = T[j].length := ⟨_, rfl⟩
                rw [← htl] at c1 hb1 HS1 hs1
                have q1 : decide ((tl : Int) < 1) = false := decide_eq_false (by omega)
                have q1' : decide (tl < 1) = false := decide_eq_false (by omega)
                have q2 : decide (mx < tl) = false := decide_eq_false (by omega)
                have q2' : decide ((mx : Int) < (tl : Int)) = false := decide_eq_false (by omega)
                generalize hsj : st T j = sj at *
                have w1 : IntKind.i64.wrap ((sj : Int) + (tl : Int)) = (sj : Int) + (tl : Int) := IntWalk.i64_in _ (by omega)
                rcases Nat.eq_zero_or_pos j with h0 | h0
                · have p1 : decide (0 < j) = false := decide_eq_false (by omega)
                  clear hbw hstl hs1 hs2 hc0 htl h0
                  go_wp2_with fail
                  go_quiet (fail)
                  go_wp2_with fail
                  go_roundw
                  case rel => exact ⟨j + 1, by omega, by go_num, by rw [HS1.out], below_drews HBW.out _⟩
                  case measure => simp [intOf]; omega
                · obtain ⟨i, rfl⟩ : ∃ i, j = i + 1 := ⟨j - 1, by omega⟩
                  have c2 := hc0 i (by omega)
                  have hb2 := HSN.out.1 T[i] (List.getElem_mem (by omega))
                  have hadj := HADJ.out i hjn
                  rw [← htl] at hadj
                  obtain ⟨ti, hti⟩ : ∃ ti, ti = T[i].length := ⟨_, rfl⟩
                  rw [← hti] at c2 hb2 hadj
                  have p1 : decide (0 < i + 1) = true := decide_eq_true (by omega)
                  have p2 : ((i + 1 : Nat) : Int) - 1 = (i : Int) := by omega
                  have p3 : IntKind.i64.wrap (((i + 1 : Nat) : Int) - 1) = (i : Int) := (IntWalk.i64_in _ (by omega)).trans (by omega)
                  have p3' : IntKind.i64.wrap ((i : Int) + 1 - 1) = (i : Int) := (IntWalk.i64_in _ (by omega)).trans (by omega)
                  have p3'' : (i : Int) + 1 - 1 = (i : Int) := by omega
                  have p32 : IntKind.i64.wrap (i : Int) = (i : Int) := IntWalk.i64_in _ (by omega)
                  have p4 : (i : Int) < (T.length : Int) := by omega
                  have p5 : IntKind.i64.wrap ((ti : Int) + (tl : Int)) = (ti : Int) + (tl : Int) := IntWalk.i64_in _ (by omega)
                  have p6 : IntKind.i64.wrap (2 * ((ti : Int) + (tl : Int))) = 2 * ((ti : Int) + (tl : Int)) := IntWalk.i64_in _ (by omega)
                  have p7 : decide (2 * ((ti : Int) + (tl : Int)) ≤ (mx : Int)) = false := decide_eq_false (by omega)
                  have p8 : (0 : Int) < ((i + 1 : Nat) : Int) := by omega
                  clear hbw hstl hs1 hs2 hti htl hc0
                  go_wp2_with fail
                  go_quiet (fail)
                  go_wp2_with fail
                  go_roundw
                  case rel => exact ⟨i + 1 + 1, by omega, by go_num, by rw [HS1.out], below_drews HBW.out _⟩
                  case measure => simp [intOf]; omega
              · obtain rfl : j = T.length := by omega
                have j2 : decide (T.length < T.length) = false := decide_eq_false (by omega)
                have HE := Lib.hid (show st T T.length = s6.length by rw [st_all, HTF.out])
                rw [HE.out]
                have P8 := Lib.hid (P7.out.on HBW.out)
                clear hbw hstl
                go_wp2_with fail
                refine (sz_len P8.out).mono ?_
                rintro e w8 ⟨rfl, rfl⟩
                go_wp2_with fail
                refine (sz_text P8.out).mono ?_
                rintro e w9 ⟨rfl, hb9⟩
                have P9 := Lib.hid (P8.out.on hb9)
                clear hb9 P8
                go_wp2_with fail
                go_roundw
                case rel => exact ⟨k + 1, by omega, by go_num, s6, p6, P9.out⟩
                case measure => simp [intOf]; omega)
      · have hev2 : decide (Int.tmod xn 2 = 0) = false := decide_eq_false hev
        have hev3 : (Int.tmod xn 2 == 0) = false := by simpa using hev
        have hk3 := wi3 xk
        have HW3 := Lib.hid (fun W => within_any xk 3 (by omega) (by omega) W)
        by_cases hkk : wi xk 3 = 1
        · rw [hkk] at HW3
          obtain ⟨b0, b1, b2, b3⟩ := X1.out
          simp only [Nat.zero_add] at b0 b1 b2 b3
          go_wp2_with fail
          rw [HWE.out]
          refine (HW3.out _).mono ?_
          rintro e w5 ⟨rfl, rfl⟩
          go_wp2_with fail
          refine (sz_delete PX.out xa xn).mono ?_
          rintro e w6 ⟨⟨v6, rfl⟩, s6, p6, hP6⟩
          clear b0 b1 b2 b3
          have P6 := Lib.hid hP6
          clear hP6
          go_wp2_with fail
          refine (sz_sizes P6.out).mono ?_
          rintro e w7 ⟨gn, T, rfl, _, hOT, hSN, hTF, hTl, hb7⟩
          have P7 := Lib.hid (P6.out.on hb7)
          have HOT := Lib.hid hOT
          have HSN := Lib.hid hSN
          have hTlen : T.flatten.length ≤ 1048576 := by rw [hTF]; exact P6.out.len
          have HTF := Lib.hid hTF
          clear hb7 P6 hOT hSN hTF
          go_wp2_with fail
          go_loopw [9, 11] (fun s9 s11 wi' => ∃ j : Nat, j ≤ T.length ∧ s11 = .int .i64 (j : Int) ∧ s9 = .int .i64 ((st T j : Nat) : Int) ∧ Below w7.heap.size w7 wi') (fun _ s11 _ => T.length - (intOf s11).toNat)
          case atStart => exact ⟨0, Nat.zero_le _, rfl, by rw [st_zero]; rfl, Below.refl _ _⟩
          case round =>
            obtain ⟨j, hj, rfl, rfl, hbw⟩ := hrel
            have HBW := Lib.hid hbw
            have hstl := st_le T j
            by_cases hjn : j < T.length
            · have j1 : (j : Int) < (T.length : Int) := by omega
              have j2 : decide (j < T.length) = true := decide_eq_true hjn
              have hc0 : ∀ i (hi : i < T.length), wr.cell? ⟨gn, i, none⟩ = some (.int .i64 (T[i].length : Int)) := fun i hi => by
                have h0 := HOT.out.cells (g := gn) rfl i (.int .i64 (T[i].length : Int)) (by simp [hi])
                rw [add_at, Nat.zero_add] at h0
                exact (hbw.cell (HOT.out.lt gn rfl).2).trans h0
              have c1 := hc0 j hjn
              have hb1 := HSN.out.1 T[j] (List.getElem_mem hjn)
              have hs1 := st_succ hjn
              have hs2 := st_le T (j + 1)
              have HS1 := Lib.hid (show ((st T (j + 1) : Nat) : Int) = (st T j : Int) + (T[j].length : Int) by rw [hs1]; simp)
              have HADJ := Lib.hid (fun (i : Nat) (hi : i + 1 < T.length) => adj_at HSN.out.2 i hi)
              obtain ⟨tl, htl⟩ : ∃ tl, tl = T[j].length := ⟨_, rfl⟩
              rw [← htl] at c1 hb1 HS1 hs1
              have q1 : decide ((tl : Int) < 1) = false := decide_eq_false (by omega)
              have q1' : decide (tl < 1) = false := decide_eq_false (by omega)
              have q2 : decide (mx < tl) = false := decide_eq_false (by omega)
              have q2' : decide ((mx : Int) < (tl : Int)) = false := decide_eq_false (by omega)
              generalize hsj : st T j = sj at *
              have w1 : IntKind.i64.wrap ((sj : Int) + (tl : Int)) = (sj : Int) + (tl : Int) := IntWalk.i64_in _ (by omega)
              rcases Nat.eq_zero_or_pos j with h0 | h0
              · have p1 : decide (0 < j) = false := decide_eq_false (by omega)
                clear hbw hstl hs1 hs2 hc0 htl h0
                go_wp2_with fail
                go_quiet (fail)
                go_wp2_with fail
                go_roundw
                case rel => exact ⟨j + 1, by omega, by go_num, by rw [HS1.out], below_drews HBW.out _⟩
                case measure => simp [intOf]; omega
              · obtain ⟨i, rfl⟩ : ∃ i, j = i + 1 := ⟨j - 1, by omega⟩
                have c2 := hc0 i (by omega)
                have hb2 := HSN.out.1 T[i] (List.getElem_mem (by omega))
                have hadj := HADJ.out i hjn
                rw [← htl] at hadj
                obtain ⟨ti, hti⟩ : ∃ ti, ti = T[i].length := ⟨_, rfl⟩
                rw [← hti] at c2 hb2 hadj
                have p1 : decide (0 < i + 1) = true := decide_eq_true (by omega)
                have p2 : ((i + 1 : Nat) : Int) - 1 = (i : Int) := by omega
                have p3 : IntKind.i64.wrap (((i + 1 : Nat) : Int) - 1) = (i : Int) := (IntWalk.i64_in _ (by omega)).trans (by omega)
                have p3' : IntKind.i64.wrap ((i : Int) + 1 - 1) = (i : Int) := (IntWalk.i64_in _ (by omega)).trans (by omega)
                have p3'' : (i : Int) + 1 - 1 = (i : Int) := by omega
                have p32 : IntKind.i64.wrap (i : Int) = (i : Int) := IntWalk.i64_in _ (by omega)
                have p4 : (i : Int) < (T.length : Int) := by omega
                have p5 : IntKind.i64.wrap ((ti : Int) + (tl : Int)) = (ti : Int) + (tl : Int) := IntWalk.i64_in _ (by omega)
                have p6 : IntKind.i64.wrap (2 * ((ti : Int) + (tl : Int))) = 2 * ((ti : Int) + (tl : Int)) := IntWalk.i64_in _ (by omega)
                have p7 : decide (2 * ((ti : Int) + (tl : Int)) ≤ (mx : Int)) = false := decide_eq_false (by omega)
                have p8 : (0 : Int) < ((i + 1 : Nat) : Int) := by omega
                clear hbw hstl hs1 hs2 hti htl hc0
                go_wp2_with fail
                go_quiet (fail)
                go_wp2_with fail
                go_roundw
                case rel => exact ⟨i + 1 + 1, by omega, by go_num, by rw [HS1.out], below_drews HBW.out _⟩
                case measure => simp [intOf]; omega
            · obtain rfl : j = T.length := by omega
              have j2 : decide (T.length < T.length) = false := decide_eq_false (by omega)
              have HE := Lib.hid (show st T T.length = s6.length by rw [st_all, HTF.out])
              rw [HE.out]
              have P8 := Lib.hid (P7.out.on HBW.out)
              clear hbw hstl
              go_wp2_with fail
              refine (sz_len P8.out).mono ?_
              rintro e w8 ⟨rfl, rfl⟩
              go_wp2_with fail
              refine (sz_text P8.out).mono ?_
              rintro e w9 ⟨rfl, hb9⟩
              have P9 := Lib.hid (P8.out.on hb9)
              clear hb9 P8
              go_wp2_with fail
              go_roundw
              case rel => exact ⟨k + 1, by omega, by go_num, s6, p6, P9.out⟩
              case measure => simp [intOf]; omega
        · have hk0 : decide (wi xk 3 = 1) = false := decide_eq_false hkk
          have hk0' : (wi xk 3 == 1) = false := by simpa using hkk
          obtain ⟨b0, b1, b2, b3⟩ := X1.out
          simp only [Nat.zero_add] at b0 b1 b2 b3
          generalize wi xk 3 = kk at *
          go_wp2_with fail
          rw [HWE.out]
          refine (HW3.out _).mono ?_
          rintro e w5 ⟨rfl, rfl⟩
          go_wp2_with fail
          refine (sz_insert PX.out xa xs (by omega)).mono ?_
          rintro e w6 ⟨⟨v6, rfl⟩, s6, p6, hP6⟩
          clear b0 b1 b2 b3
          have P6 := Lib.hid hP6
          clear hP6
          go_wp2_with fail
          refine (sz_sizes P6.out).mono ?_
          rintro e w7 ⟨gn, T, rfl, _, hOT, hSN, hTF, hTl, hb7⟩
          have P7 := Lib.hid (P6.out.on hb7)
          have HOT := Lib.hid hOT
          have HSN := Lib.hid hSN
          have hTlen : T.flatten.length ≤ 1048576 := by rw [hTF]; exact P6.out.len
          have HTF := Lib.hid hTF
          clear hb7 P6 hOT hSN hTF
          go_wp2_with fail
          go_loopw [9, 11] (fun s9 s11 wi' => ∃ j : Nat, j ≤ T.length ∧ s11 = .int .i64 (j : Int) ∧ s9 = .int .i64 ((st T j : Nat) : Int) ∧ Below w7.heap.size w7 wi') (fun _ s11 _ => T.length - (intOf s11).toNat)
          case atStart => exact ⟨0, Nat.zero_le _, rfl, by rw [st_zero]; rfl, Below.refl _ _⟩
          case round =>
            obtain ⟨j, hj, rfl, rfl, hbw⟩ := hrel
            have HBW := Lib.hid hbw
            have hstl := st_le T j
            by_cases hjn : j < T.length
            · have j1 : (j : Int) < (T.length : Int) := by omega
              have j2 : decide (j < T.length) = true := decide_eq_true hjn
              have hc0 : ∀ i (hi : i < T.length), wr.cell? ⟨gn, i, none⟩ = some (.int .i64 (T[i].length : Int)) := fun i hi => by
                have h0 := HOT.out.cells (g := gn) rfl i (.int .i64 (T[i].length : Int)) (by simp [hi])
                rw [add_at, Nat.zero_add] at h0
                exact (hbw.cell (HOT.out.lt gn rfl).2).trans h0
              have c1 := hc0 j hjn
              have hb1 := HSN.out.1 T[j] (List.getElem_mem hjn)
              have hs1 := st_succ hjn
              have hs2 := st_le T (j + 1)
              have HS1 := Lib.hid (show ((st T (j + 1) : Nat) : Int) = (st T j : Int) + (T[j].length : Int) by rw [hs1]; simp)
              have HADJ := Lib.hid (fun (i : Nat) (hi : i + 1 < T.length) => adj_at HSN.out.2 i hi)
              obtain ⟨tl, htl⟩ : ∃ tl, tl = T[j].length := ⟨_, rfl⟩
              rw [← htl] at c1 hb1 HS1 hs1
              have q1 : decide ((tl : Int) < 1) = false := decide_eq_false (by omega)
              have q1' : decide (tl < 1) = false := decide_eq_false (by omega)
              have q2 : decide (mx < tl) = false := decide_eq_false (by omega)
              have q2' : decide ((mx : Int) < (tl : Int)) = false := decide_eq_false (by omega)
              generalize hsj : st T j = sj at *
              have w1 : IntKind.i64.wrap ((sj : Int) + (tl : Int)) = (sj : Int) + (tl : Int) := IntWalk.i64_in _ (by omega)
              rcases Nat.eq_zero_or_pos j with h0 | h0
              · have p1 : decide (0 < j) = false := decide_eq_false (by omega)
                clear hbw hstl hs1 hs2 hc0 htl h0
                go_wp2_with fail
                go_quiet (fail)
                go_wp2_with fail
                go_roundw
                case rel => exact ⟨j + 1, by omega, by go_num, by rw [HS1.out], below_drews HBW.out _⟩
                case measure => simp [intOf]; omega
              · obtain ⟨i, rfl⟩ : ∃ i, j = i + 1 := ⟨j - 1, by omega⟩
                have c2 := hc0 i (by omega)
                have hb2 := HSN.out.1 T[i] (List.getElem_mem (by omega))
                have hadj := HADJ.out i hjn
                rw [← htl] at hadj
                obtain ⟨ti, hti⟩ : ∃ ti, ti = T[i].length := ⟨_, rfl⟩
                rw [← hti] at c2 hb2 hadj
                have p1 : decide (0 < i + 1) = true := decide_eq_true (by omega)
                have p2 : ((i + 1 : Nat) : Int) - 1 = (i : Int) := by omega
                have p3 : IntKind.i64.wrap (((i + 1 : Nat) : Int) - 1) = (i : Int) := (IntWalk.i64_in _ (by omega)).trans (by omega)
                have p3' : IntKind.i64.wrap ((i : Int) + 1 - 1) = (i : Int) := (IntWalk.i64_in _ (by omega)).trans (by omega)
                have p3'' : (i : Int) + 1 - 1 = (i : Int) := by omega
                have p32 : IntKind.i64.wrap (i : Int) = (i : Int) := IntWalk.i64_in _ (by omega)
                have p4 : (i : Int) < (T.length : Int) := by omega
                have p5 : IntKind.i64.wrap ((ti : Int) + (tl : Int)) = (ti : Int) + (tl : Int) := IntWalk.i64_in _ (by omega)
                have p6 : IntKind.i64.wrap (2 * ((ti : Int) + (tl : Int))) = 2 * ((ti : Int) + (tl : Int)) := IntWalk.i64_in _ (by omega)
                have p7 : decide (2 * ((ti : Int) + (tl : Int)) ≤ (mx : Int)) = false := decide_eq_false (by omega)
                have p8 : (0 : Int) < ((i + 1 : Nat) : Int) := by omega
                clear hbw hstl hs1 hs2 hti htl hc0
                go_wp2_with fail
                go_quiet (fail)
                go_wp2_with fail
                go_roundw
                case rel => exact ⟨i + 1 + 1, by omega, by go_num, by rw [HS1.out], below_drews HBW.out _⟩
                case measure => simp [intOf]; omega
            · obtain rfl : j = T.length := by omega
              have j2 : decide (T.length < T.length) = false := decide_eq_false (by omega)
              have HE := Lib.hid (show st T T.length = s6.length by rw [st_all, HTF.out])
              rw [HE.out]
              have P8 := Lib.hid (P7.out.on HBW.out)
              clear hbw hstl
              go_wp2_with fail
              refine (sz_len P8.out).mono ?_
              rintro e w8 ⟨rfl, rfl⟩
              go_wp2_with fail
              refine (sz_text P8.out).mono ?_
              rintro e w9 ⟨rfl, hb9⟩
              have P9 := Lib.hid (P8.out.on hb9)
              clear hb9 P8
              go_wp2_with fail
              go_roundw
              case rel => exact ⟨k + 1, by omega, by go_num, s6, p6, P9.out⟩
              case measure => simp [intOf]; omega
    · have i2 : decide (k < l.length) = false := decide_eq_false hkn
      go_wp2_with fail
      refine (wakes_any _).mono ?_
      rintro e w9 ⟨rfl, hb9⟩
      go_wp2_with fail
      go_ret
      exact ⟨rfl, bel_trans HP.out.2.2 hb9⟩
end Go.Proofs.Ytlobaokeagpefaa
