/-
  A group of the page's own parser: what stands within is told by its contract. Conditions: at most 1000 words.
  An atom and what is said of it, as the page's own parser reads it: the atom is told by its contract. Conditions: at most 1000 words.
  Reps one behind the other, as the page's own parser reads them (cat): a rep is told by its contract. Conditions: at most 1000 words.
  Cats with bars between them, as the page's own parser reads them, at every depth of groups. Conditions: at most 1000 words of kinds 1 to 9, with at most 1000000 ranges each.
-/
import Derived.Test.YtceeimolfalmpaaGreatDoorNZ
import Derived.Test.YtceeimolfalmpaaGreatDoorQY
namespace Go.Proofs.YtceeimolfalmpaaGreatDoor.T
open Go.RowKit ObSets ObTree ObParse
open Go.Proofs.YtceeimolfalmpaaGreatDoor (tv fv)

section
variable {w w' : World} {b : Nat} {Aw : Option Addr} {cw : Nat} {W : List ObLex.T} {N : Nat} {cu : Bool} {s : St} {o : Nat} {er : Er} {m m' : Nat} {t : ObLex.T}
theorem Pt.cell (h : Pt w b Aw cw W N cu s o) (i : Nat) (u : Value) : Below b w (w.setCell ⟨b, i, none⟩ u) := (Ex.one b w i u).below (Nat.le_of_lt h.lt) (Nat.le_refl _)
theorem Pt.deeper (h : Pt w b Aw cw W N cu s o) : Pt (w.setCell ⟨b, 6, none⟩ (.int .i64 ((o : Int) + 1))) b Aw cw W N cu s (o + 1) := by
  have hbel := h.cell 6 (.int .i64 ((o : Int) + 1))
  obtain ⟨⟨A, c, h1, h2, h3, h4⟩, h5⟩ := h
  exact ⟨⟨A, c, heap_set 6 (.int .i64 ((o : Int) + 1)) h1, h2.set _ _, h3.below hbel, h4⟩, h5⟩
theorem Pt.shallower (h : Pt w b Aw cw W N cu s (o + 1)) : Pt (w.setCell ⟨b, 6, none⟩ (.int .i64 (o : Int))) b Aw cw W N cu s o := by
  have hbel := h.cell 6 (.int .i64 (o : Int))
  obtain ⟨⟨A, c, h1, h2, h3, h4⟩, h5⟩ := h
  exact ⟨⟨A, c, heap_set 6 (.int .i64 (o : Int)) h1, h2.set _ _, h3.below hbel, h4⟩, h5⟩
theorem Pt.more (h : Pt w b Aw cw W N cu s o) (hc : s.caps + 1 ≤ 99) : Pt (w.setCell ⟨b, 5, none⟩ (.int .i64 ((s.caps : Int) + 1))) b Aw cw W N cu ⟨s.k, s.L, s.caps + 1⟩ o := by
  have hbel := h.cell 5 (.int .i64 ((s.caps : Int) + 1))
  obtain ⟨⟨A, c, h1, h2, h3, h4⟩, h5⟩ := h
  exact ⟨⟨A, c, heap_set 5 (.int .i64 ((s.caps : Int) + 1)) h1, h2.set _ _, h3.below hbel, h4⟩, hc⟩
theorem Pj.cell (h : Pj w b Aw cw W N cu er m o) (i : Nat) (u : Value) : Below b w (w.setCell ⟨b, i, none⟩ u) := (Ex.one b w i u).below (Nat.le_of_lt h.lt) (Nat.le_refl _)
theorem Pj.shallower (h : Pj w b Aw cw W N cu er m (o + 1)) : Pj (w.setCell ⟨b, 6, none⟩ (.int .i64 (o : Int))) b Aw cw W N cu er m o := by
  have hbel := h.cell 6 (.int .i64 (o : Int))
  obtain ⟨A, c, n, l, k, cp, e, f, h1, h2, h3, h4, h5, h6⟩ := h
  exact ⟨A, c, n, l, k, cp, e, f, h1, h2, heap_set 6 (.int .i64 (o : Int)) h3, h4.set _ _, h5.below hbel, h6⟩
theorem Pt.open_ (h : Pt w b Aw cw W N cu s o) (hm : s.L.length ≤ m) : Pj ((w.setCell ⟨b, 7, none⟩ (.int .i64 4)).setCell ⟨b, 8, none⟩ (.int .i64 (N : Int))) b Aw cw W N cu none m o := by
  have hx := (Ex.one b w 7 (.int .i64 4)).setL 8 (.int .i64 (N : Int))
  have hbel := hx.below (Nat.le_of_lt h.lt) (Nat.le_refl _)
  obtain ⟨⟨A, c, h1, h2, h3, h4⟩, h5⟩ := h
  exact ⟨A, c, _, _, s.k, s.caps, 4, (N : Int), rfl, hm, heap_set 8 (.int .i64 (N : Int)) (heap_set 7 (.int .i64 4) h1), h2.ex hx, h3.below hbel, by decide, fun q hq => (by cases hq), fun _ => ⟨rfl, rfl⟩⟩
set_option maxHeartbeats 4000000 in
set_option maxRecDepth 100000 in
theorem pt_grp (h : Pt w b Aw cw W N cu s o) (ht : W[s.k]? = some t) (hk : t.kind = 3) (hW : W.length ≤ 1000) (hm : s.L.length ≤ m) (_hmm : m ≤ 30000) (j : Nat) (ho : o + j = 64)
    (hA : o ≠ 64 → ∀ w, Pt w b Aw cw W N cu ⟨s.k + 1, s.L, s.caps⟩ (o + 1) → Calls Tryz.prog 60 #[ptr b] w (RetG b Aw cw W N cu (o + 1) m (AL W (j - 1) ⟨s.k + 1, s.L, s.caps⟩) w))
    (hE : ∀ s' a, AL W (j - 1) ⟨s.k + 1, s.L, s.caps⟩ = .ok (s', a) → s'.L.length ≤ m) :
    Calls Tryz.prog 155 #[ptr b] w (RetG b Aw cw W N cu o m (atom W (alts W j) s) w) := by
  obtain ⟨G, hG⟩ : ∃ G, atom W (alts W j) s = G := ⟨_, rfl⟩
  rw [hG]
  have HGG := Lib.hid hG; have HA := Lib.hid hA; have HE := Lib.hid hE; have HHT := Lib.hid ht
  clear hG hA hE
  have hlt : s.k < W.length := (List.getElem?_eq_some_iff.1 ht).1
  have hl := h.lt
  have HPT := Lib.hid h
  obtain ⟨⟨A, c, h1, h2, h3, h4⟩, h5⟩ := h
  obtain ⟨kd, pl, st, mn, mx⟩ := t
  dsimp only at hk
  subst hk
  obtain ⟨bb, off, As, ks, rfl, hbl, ⟨p0, p1, p2, p3, p4⟩, hr⟩ := h3 s.k _ ht
  dsimp only at p0 p1 p2 p3 p4 hr
  have hlt' : (s.k : Int) < (W.length : Int) := by omega
  obtain ⟨⟨c0, c1, _, _, _, _, _, _, _⟩, _⟩ := blk9 h1
  have hal := (Below.refl w.heap.size w).alloc (Nat.le_refl _) (.cells #[.int .i64 0, .int .i64 0, .slice none 0 0, .int .i64 0, .int .i64 0] 40)
  have m0 := (hal.cell (p := ⟨b, 0, none⟩) hl).trans c0
  have m1 := (hal.cell (p := ⟨b, 1, none⟩) hl).trans c1
  have hbw : bb < w.heap.size := by omega
  have q0 := (hal.cell (p := ⟨bb, _, none⟩) hbw).trans p0
  have q1 := (hal.cell (p := ⟨bb, _, none⟩) hbw).trans p1
  have q2 := (hal.cell (p := ⟨bb, _, none⟩) hbw).trans p2
  have q3 := (hal.cell (p := ⟨bb, _, none⟩) hbw).trans p3
  have q4 := (hal.cell (p := ⟨bb, _, none⟩) hbw).trans p4
  have hal2 := (Below.refl w.heap.size w).alloc (Nat.le_refl _) (.cells #[.int .i64 3, .int .i64 pl, .slice As st.length ks, .int .i64 mn, .int .i64 mx] 40)
  have HP1 := Lib.hid (HPT.out.below hal2.drew)
  have HG1 : Hid ((w.alloc (.cells #[.int .i64 3, .int .i64 pl, .slice As st.length ks, .int .i64 mn, .int .i64 mx] 40)).drew.heap[w.heap.size]? = some (.cells #[.int .i64 3, .int .i64 pl, .slice As st.length ks, .int .i64 mn, .int .i64 mx] 40)) := Lib.hid (heap_new w _)
  have HB1 := Lib.hid (hal2.drew.mono (Nat.le_of_lt hl))
  clear h1 h2 h3 h4 h5 hr hal hal2
  have hwn : (W.length : Int) = (W.length : Int) := rfl
  go_enter Tryz.func155, Tryz.ntmps155
  go_wp2_with fail
  go_region
  clear c0 c1 m0 m1 q0 q1 q2 q3 q4 p0 p1 p2 p3 p4 HPT hwn
  generalize (w.alloc (.cells #[.int .i64 3, .int .i64 pl, .slice As st.length ks, .int .i64 mn, .int .i64 mx] 40)).drew = W1 at *
  generalize w.heap.size = g at *
  obtain ⟨⟨g0, g1, g2, g3, g4⟩, _⟩ := blk5 HG1.out
  have HP1' := HP1.out
  obtain ⟨⟨A1, cc1, k1, k2, k3, k4⟩, k5⟩ := HP1'
  obtain ⟨⟨c0, c1, c2, c3, c4, c5, c6, c7, c8⟩, cf⟩ := blk9 k1
  have cf1 := cf 1
  have ew : IntKind.i64.wrap ((s.k : Int) + 1) = (s.k : Int) + 1 := IntWalk.i64_in _ (by omega)
  have hbl1 := Nat.le_of_lt HP1.out.lt
  clear ht
  have hge : (o : Int) ≤ 64 := by omega
  by_cases h64 : o = 64
  · subst h64
    obtain rfl : j = 0 := by omega
    have HR := Lib.hid (show G = .error (some (6, pl)) by rw [← HGG.out]; unfold atom; rw [HHT.out]; rfl)
    have HF := Lib.hid (pt_fails HP1.out HHT.out (why := 6) (by decide) hm)
    clear k1 k2 k3 k4 k5 cf
    go_wp2_with fail
    refine HF.out.mono ?_
    rintro e2 w2 ⟨rfl, hj2, hb2⟩
    have HJ := Lib.hid hj2
    have HB2 := Lib.hid (HB1.out.trans hb2)
    clear hj2 hb2
    go_wp2_with fail
    go_ret
    refine ⟨HB2.out, ⟨fun s' a' h => ?_, fun er' h => ?_⟩⟩
    · rw [HR.out] at h; cases h
    · rw [HR.out] at h; injection h with h; subst h; exact ⟨⟨0, rfl⟩, HJ.out⟩
  obtain ⟨j', rfl⟩ : ∃ j', j = j' + 1 := ⟨j - 1, by omega⟩
  have d64 : decide (64 ≤ o) = false := decide_eq_false (by omega)
  have hlt64 : (o : Int) < 64 := by omega
  rw [show j' + 1 - 1 = j' from rfl] at HA HE
  have HRR := Lib.hid (show (match AL W j' ⟨s.k + 1, s.L, s.caps⟩ with | .error e => .error e | .ok (s', a) => if s'.k < W.length then .ok (ObParse.nxt s', a) else .error none) = G by
    rw [← HGG.out]; unfold atom; rw [HHT.out]; dsimp only [alts]; rw [if_neg (by decide), if_neg (by decide), if_neg (by decide), if_neg (by decide)]
    unfold grp
    simp only [Bool.false_eq_true, if_false]
    rfl)
  have hp2 := HP1.out.nxt hlt
  have hp3 := hp2.1.deeper
  have hb3 := hp2.1.cell 6 (.int .i64 ((o : Int) + 1))
  have HB3 := Lib.hid ((HB1.out.trans hp2.2).trans hb3)
  have HAC := Lib.hid (HA.out h64 _ hp3)
  have cf6 := cf 6
  have ewo : IntKind.i64.wrap ((o : Int) + 1) = (o : Int) + 1 := IntWalk.i64_in _ (by omega)
  clear hp2 hp3 hb3 k1 k2 k3 k4 k5 cf HA HP1
  go_wp2_with fail
  refine Calls.mono HAC.out ?_
  rintro e4 w4 ⟨hb4, hok, herr⟩
  have HB4 := Lib.hid (HB3.out.trans hb4)
  clear hb4 HG1 g0 g1 g2 g3 g4 c0 c1 c2 c3 c4 c5 c6 c7 c8
  have ewd : IntKind.i64.wrap ((o : Int) + 1 - 1) = (o : Int) := by rw [show (o : Int) + 1 - 1 = o by omega]; exact IntWalk.i64_in _ (by omega)
  cases hp : AL W j' ⟨s.k + 1, s.L, s.caps⟩ with
  | error er =>
    obtain ⟨⟨z, rfl⟩, hj⟩ := herr er hp
    have HR := Lib.hid (show G = .error er by rw [← HRR.out, hp])
    have HJ := Lib.hid hj.shallower
    have HB5 := Lib.hid (HB4.out.trans (hj.cell 6 (.int .i64 (o : Int))))
    obtain ⟨A3, c3, n3, l3, kk, cp, e, f, _, _, q3, _, _, q6, _, _⟩ := hj
    obtain ⟨⟨_, _, _, _, _, _, c6, c7, _⟩, cf⟩ := blk9 q3
    have c6' : w4.cell? ⟨b, 6, none⟩ = some (.int .i64 ((o : Int) + 1)) := c6
    have cf6 := cf 6
    have en : (e != 0) = true := by simpa using q6
    clear hok herr hp q3 cf c6 q6 cf1 
    go_wp2_with fail
    go_ret
    refine ⟨HB5.out, ⟨fun s' a' h => ?_, fun er' h => ?_⟩⟩
    · rw [HR.out] at h; cases h
    · rw [HR.out] at h; injection h with h; subst h; exact ⟨⟨0, rfl⟩, HJ.out⟩
  | ok p =>
    obtain ⟨s', a⟩ := p
    obtain ⟨⟨za, hza⟩, rfl, hs⟩ := hok s' a hp
    have hml := HE.out s' a hp
    have HZA := Lib.hid hza
    clear hza
    have hs5 := hs.shallower
    have HB5 := Lib.hid (HB4.out.trans (hs.cell 6 (.int .i64 (o : Int))))
    obtain ⟨⟨A3, c3, q1, _, _, q4⟩, _⟩ := hs
    obtain ⟨⟨c0, c1, _, _, _, _, c6, c7, _⟩, cf⟩ := blk9 q1
    have c6' : w4.cell? ⟨b, 6, none⟩ = some (.int .i64 ((o : Int) + 1)) := c6
    have cf6 := cf 6
    have HS5 := Lib.hid hs5
    by_cases hlt2 : s'.k < W.length
    · have HR := Lib.hid (show G = .ok (ObParse.nxt s', a) by rw [← HRR.out, hp]; dsimp only; rw [if_pos hlt2])
      have dlt : decide (W.length ≤ s'.k) = false := decide_eq_false (by omega)
      have hlt2' : (s'.k : Int) < (W.length : Int) := by omega
      clear hok herr hp q1 cf c6 hs5 cf1 
      go_wp2_with fail
      go_quiet (fail)
      have hd := below_drews (Below.refl (w4.setCell ⟨b, 6, none⟩ (.int .i64 (o : Int))).heap.size (w4.setCell ⟨b, 6, none⟩ (.int .i64 (o : Int)))) nq
      have hs6 := HS5.out.below hd
      have HB6 := Lib.hid (HB5.out.trans (hd.mono (Nat.le_of_lt HS5.out.lt)))
      obtain ⟨hs7, hb7⟩ := hs6.nxt hlt2
      have HB7 := Lib.hid (HB6.out.trans hb7)
      have ew2 : IntKind.i64.wrap ((s'.k : Int) + 1) = (s'.k : Int) + 1 := IntWalk.i64_in _ (by omega)
      have cf1 : (w4.setCell ⟨b, 6, none⟩ (.int .i64 (o : Int))).frozen? ⟨b, 1, none⟩ = false := by
        obtain ⟨⟨A6, c6, r1, _, _, _⟩, _⟩ := HS5.out
        exact (blk9 r1).2 1
      have HS7 := Lib.hid hs7
      clear hd hs6 hs7 hb7
      go_wp2_with fail
      go_ret
      refine ⟨HB7.out, ⟨fun s2 a2 h => ?_, fun er' h => ?_⟩⟩
      · rw [HR.out] at h; injection h with h; injection h with h1 h2; subst h1 h2; exact ⟨⟨za, HZA.out⟩, rfl, HS7.out⟩
      · rw [HR.out] at h; cases h
    · have HR := Lib.hid (show G = .error none by rw [← HRR.out, hp]; dsimp only; rw [if_neg hlt2])
      have dlt : decide (W.length ≤ s'.k) = true := decide_eq_true (by omega)
      have hlt2' : (W.length : Int) ≤ (s'.k : Int) := by omega
      obtain ⟨⟨A6, c6a, r1, _, _, _⟩, _⟩ := hs5
      obtain ⟨⟨_, _, e2, _, _, _, _, _, _⟩, ef⟩ := blk9 r1
      have ef7 := ef 7; have ef8 := ef 8
      clear hok herr hp q1 cf c6 r1 ef cf1 
      go_wp2_with fail
      go_quiet (fail)
      have hd := below_drews (Below.refl (w4.setCell ⟨b, 6, none⟩ (.int .i64 (o : Int))).heap.size (w4.setCell ⟨b, 6, none⟩ (.int .i64 (o : Int)))) nq
      have hs6 := HS5.out.below hd
      have HB6 := Lib.hid (HB5.out.trans (hd.mono (Nat.le_of_lt HS5.out.lt)))
      have HJ := Lib.hid (hs6.open_ hml)
      have HB7 := Lib.hid ((HB6.out.trans (hs6.cell 7 (.int .i64 4))).setCell (p := ⟨b, 8, none⟩) (Nat.le_refl _) (.int .i64 (N : Int)))
      clear hd hs6
      go_wp2_with fail
      go_ret
      refine ⟨HB7.out, ⟨fun s2 a2 h => ?_, fun er' h => ?_⟩⟩
      · rw [HR.out] at h; cases h
      · rw [HR.out] at h; injection h with h; subst h; exact ⟨⟨0, rfl⟩, HJ.out⟩
set_option maxHeartbeats 4000000 in
set_option maxRecDepth 100000 in
theorem pt_cap (h : Pt w b Aw cw W N cu s o) (ht : W[s.k]? = some t) (hk : t.kind = 2) (hW : W.length ≤ 1000) (hm : s.L.length ≤ m) (hmm : m ≤ 30000) (j : Nat) (ho : o + j = 64)
    (hA : o ≠ 64 → s.caps + 1 ≤ 99 → ∀ w, Pt w b Aw cw W N cu ⟨s.k + 1, s.L, s.caps + 1⟩ (o + 1) → Calls Tryz.prog 60 #[ptr b] w (RetG b Aw cw W N cu (o + 1) m (AL W (j - 1) ⟨s.k + 1, s.L, s.caps + 1⟩) w))
    (hE : ∀ s' a, AL W (j - 1) ⟨s.k + 1, s.L, s.caps + 1⟩ = .ok (s', a) → s'.L.length ≤ m) :
    Calls Tryz.prog 155 #[ptr b] w (RetG b Aw cw W N cu o m (atom W (alts W j) s) w) := by
  obtain ⟨G, hG⟩ : ∃ G, atom W (alts W j) s = G := ⟨_, rfl⟩
  rw [hG]
  have HGG := Lib.hid hG; have HA := Lib.hid hA; have HE := Lib.hid hE; have HHT := Lib.hid ht
  clear hG hA hE
  have hlt : s.k < W.length := (List.getElem?_eq_some_iff.1 ht).1
  have hl := h.lt
  have HPT := Lib.hid h
  obtain ⟨⟨A, c, h1, h2, h3, h4⟩, h5⟩ := h
  obtain ⟨kd, pl, st, mn, mx⟩ := t
  dsimp only at hk
  subst hk
  obtain ⟨bb, off, As, ks, rfl, hbl, ⟨p0, p1, p2, p3, p4⟩, hr⟩ := h3 s.k _ ht
  dsimp only at p0 p1 p2 p3 p4 hr
  have hlt' : (s.k : Int) < (W.length : Int) := by omega
  obtain ⟨⟨c0, c1, _, _, _, _, _, _, _⟩, _⟩ := blk9 h1
  have hal := (Below.refl w.heap.size w).alloc (Nat.le_refl _) (.cells #[.int .i64 0, .int .i64 0, .slice none 0 0, .int .i64 0, .int .i64 0] 40)
  have m0 := (hal.cell (p := ⟨b, 0, none⟩) hl).trans c0
  have m1 := (hal.cell (p := ⟨b, 1, none⟩) hl).trans c1
  have hbw : bb < w.heap.size := by omega
  have q0 := (hal.cell (p := ⟨bb, _, none⟩) hbw).trans p0
  have q1 := (hal.cell (p := ⟨bb, _, none⟩) hbw).trans p1
  have q2 := (hal.cell (p := ⟨bb, _, none⟩) hbw).trans p2
  have q3 := (hal.cell (p := ⟨bb, _, none⟩) hbw).trans p3
  have q4 := (hal.cell (p := ⟨bb, _, none⟩) hbw).trans p4
  have hal2 := (Below.refl w.heap.size w).alloc (Nat.le_refl _) (.cells #[.int .i64 2, .int .i64 pl, .slice As st.length ks, .int .i64 mn, .int .i64 mx] 40)
  have HP1 := Lib.hid (HPT.out.below hal2.drew)
  have HG1 : Hid ((w.alloc (.cells #[.int .i64 2, .int .i64 pl, .slice As st.length ks, .int .i64 mn, .int .i64 mx] 40)).drew.heap[w.heap.size]? = some (.cells #[.int .i64 2, .int .i64 pl, .slice As st.length ks, .int .i64 mn, .int .i64 mx] 40)) := Lib.hid (heap_new w _)
  have HB1 := Lib.hid (hal2.drew.mono (Nat.le_of_lt hl))
  clear h1 h2 h3 h4 h5 hr hal hal2
  have hwn : (W.length : Int) = (W.length : Int) := rfl
  go_enter Tryz.func155, Tryz.ntmps155
  go_wp2_with fail
  go_region
  clear c0 c1 m0 m1 q0 q1 q2 q3 q4 p0 p1 p2 p3 p4 HPT hwn
  generalize (w.alloc (.cells #[.int .i64 2, .int .i64 pl, .slice As st.length ks, .int .i64 mn, .int .i64 mx] 40)).drew = W1 at *
  generalize w.heap.size = g at *
  obtain ⟨⟨g0, g1, g2, g3, g4⟩, _⟩ := blk5 HG1.out
  have HP1' := HP1.out
  obtain ⟨⟨A1, cc1, k1, k2, k3, k4⟩, k5⟩ := HP1'
  obtain ⟨⟨c0, c1, c2, c3, c4, c5, c6, c7, c8⟩, cf⟩ := blk9 k1
  have cf1 := cf 1
  have ew : IntKind.i64.wrap ((s.k : Int) + 1) = (s.k : Int) + 1 := IntWalk.i64_in _ (by omega)
  have hbl1 := Nat.le_of_lt HP1.out.lt
  clear ht
  have hge : (o : Int) ≤ 64 := by omega
  by_cases h64 : o = 64
  · subst h64
    obtain rfl : j = 0 := by omega
    have HR := Lib.hid (show G = .error (some (6, pl)) by rw [← HGG.out]; unfold atom; rw [HHT.out]; rfl)
    have HF := Lib.hid (pt_fails HP1.out HHT.out (why := 6) (by decide) hm)
    clear k1 k2 k3 k4 k5 cf
    go_wp2_with fail
    refine HF.out.mono ?_
    rintro e2 w2 ⟨rfl, hj2, hb2⟩
    have HJ := Lib.hid hj2
    have HB2 := Lib.hid (HB1.out.trans hb2)
    clear hj2 hb2
    go_wp2_with fail
    go_ret
    refine ⟨HB2.out, ⟨fun s' a' h => ?_, fun er' h => ?_⟩⟩
    · rw [HR.out] at h; cases h
    · rw [HR.out] at h; injection h with h; subst h; exact ⟨⟨0, rfl⟩, HJ.out⟩
  obtain ⟨j', rfl⟩ : ∃ j', j = j' + 1 := ⟨j - 1, by omega⟩
  have d64 : decide (64 ≤ o) = false := decide_eq_false (by omega)
  have hlt64 : (o : Int) < 64 := by omega
  rw [show j' + 1 - 1 = j' from rfl] at HA HE
  by_cases h99 : 99 ≤ s.caps
  · have d99 : decide (99 ≤ s.caps) = true := decide_eq_true h99
    have hge99 : (99 : Int) ≤ (s.caps : Int) := by omega
    have HR := Lib.hid (show G = .error (some (7, pl)) by rw [← HGG.out]; unfold atom; rw [HHT.out]; dsimp only [alts]; rw [if_neg (by decide), if_neg (by decide), if_neg (by decide), if_pos rfl, if_pos h99])
    have HF := Lib.hid (pt_fails HP1.out HHT.out (why := 7) (by decide) hm)
    clear k1 k2 k3 k4 k5 cf
    go_wp2_with fail
    refine HF.out.mono ?_
    rintro e2 w2 ⟨rfl, hj2, hb2⟩
    have HJ := Lib.hid hj2
    have HB2 := Lib.hid (HB1.out.trans hb2)
    clear hj2 hb2
    go_wp2_with fail
    go_ret
    refine ⟨HB2.out, ⟨fun s' a' h => ?_, fun er' h => ?_⟩⟩
    · rw [HR.out] at h; cases h
    · rw [HR.out] at h; injection h with h; subst h; exact ⟨⟨0, rfl⟩, HJ.out⟩
  have d99 : decide (99 ≤ s.caps) = false := decide_eq_false h99
  have hlt99 : (s.caps : Int) < 99 := by omega
  have HRR := Lib.hid (show (match AL W j' ⟨s.k + 1, s.L, s.caps + 1⟩ with | .error e => .error e | .ok (s', a) => if s'.k < W.length then .ok (put (ObParse.nxt s') ⟨8, a, 0, [], 0, 0, (s.caps : Int) + 1⟩) else .error none) = G by
    rw [← HGG.out]; unfold atom; rw [HHT.out]; dsimp only [alts]; rw [if_neg (by decide), if_neg (by decide), if_neg (by decide), if_pos rfl, if_neg h99]
    unfold grp
    simp only [if_true]
    rfl)
  have hpc := HP1.out.more (by omega)
  have hbc := HP1.out.cell 5 (.int .i64 ((s.caps : Int) + 1))
  have hp2 := hpc.nxt (s := ⟨s.k, s.L, s.caps + 1⟩) hlt
  have hp3 := hp2.1.deeper
  have hb3 := hp2.1.cell 6 (.int .i64 ((o : Int) + 1))
  have HB3 := Lib.hid (((HB1.out.trans hbc).trans hp2.2).trans hb3)
  have cf5 := cf 5
  have ewc : IntKind.i64.wrap ((s.caps : Int) + 1) = (s.caps : Int) + 1 := IntWalk.i64_in _ (by omega)
  have hn0 : (0 : Int) < (s.caps : Int) + 1 := by omega
  have HAC := Lib.hid (HA.out h64 (by omega) _ hp3)
  have cf6 := cf 6
  have ewo : IntKind.i64.wrap ((o : Int) + 1) = (o : Int) + 1 := IntWalk.i64_in _ (by omega)
  clear hp2 hp3 hb3 hpc hbc k1 k2 k3 k4 k5 cf HA HP1
  go_wp2_with fail
  refine Calls.mono HAC.out ?_
  rintro e4 w4 ⟨hb4, hok, herr⟩
  have HB4 := Lib.hid (HB3.out.trans hb4)
  clear hb4 HG1 g0 g1 g2 g3 g4 c0 c1 c2 c3 c4 c5 c6 c7 c8
  have ewd : IntKind.i64.wrap ((o : Int) + 1 - 1) = (o : Int) := by rw [show (o : Int) + 1 - 1 = o by omega]; exact IntWalk.i64_in _ (by omega)
  cases hp : AL W j' ⟨s.k + 1, s.L, s.caps + 1⟩ with
  | error er =>
    obtain ⟨⟨z, rfl⟩, hj⟩ := herr er hp
    have HR := Lib.hid (show G = .error er by rw [← HRR.out, hp])
    have HJ := Lib.hid hj.shallower
    have HB5 := Lib.hid (HB4.out.trans (hj.cell 6 (.int .i64 (o : Int))))
    obtain ⟨A3, c3, n3, l3, kk, cp, e, f, _, _, q3, _, _, q6, _, _⟩ := hj
    obtain ⟨⟨_, _, _, _, _, _, c6, c7, _⟩, cf⟩ := blk9 q3
    have c6' : w4.cell? ⟨b, 6, none⟩ = some (.int .i64 ((o : Int) + 1)) := c6
    have cf6 := cf 6
    have en : (e != 0) = true := by simpa using q6
    clear hok herr hp q3 cf c6 q6 cf1 cf5
    go_wp2_with fail
    go_ret
    refine ⟨HB5.out, ⟨fun s' a' h => ?_, fun er' h => ?_⟩⟩
    · rw [HR.out] at h; cases h
    · rw [HR.out] at h; injection h with h; subst h; exact ⟨⟨0, rfl⟩, HJ.out⟩
  | ok p =>
    obtain ⟨s', a⟩ := p
    obtain ⟨⟨za, hza⟩, rfl, hs⟩ := hok s' a hp
    have hml := HE.out s' a hp
    have HZA := Lib.hid hza
    clear hza
    have hs5 := hs.shallower
    have HB5 := Lib.hid (HB4.out.trans (hs.cell 6 (.int .i64 (o : Int))))
    obtain ⟨⟨A3, c3, q1, _, _, q4⟩, _⟩ := hs
    obtain ⟨⟨c0, c1, _, _, _, _, c6, c7, _⟩, cf⟩ := blk9 q1
    have c6' : w4.cell? ⟨b, 6, none⟩ = some (.int .i64 ((o : Int) + 1)) := c6
    have cf6 := cf 6
    have HS5 := Lib.hid hs5
    by_cases hlt2 : s'.k < W.length
    · have HR := Lib.hid (show G = .ok (put (ObParse.nxt s') ⟨8, a, 0, [], 0, 0, (s.caps : Int) + 1⟩) by rw [← HRR.out, hp]; dsimp only; rw [if_pos hlt2])
      have dlt : decide (W.length ≤ s'.k) = false := decide_eq_false (by omega)
      have hlt2' : (s'.k : Int) < (W.length : Int) := by omega
      clear hok herr hp q1 cf c6 hs5 cf1 cf5
      go_wp2_with fail
      go_quiet (fail)
      have hd := below_drews (Below.refl (w4.setCell ⟨b, 6, none⟩ (.int .i64 (o : Int))).heap.size (w4.setCell ⟨b, 6, none⟩ (.int .i64 (o : Int)))) nq
      have hs6 := HS5.out.below hd
      have HB6 := Lib.hid (HB5.out.trans (hd.mono (Nat.le_of_lt HS5.out.lt)))
      obtain ⟨hs7, hb7⟩ := hs6.nxt hlt2
      have HB7 := Lib.hid (HB6.out.trans hb7)
      have ew2 : IntKind.i64.wrap ((s'.k : Int) + 1) = (s'.k : Int) + 1 := IntWalk.i64_in _ (by omega)
      have cf1 : (w4.setCell ⟨b, 6, none⟩ (.int .i64 (o : Int))).frozen? ⟨b, 1, none⟩ = false := by
        obtain ⟨⟨A6, c6, r1, _, _, _⟩, _⟩ := HS5.out
        exact (blk9 r1).2 1
      have HA8 := Lib.hid (pt_put hs7 ⟨8, a, 0, [], 0, 0, (s.caps : Int) + 1⟩ none 0 rfl (by simp only [ObParse.nxt]; omega))
      clear hd hs6 hs7 hb7
      go_wp2_with fail
      refine HA8.out.mono ?_
      rintro e8 w8 ⟨rfl, hs8, hb8⟩
      have HS8 := Lib.hid hs8
      have HB8 := Lib.hid (HB7.out.trans hb8)
      clear hs8 hb8
      go_wp2_with fail
      go_ret
      refine ⟨HB8.out, ⟨fun s2 a2 h => ?_, fun er' h => ?_⟩⟩
      · rw [HR.out] at h; injection h with h
        have h1 := congrArg Prod.fst h; have h2 := congrArg Prod.snd h
        dsimp only at h1 h2
        subst h1 h2
        exact ⟨⟨_, rfl⟩, rfl, HS8.out⟩
      · rw [HR.out] at h; cases h
    · have HR := Lib.hid (show G = .error none by rw [← HRR.out, hp]; dsimp only; rw [if_neg hlt2])
      have dlt : decide (W.length ≤ s'.k) = true := decide_eq_true (by omega)
      have hlt2' : (W.length : Int) ≤ (s'.k : Int) := by omega
      obtain ⟨⟨A6, c6a, r1, _, _, _⟩, _⟩ := hs5
      obtain ⟨⟨_, _, e2, _, _, _, _, _, _⟩, ef⟩ := blk9 r1
      have ef7 := ef 7; have ef8 := ef 8
      clear hok herr hp q1 cf c6 r1 ef cf1 cf5
      go_wp2_with fail
      go_quiet (fail)
      have hd := below_drews (Below.refl (w4.setCell ⟨b, 6, none⟩ (.int .i64 (o : Int))).heap.size (w4.setCell ⟨b, 6, none⟩ (.int .i64 (o : Int)))) nq
      have hs6 := HS5.out.below hd
      have HB6 := Lib.hid (HB5.out.trans (hd.mono (Nat.le_of_lt HS5.out.lt)))
      have HJ := Lib.hid (hs6.open_ hml)
      have HB7 := Lib.hid ((HB6.out.trans (hs6.cell 7 (.int .i64 4))).setCell (p := ⟨b, 8, none⟩) (Nat.le_refl _) (.int .i64 (N : Int)))
      clear hd hs6
      go_wp2_with fail
      go_ret
      refine ⟨HB7.out, ⟨fun s2 a2 h => ?_, fun er' h => ?_⟩⟩
      · rw [HR.out] at h; cases h
      · rw [HR.out] at h; injection h with h; subst h; exact ⟨⟨0, rfl⟩, HJ.out⟩
end
end Go.Proofs.YtceeimolfalmpaaGreatDoor.T

namespace Go.Proofs.YtceeimolfalmpaaGreatDoor.T
open Go.RowKit ObSets ObTree ObParse
open Go.Proofs.YtceeimolfalmpaaGreatDoor (tv fv)

theorem Pt.left {w : World} {b : Nat} {Aw : Option Addr} {cw : Nat} {W : List ObLex.T} {N : Nat} {cu : Bool} {s : St} {o : Nat} (h : Pt w b Aw cw W N cu s o) : leftW b W.length w = W.length - s.k := by
  obtain ⟨⟨A, c, h1, _⟩, _⟩ := h
  obtain ⟨⟨_, c1, _⟩, _⟩ := blk9 h1
  unfold leftW; rw [c1]; simp
/-- What is still to come of an atom's reps, or that there is a fault. -/
def RepQ (b : Nat) (Aw : Option Addr) (cw : Nat) (W : List ObLex.T) (N : Nat) (cu : Bool) (o m M : Nat) (R : PR) (v : Value) (w : World) : Prop :=
  (∃ (s : St) (a : Int) (f : Nat), v = .int .i64 a ∧ (∃ z : Nat, a = (z : Int)) ∧ Pt w b Aw cw W N cu s o ∧ W.length ≤ s.k + f ∧ s.L.length + 2 * (W.length - s.k) ≤ M ∧ R = .ok (repL W f s a)) ∨
  (∃ (z : Nat) (er : Er), v = .int .i64 (z : Int) ∧ R = .error er ∧ Pj w b Aw cw W N cu er m o)
set_option maxHeartbeats 4000000 in
set_option maxRecDepth 100000 in
theorem prep_any {b : Nat} {Aw : Option Addr} {cw : Nat} {W : List ObLex.T} {N : Nat} {cu : Bool} {o m M : Nat} {al : Option (St → PR)} {w : World} {s : St} (hW : W.length ≤ 1000)
    (hM : s.L.length + 2 * (W.length - s.k) ≤ M) (hMm : M ≤ 20000)
    (hP : Calls Tryz.prog 155 #[ptr b] w (RetG b Aw cw W N cu o m (atom W al s) w))
    (hfit : ∀ s' a, atom W al s = .ok (s', a) → s.k < s'.k ∧ s'.k ≤ W.length ∧ s'.L.length + 1 ≤ s.L.length + 2 * (s'.k - s.k)) :
    Calls Tryz.prog 138 #[ptr b] w (RetG b Aw cw W N cu o m (rep W al s) w) := by
  obtain ⟨R, hR⟩ : ∃ R : PR, rep W al s = R := ⟨_, rfl⟩
  rw [hR]
  have HP := Lib.hid hP; have HF := Lib.hid hfit; have HR := Lib.hid hR
  have HKF := Lib.hid (fun (W' : World) (s : St) (h : Pt W' b Aw cw W N cu s o) => pt_next h)
  clear hP hfit hR
  go_enter Tryz.func138, Tryz.ntmps138
  go_wp2_with fail
  refine Calls.mono HP.out ?_
  rintro e1 w1 ⟨hb1, hok, herr⟩
  have hst : ∃ v, e1 = .returned v ∧ RepQ b Aw cw W N cu o m M R v w1 := by
    cases hp : atom W al s with
    | error er =>
      obtain ⟨⟨z, rfl⟩, hj⟩ := herr er hp
      exact ⟨_, rfl, .inr ⟨z, er, rfl, by rw [← HR.out]; unfold rep; rw [hp], hj⟩⟩
    | ok p =>
      obtain ⟨s', a⟩ := p
      obtain ⟨hz, rfl, hs⟩ := hok s' a hp
      obtain ⟨f1, f2, f3⟩ := HF.out s' a hp
      exact ⟨_, rfl, .inl ⟨s', a, W.length, rfl, hz, hs, by omega, by omega, by rw [← HR.out]; unfold rep; rw [hp]⟩⟩
  obtain ⟨v1, rfl, hra⟩ := hst
  have HRA := Lib.hid hra
  have HB1 := Lib.hid hb1
  clear hok herr hra hb1 HF HP
  go_wp2_with fail
  go_loopw [3] (fun v wr => Hid (RepQ b Aw cw W N cu o m M R v wr) ∧ Hid (Below b w wr)) (fun _ wr => leftW b W.length wr)
  case atStart => exact ⟨HRA, HB1⟩
  case round =>
    obtain ⟨HRA, HB⟩ := hrel
    rcases HRA.out with ⟨s, a, f, rfl, ⟨za, hza⟩, hs, hf, hphi, hR⟩ | ⟨z, er, rfl, hR, hj⟩
    · have HLF := Lib.hid hs.left
      have HRR := Lib.hid hR
      have HZA := Lib.hid hza
      have hkl : s.k ≤ W.length := by obtain ⟨⟨_, _, _, _, _, h4⟩, _⟩ := hs; exact h4
      clear hR hza
      have HKF := Lib.hid (fun (W' : World) (h : Pt W' b Aw cw W N cu s o) => HKF.out W' s h)
      by_cases hkd : kd W s.k = 6
      · obtain ⟨t, ht⟩ : ∃ t, W[s.k]? = some t := ⟨_, List.getElem?_eq_getElem (kd_in (by omega))⟩
        have htk : t.kind = 6 := by unfold kd at hkd; rw [ht] at hkd; exact hkd

        have hlt : s.k < W.length := (List.getElem?_eq_some_iff.1 ht).1
        obtain ⟨f', rfl⟩ : ∃ f', f = f' + 1 := ⟨f - 1, by omega⟩
        obtain ⟨kd, pl, st, mn, mx⟩ := t
        dsimp only at htk
        subst htk
        have HT := Lib.hid ht
        clear ht
        have HK := Lib.hid (HKF.out wr hs)
        rw [hkd] at HK
        clear hs hkd
        go_wp2_with fail
        refine HK.out.mono ?_
        rintro e2 w2 ⟨rfl, hs2, hb2⟩
        have HB2 := Lib.hid (HB.out.trans hb2)
        have HP2 := Lib.hid hs2
        have hl := hs2.lt
        obtain ⟨⟨A, c, h1, h2, h3, h4⟩, h5⟩ := hs2
        obtain ⟨bb, off, As, ks, rfl, hbl, ⟨p0, p1, p2, p3, p4⟩, hr⟩ := h3 s.k _ HT.out
        dsimp only at p0 p1 p2 p3 p4
        have hlt' : (s.k : Int) < (W.length : Int) := by omega
        obtain ⟨⟨c0, c1, _, _, _, _, _, _, _⟩, _⟩ := blk9 h1
        have hal := (Below.refl w2.heap.size w2).alloc (Nat.le_refl _) (.cells #[.int .i64 0, .int .i64 0, .slice none 0 0, .int .i64 0, .int .i64 0] 40)
        have m0 := (hal.cell (p := ⟨b, 0, none⟩) hl).trans c0
        have m1 := (hal.cell (p := ⟨b, 1, none⟩) hl).trans c1
        have hbw : bb < w2.heap.size := by omega
        have q0 := (hal.cell (p := ⟨bb, _, none⟩) hbw).trans p0
        have q1 := (hal.cell (p := ⟨bb, _, none⟩) hbw).trans p1
        have q2 := (hal.cell (p := ⟨bb, _, none⟩) hbw).trans p2
        have q3 := (hal.cell (p := ⟨bb, _, none⟩) hbw).trans p3
        have q4 := (hal.cell (p := ⟨bb, _, none⟩) hbw).trans p4
        have hal2 := (Below.refl w2.heap.size w2).alloc (Nat.le_refl _) (.cells #[.int .i64 6, .int .i64 pl, .slice As st.length ks, .int .i64 mn, .int .i64 mx] 40)
        have HP1 := Lib.hid (HP2.out.below hal2.drew)
        have HG1 : Hid ((w2.alloc (.cells #[.int .i64 6, .int .i64 pl, .slice As st.length ks, .int .i64 mn, .int .i64 mx] 40)).drew.heap[w2.heap.size]? = some (.cells #[.int .i64 6, .int .i64 pl, .slice As st.length ks, .int .i64 mn, .int .i64 mx] 40)) := Lib.hid (heap_new w2 _)
        have HB1 := Lib.hid (HB2.out.trans (hal2.drew.mono (Nat.le_of_lt hl)))
        clear h1 h2 h3 h4 h5 hr hal hal2 hb2
        go_wp2_with fail
        go_region
        clear c0 c1 m0 m1 q0 q1 q2 q3 q4 p0 p1 p2 p3 p4 HP2
        generalize (w2.alloc (.cells #[.int .i64 6, .int .i64 pl, .slice As st.length ks, .int .i64 mn, .int .i64 mx] 40)).drew = W1 at *
        generalize w2.heap.size = g at *
        have HP1' := HP1.out
        obtain ⟨⟨A1, cc1, k1, k2, k3, k4⟩, k5⟩ := HP1'
        obtain ⟨⟨c0, c1, c2, c3, c4, c5, c6, c7, c8⟩, cf⟩ := blk9 k1
        have cf1 := cf 1
        have ew : IntKind.i64.wrap ((s.k : Int) + 1) = (s.k : Int) + 1 := IntWalk.i64_in _ (by omega)
        obtain ⟨hp2, hb2⟩ := HP1.out.nxt hlt
        have hgb : g ≠ b := Nat.ne_of_gt hl
        have HG2 := Lib.hid (keepB HG1.out (Ex.one b W1 1 (.int .i64 ((s.k : Int) + 1))) hgb)
        obtain ⟨⟨g0, g1, g2, g3, g4⟩, _⟩ := blk5 HG2.out
        have HA := Lib.hid (pt_put hp2 ⟨7, a, 0, [], mn, mx, 0⟩ none 0 rfl (by simp only [ObParse.nxt]; omega))
        have HB2 := Lib.hid (HB1.out.trans hb2)
        clear hp2 hb2 k1 k2 k3 k4 k5 cf
        go_wp2_with fail
        refine Calls.mono HA.out ?_
        rintro e5 w5 ⟨rfl, hs5, hb5⟩
        have HS5 := Lib.hid hs5
        have HB5 := Lib.hid (HB2.out.trans hb5)
        have hl5 := hs5.left
        clear hs5 hb5
        go_wp2_with fail
        go_roundw
        case rel => exact ⟨Lib.hid (.inl ⟨_, _, f', rfl, ⟨_, rfl⟩, HS5.out, by simp only [put, ObParse.nxt]; omega, by simp only [put, ObParse.nxt, List.length_append, List.length_singleton]; omega, by rw [HRR.out, repL_6 HT.out rfl]⟩), HB5⟩
        case measure => rw [hl5, HLF.out]; simp only [put, ObParse.nxt]; omega
      have h6f := hkd
      clear hkd
      by_cases hkd : kd W s.k = 7
      · obtain ⟨t, ht⟩ : ∃ t, W[s.k]? = some t := ⟨_, List.getElem?_eq_getElem (kd_in (by omega))⟩
        have htk : t.kind = 7 := by unfold kd at hkd; rw [ht] at hkd; exact hkd
        have h7K := Lib.hid hkd
        have hlt : s.k < W.length := (List.getElem?_eq_some_iff.1 ht).1
        obtain ⟨f', rfl⟩ : ∃ f', f = f' + 1 := ⟨f - 1, by omega⟩
        obtain ⟨kd, pl, st, mn, mx⟩ := t
        dsimp only at htk
        subst htk
        have HT := Lib.hid ht
        clear ht
        have HK := Lib.hid (HKF.out wr hs)
        rw [hkd] at HK
        clear hs hkd h6f
        go_wp2_with fail
        refine HK.out.mono ?_
        rintro e2 w2 ⟨rfl, hs2, hb2⟩
        have HK2 := Lib.hid (HKF.out w2 hs2)
        rw [h7K.out] at HK2
        have HB1b := Lib.hid hb2
        clear hs2 hb2
        go_wp2_with fail
        refine HK2.out.mono ?_
        rintro e2b w2b ⟨rfl, hs2, hb2b⟩
        have hb2 := HB1b.out.trans hb2b
        clear hb2b HK2 HB1b HK
        generalize w2b = w2 at *
        have HB2 := Lib.hid (HB.out.trans hb2)
        have HP2 := Lib.hid hs2
        have hl := hs2.lt
        obtain ⟨⟨A, c, h1, h2, h3, h4⟩, h5⟩ := hs2
        obtain ⟨bb, off, As, ks, rfl, hbl, ⟨p0, p1, p2, p3, p4⟩, hr⟩ := h3 s.k _ HT.out
        dsimp only at p0 p1 p2 p3 p4
        have hlt' : (s.k : Int) < (W.length : Int) := by omega
        obtain ⟨⟨c0, c1, _, _, _, _, _, _, _⟩, _⟩ := blk9 h1
        have hal := (Below.refl w2.heap.size w2).alloc (Nat.le_refl _) (.cells #[.int .i64 0, .int .i64 0, .slice none 0 0, .int .i64 0, .int .i64 0] 40)
        have m0 := (hal.cell (p := ⟨b, 0, none⟩) hl).trans c0
        have m1 := (hal.cell (p := ⟨b, 1, none⟩) hl).trans c1
        have hbw : bb < w2.heap.size := by omega
        have q0 := (hal.cell (p := ⟨bb, _, none⟩) hbw).trans p0
        have q1 := (hal.cell (p := ⟨bb, _, none⟩) hbw).trans p1
        have q2 := (hal.cell (p := ⟨bb, _, none⟩) hbw).trans p2
        have q3 := (hal.cell (p := ⟨bb, _, none⟩) hbw).trans p3
        have q4 := (hal.cell (p := ⟨bb, _, none⟩) hbw).trans p4
        have hal2 := (Below.refl w2.heap.size w2).alloc (Nat.le_refl _) (.cells #[.int .i64 7, .int .i64 pl, .slice As st.length ks, .int .i64 mn, .int .i64 mx] 40)
        have HP1 := Lib.hid (HP2.out.below hal2.drew)
        have HG1 : Hid ((w2.alloc (.cells #[.int .i64 7, .int .i64 pl, .slice As st.length ks, .int .i64 mn, .int .i64 mx] 40)).drew.heap[w2.heap.size]? = some (.cells #[.int .i64 7, .int .i64 pl, .slice As st.length ks, .int .i64 mn, .int .i64 mx] 40)) := Lib.hid (heap_new w2 _)
        have HB1 := Lib.hid (HB2.out.trans (hal2.drew.mono (Nat.le_of_lt hl)))
        clear h1 h2 h3 h4 h5 hr hal hal2 hb2
        go_wp2_with fail
        go_region
        clear c0 c1 m0 m1 q0 q1 q2 q3 q4 p0 p1 p2 p3 p4 HP2
        generalize (w2.alloc (.cells #[.int .i64 7, .int .i64 pl, .slice As st.length ks, .int .i64 mn, .int .i64 mx] 40)).drew = W1 at *
        generalize w2.heap.size = g at *
        have HP1' := HP1.out
        obtain ⟨⟨A1, cc1, k1, k2, k3, k4⟩, k5⟩ := HP1'
        obtain ⟨⟨c0, c1, c2, c3, c4, c5, c6, c7, c8⟩, cf⟩ := blk9 k1
        have cf1 := cf 1
        have ew : IntKind.i64.wrap ((s.k : Int) + 1) = (s.k : Int) + 1 := IntWalk.i64_in _ (by omega)
        obtain ⟨hp2, hb2⟩ := HP1.out.nxt hlt
        have hgb : g ≠ b := Nat.ne_of_gt hl
        have HG2 := Lib.hid (keepB HG1.out (Ex.one b W1 1 (.int .i64 ((s.k : Int) + 1))) hgb)
        obtain ⟨⟨g0, g1, g2, g3, g4⟩, _⟩ := blk5 HG2.out
        have HA := Lib.hid (pt_put hp2 ⟨9, a, 0, [], 0, 0, mn⟩ none 0 rfl (by simp only [ObParse.nxt]; omega))
        have HB2 := Lib.hid (HB1.out.trans hb2)
        clear hp2 hb2 k1 k2 k3 k4 k5 cf
        go_wp2_with fail
        refine Calls.mono HA.out ?_
        rintro e5 w5 ⟨rfl, hs5, hb5⟩
        have HS5 := Lib.hid hs5
        have HB5 := Lib.hid (HB2.out.trans hb5)
        have hl5 := hs5.left
        clear hs5 hb5
        go_wp2_with fail
        go_roundw
        case rel => exact ⟨Lib.hid (.inl ⟨_, _, f', rfl, ⟨_, rfl⟩, HS5.out, by simp only [put, ObParse.nxt]; omega, by simp only [put, ObParse.nxt, List.length_append, List.length_singleton]; omega, by rw [HRR.out, repL_7 HT.out rfl]⟩), HB5⟩
        case measure => rw [hl5, HLF.out]; simp only [put, ObParse.nxt]; omega
      have h7f := hkd
      clear hkd
      have HE := Lib.hid (show R = .ok (s, a) by rw [HRR.out, repL_no h6f h7f])
      have e6 : (kd W s.k == 6) = false := beq_eq_false_iff_ne.2 h6f
      have e7 : (kd W s.k == 7) = false := beq_eq_false_iff_ne.2 h7f
      have HK := Lib.hid (HKF.out wr hs)
      clear h6f h7f HRR hs
      generalize kd W s.k = c at *
      go_wp2_with fail
      refine HK.out.mono ?_
      rintro e2 w2 ⟨rfl, hs2, hb2⟩
      have HK2 := Lib.hid (HKF.out w2 hs2)
      have HB2 := Lib.hid (HB.out.trans hb2)
      clear hs2 hb2
      go_wp2_with fail
      refine HK2.out.mono ?_
      rintro e3 w3 ⟨rfl, hs3, hb3⟩
      have HS3 := Lib.hid hs3
      have HB3 := Lib.hid (HB2.out.trans hb3)
      clear hs3 hb3
      go_wp2_with fail
      go_ret
      refine ⟨HB3.out, ⟨fun s' a' h => ?_, fun er h => ?_⟩⟩
      · rw [HE.out] at h; injection h with h; injection h with h1 h2; subst h1 h2; exact ⟨⟨za, HZA.out⟩, rfl, HS3.out⟩
      · rw [HE.out] at h; cases h
    · have HK := Lib.hid (pj_next hj)
      have HKJ := Lib.hid (fun (W' : World) (h : Pj W' b Aw cw W N cu er m o) => pj_next h)
      have HE := Lib.hid hR
      clear hj hR
      go_wp2_with fail
      refine HK.out.mono ?_
      rintro e2 w2 ⟨rfl, hj2, hb2⟩
      have HK2 := Lib.hid (HKJ.out w2 hj2)
      have HB2 := Lib.hid (HB.out.trans hb2)
      clear hj2 hb2
      go_wp2_with fail
      refine HK2.out.mono ?_
      rintro e3 w3 ⟨rfl, hj3, hb3⟩
      have HJ := Lib.hid hj3
      have HB3 := Lib.hid (HB2.out.trans hb3)
      clear hj3 hb3
      go_wp2_with fail
      go_ret
      refine ⟨HB3.out, ⟨fun s' a' h => ?_, fun er' h => ?_⟩⟩
      · rw [HE.out] at h; cases h
      · rw [HE.out] at h; injection h with h; subst h; exact ⟨⟨z, rfl⟩, HJ.out⟩
end Go.Proofs.YtceeimolfalmpaaGreatDoor.T

namespace Go.Proofs.YtceeimolfalmpaaGreatDoor.T
open Go.RowKit ObSets ObTree ObParse
open Go.Proofs.YtceeimolfalmpaaGreatDoor (tv fv)

/-- How many words are left, by the parser's block; none where there is a fault. -/
def leftP (b n : Nat) (w : World) : Nat := match w.cell? ⟨b, 7, none⟩ with | some (.int _ e) => if e = 0 then leftW b n w else 0 | _ => 0
theorem Pt.leftP {w : World} {b : Nat} {Aw : Option Addr} {cw : Nat} {W : List ObLex.T} {N : Nat} {cu : Bool} {s : St} {o : Nat} (h : Pt w b Aw cw W N cu s o) : leftP b W.length w = W.length - s.k := by
  rw [← h.left]
  obtain ⟨⟨A, c, h1, _⟩, _⟩ := h
  obtain ⟨⟨_, _, _, _, _, _, _, c7, _⟩, _⟩ := blk9 h1
  unfold T.leftP; rw [c7]; simp
theorem Pj.leftP {w : World} {b : Nat} {Aw : Option Addr} {cw : Nat} {W : List ObLex.T} {N : Nat} {cu : Bool} {er : Er} {m o : Nat} (h : Pj w b Aw cw W N cu er m o) : leftP b W.length w = 0 := by
  obtain ⟨A, c, n, l, k, cp, e, f, _, _, h1, _, _, he, _⟩ := h
  obtain ⟨⟨_, _, _, _, _, _, _, c7, _⟩, _⟩ := blk9 h1
  unfold T.leftP; rw [c7]; simp [he]
section
variable {b : Nat} {Aw : Option Addr} {cw : Nat} {W : List ObLex.T} {N : Nat} {cu : Bool} {o m M : Nat} {al : Option (St → PR)}
/-- What is still to come of a cat: nothing has been read; a part has; there is a fault. -/
def CatQ (b : Nat) (Aw : Option Addr) (cw : Nat) (W : List ObLex.T) (N : Nat) (cu : Bool) (o m M : Nat) (al : Option (St → PR)) (s0 : St) (v : Value) (w : World) : Prop :=
  (v = .int .i64 (-1) ∧ Pt w b Aw cw W N cu s0 o) ∨
  (∃ (s : St) (a f : Nat), v = .int .i64 (a : Int) ∧ Pt w b Aw cw W N cu s o ∧ W.length ≤ s.k + f ∧ s.L.length + 2 * (W.length - s.k) ≤ M + 1 ∧ (kd W s.k ≠ 6 ∧ kd W s.k ≠ 7) ∧ s0.k < s.k ∧ rowL W 5 (moreC W) (rep W al) f s (a : Int) = cat W al s0) ∨
  (∃ (z : Nat) (er : Er), v = .int .i64 (z : Int) ∧ cat W al s0 = .error er ∧ Pj w b Aw cw W N cu er (m + 1) o)
theorem catQ_done {s0 : St} {v : Value} {w : World} (h : CatQ b Aw cw W N cu o m M al s0 v w) : ∃ x : Int, v = .int .i64 x := by
  rcases h with ⟨h, _⟩ | ⟨_, a, _, h, _⟩ | ⟨z, _, h, _⟩
  · exact ⟨_, h⟩
  · exact ⟨_, h⟩
  · exact ⟨_, h⟩
theorem cat_beg {s : St} (hb : beg (kd W s.k)) : cat W al s = (match rep W al s with | .error e => .error e | .ok p => rowL W 5 (moreC W) (rep W al) W.length p.1 p.2) := by
  unfold cat
  rw [if_pos hb]
  cases rep W al s <;> rfl
set_option maxHeartbeats 4000000 in
set_option maxRecDepth 100000 in
theorem pcat_any {w : World} {s0 : St} (h : Pt w b Aw cw W N cu s0 o) (hW : W.length ≤ 1000) (hf : FitO W al) (hM : s0.L.length + 2 * (W.length - s0.k) ≤ M) (hMm : M ≤ 19000) (hMM : M ≤ m) (hm : m ≤ 29000)
    (HREP : ∀ w s, Pt w b Aw cw W N cu s o → beg (kd W s.k) → s.L.length + 2 * (W.length - s.k) ≤ M + 1 → Calls Tryz.prog 138 #[ptr b] w (RetG b Aw cw W N cu o m (rep W al s) w)) :
    Calls Tryz.prog 99 #[ptr b] w (RetG b Aw cw W N cu o (m + 1) (cat W al s0) w) := by
  obtain ⟨R, hR⟩ : ∃ R : PR, cat W al s0 = R := ⟨_, rfl⟩
  rw [hR]
  have HR := Lib.hid hR; have HREP := Lib.hid HREP; have HPT := Lib.hid h; have HFO := Lib.hid hf
  have HKF := Lib.hid (fun (W' : World) (s : St) (h : Pt W' b Aw cw W N cu s o) => pt_next h)
  have HKJ := Lib.hid (fun (W' : World) (er : Er) (m : Nat) (h : Pj W' b Aw cw W N cu er m o) => pj_next h)
  have HST := Lib.hid starts_any
  clear h hf hR
  go_enter Tryz.func99, Tryz.ntmps99
  go_wp2_with fail
  go_loopw [3] (fun v wr => Hid (CatQ b Aw cw W N cu o m M al s0 v wr) ∧ Hid (Below b w wr)) (fun _ wr => leftP b W.length wr)
  case atStart => exact ⟨Lib.hid (.inl ⟨rfl, HPT.out⟩), Lib.hid (Below.refl _ _)⟩
  case round =>
    obtain ⟨HQ, HB⟩ := hrel
    rcases HQ.out with ⟨rfl, hs⟩ | ⟨s, a, f, rfl, hs, hfu, hphi, h67, hks, hRow⟩ | ⟨z, er, rfl, hE, hj⟩
    · have HK := Lib.hid (HKF.out wr s0 hs)
      have HLF := Lib.hid hs.leftP
      clear HQ hs HPT
      by_cases hb : beg (kd W s0.k)
      · have HBEG := Lib.hid hb
        have HSA := Lib.hid (fun w' => HST.out (kd W s0.k) w')
        rw [decide_eq_true hb] at HSA
        have hlt := kd_beg hb
        clear hb
        generalize hc : kd W s0.k = c at *
        have HC := Lib.hid hc
        clear hc
        go_wp2_with fail
        refine HK.out.mono ?_
        rintro e2 w2 ⟨rfl, hs2, hb2⟩
        have HS2 := Lib.hid hs2
        have HB2 := Lib.hid (HB.out.trans hb2)
        clear hs2 hb2
        go_wp2_with fail
        refine (HSA.out w2).mono ?_
        rintro e3 w3 ⟨rfl, rfl⟩
        have HRP := Lib.hid (HREP.out _ s0 HS2.out (by rw [HC.out]; exact HBEG.out) (by omega))
        go_wp2_with fail
        refine Calls.mono HRP.out ?_
        rintro e4 w4 ⟨hb4, hok, herr⟩
        have HB4 := Lib.hid (HB2.out.trans hb4)
        cases hp : rep W al s0 with
        | error er =>
          obtain ⟨⟨z, rfl⟩, hj⟩ := herr er hp
          have HE := Lib.hid (show cat W al s0 = .error er by rw [cat_beg (by rw [HC.out]; exact HBEG.out), hp])
          have HJ := Lib.hid (hj.below (Nat.le_succ m) (Below.refl _ _))
          have hlj := HJ.out.leftP
          clear hok herr hj hb4 hp
          go_wp2_with fail
          go_roundw
          case rel => exact ⟨Lib.hid (.inr (.inr ⟨z, er, rfl, HE.out, HJ.out⟩)), HB4⟩
          case measure => rw [hlj, HLF.out]; omega
        | ok p =>
          obtain ⟨s', a⟩ := p
          obtain ⟨⟨za, rfl⟩, rfl, hs4⟩ := hok s' a hp
          have hfit := rep_fit HFO.out s0 s' _ (Nat.le_of_lt hlt) hp
          have HEND := Lib.hid (rep_end hp)
          have HE := Lib.hid (show rowL W 5 (moreC W) (rep W al) W.length s' (za : Int) = cat W al s0 by rw [cat_beg (by rw [HC.out]; exact HBEG.out), hp])
          have HS4 := Lib.hid hs4
          have hlj := hs4.leftP
          clear hok herr hs4 hb4 hp
          go_wp2_with fail
          go_roundw
          case rel => exact ⟨Lib.hid (.inr (.inl ⟨s', za, W.length, rfl, HS4.out, by omega, by omega, HEND.out, hfit.1, HE.out⟩)), HB4⟩
          case measure => rw [hlj, HLF.out]; omega
      · have HSA := Lib.hid (fun w' => HST.out (kd W s0.k) w')
        rw [decide_eq_false hb] at HSA
        have HNB := Lib.hid hb
        clear hb
        by_cases h67 : kd W s0.k = 6 ∨ kd W s0.k = 7
        · obtain ⟨t, ht⟩ : ∃ t, W[s0.k]? = some t := ⟨_, List.getElem?_eq_getElem (kd_in (by omega))⟩
          have HE := Lib.hid (show R = .error (some (4, t.at_)) by rw [← HR.out]; unfold cat at_; rw [if_neg HNB.out, if_pos h67, ht])
          have HT := Lib.hid ht
          obtain ⟨c, hc, hc67⟩ : ∃ c, kd W s0.k = c ∧ (c = 6 ∨ c = 7) := ⟨_, rfl, h67⟩
          have HC := Lib.hid hc
          rw [hc] at HK HSA
          clear ht h67 hc
          go_wp2_with fail
          refine HK.out.mono ?_
          rintro e2 w2 ⟨rfl, hs2, hb2⟩
          have HK2 := Lib.hid (HKF.out w2 s0 hs2)
          rw [HC.out] at HK2
          have HB2 := Lib.hid (HB.out.trans hb2)
          clear hs2 hb2
          go_wp2_with fail
          refine (HSA.out w2).mono ?_
          rintro e3 w3 ⟨rfl, rfl⟩
          go_wp2_with fail
          refine HK2.out.mono ?_
          rintro e4 w4 ⟨rfl, hs4, hb4⟩
          have HF := Lib.hid (pt_fails hs4 HT.out (why := 4) (by decide) (show s0.L.length ≤ m by omega))
          have HB4 := Lib.hid (HB2.out.trans hb4)
          clear hs4 hb4
          rcases hc67 with rfl | rfl
          all_goals
            go_wp2_with fail
            refine HF.out.mono ?_
            rintro e5 w5 ⟨rfl, hj5, hb5⟩
            have HA := Lib.hid (pj_put hj5 ⟨1, 0, 0, [], 0, 0, 0⟩ none 0 rfl (by omega))
            have HB5 := Lib.hid (HB4.out.trans hb5)
            clear hj5 hb5
            go_wp2_with fail
            refine Calls.mono HA.out ?_
            rintro e6 w6 ⟨⟨z, rfl⟩, hj6, hb6⟩
            have HJ := Lib.hid hj6
            have HB6 := Lib.hid (HB5.out.trans hb6)
            clear hj6 hb6
            go_wp2_with fail
            go_ret
            refine ⟨HB6.out, ⟨fun s' a' h => ?_, fun er' h => ?_⟩⟩
            · rw [HE.out] at h; cases h
            · rw [HE.out] at h; injection h with h; subst h; exact ⟨⟨z, rfl⟩, HJ.out⟩
        · have HE := Lib.hid (show R = .ok (put s0 ⟨1, 0, 0, [], 0, 0, 0⟩) by rw [← HR.out]; unfold cat; rw [if_neg HNB.out, if_neg h67])
          have e6 : (kd W s0.k == 6) = false := beq_eq_false_iff_ne.2 (fun h => h67 (.inl h))
          have e7 : (kd W s0.k == 7) = false := beq_eq_false_iff_ne.2 (fun h => h67 (.inr h))
          have HKF0 := Lib.hid (fun (W' : World) (h : Pt W' b Aw cw W N cu s0 o) => HKF.out W' s0 h)
          clear h67 HNB
          generalize kd W s0.k = c at *
          go_wp2_with fail
          refine HK.out.mono ?_
          rintro e2 w2 ⟨rfl, hs2, hb2⟩
          have HK2 := Lib.hid (HKF0.out w2 hs2)
          have HB2 := Lib.hid (HB.out.trans hb2)
          clear hs2 hb2
          go_wp2_with fail
          refine (HSA.out w2).mono ?_
          rintro e3 w3 ⟨rfl, rfl⟩
          go_wp2_with fail
          refine HK2.out.mono ?_
          rintro e4 w4 ⟨rfl, hs4, hb4⟩
          have HA := Lib.hid (pt_put hs4 ⟨1, 0, 0, [], 0, 0, 0⟩ none 0 rfl (by omega))
          have HB4 := Lib.hid (HB2.out.trans hb4)
          clear hs4 hb4
          go_wp2_with fail
          refine HA.out.mono ?_
          rintro e5 w5 ⟨rfl, hs5, hb5⟩
          have HS5 := Lib.hid hs5
          have HB5 := Lib.hid (HB4.out.trans hb5)
          clear hs5 hb5
          go_wp2_with fail
          go_ret
          refine ⟨HB5.out, ⟨fun s2 a2 h => ?_, fun er' h => ?_⟩⟩
          · rw [HE.out] at h; injection h with h
            have h1 := congrArg Prod.fst h; have h2 := congrArg Prod.snd h
            dsimp only at h1 h2
            subst h1 h2
            exact ⟨⟨_, rfl⟩, rfl, HS5.out⟩
          · rw [HE.out] at h; cases h
    · have HK := Lib.hid (HKF.out wr s hs)
      have HLF := Lib.hid hs.leftP
      have HROW := Lib.hid hRow
      have H67 := Lib.hid h67
      have hna : decide ((a : Int) < 0) = false := decide_eq_false (by omega)
      have hna2 : (0 : Int) ≤ (a : Int) := by omega
      have hkl : s.k ≤ W.length := by obtain ⟨⟨_, _, _, _, _, h4⟩, _⟩ := hs; exact h4
      clear HQ hs hRow h67 HPT
      by_cases hb : beg (kd W s.k)
      · have hmo : moreC W s = some s := by unfold moreC; rw [if_pos hb]
        have HMO := Lib.hid hmo
        have hlt := kd_beg hb
        obtain ⟨f', rfl⟩ : ∃ f', f = f' + 1 := ⟨f - 1, by omega⟩
        have HBEG := Lib.hid hb
        have HSA := Lib.hid (fun w' => HST.out (kd W s.k) w')
        rw [decide_eq_true hb] at HSA
        clear hb hmo
        generalize hc : kd W s.k = c at *
        have HC := Lib.hid hc
        clear hc
        go_wp2_with fail
        refine HK.out.mono ?_
        rintro e2 w2 ⟨rfl, hs2, hb2⟩
        have HS2 := Lib.hid hs2
        have HB2 := Lib.hid (HB.out.trans hb2)
        clear hs2 hb2
        go_wp2_with fail
        refine (HSA.out w2).mono ?_
        rintro e3 w3 ⟨rfl, rfl⟩
        have HRP := Lib.hid (HREP.out _ s HS2.out (by rw [HC.out]; exact HBEG.out) (by omega))
        go_wp2_with fail
        refine Calls.mono HRP.out ?_
        rintro e4 w4 ⟨hb4, hok, herr⟩
        have HB4 := Lib.hid (HB2.out.trans hb4)
        cases hp : rep W al s with
        | error er =>
          obtain ⟨⟨z, rfl⟩, hj⟩ := herr er hp
          have HE := Lib.hid (show cat W al s0 = .error er by rw [← HROW.out]; exact rowL_err HMO.out hp f' _)
          have HA := Lib.hid (pj_put hj ⟨5, (a : Int), (z : Int), [], 0, 0, 0⟩ none 0 rfl (by omega))
          clear hok herr hj hb4 hp
          go_wp2_with fail
          refine Calls.mono HA.out ?_
          rintro e5 w5 ⟨⟨z5, rfl⟩, hj5, hb5⟩
          have HJ := Lib.hid hj5
          have HB5 := Lib.hid (HB4.out.trans hb5)
          have hlj := hj5.leftP
          clear hj5 hb5
          go_wp2_with fail
          go_roundw
          case rel => exact ⟨Lib.hid (.inr (.inr ⟨z5, er, rfl, HE.out, HJ.out⟩)), HB5⟩
          case measure => rw [hlj, HLF.out]; omega
        | ok p =>
          obtain ⟨s', c'⟩ := p
          obtain ⟨⟨za, rfl⟩, rfl, hs4⟩ := hok s' c' hp
          have hfit := rep_fit HFO.out s s' _ (Nat.le_of_lt hlt) hp
          have HEND := Lib.hid (rep_end hp)
          have HE := Lib.hid (show rowL W 5 (moreC W) (rep W al) f' (put s' ⟨5, (a : Int), (za : Int), [], 0, 0, 0⟩).1 (put s' ⟨5, (a : Int), (za : Int), [], 0, 0, 0⟩).2 = cat W al s0 by rw [← HROW.out]; exact (rowL_go HMO.out hp f' _).symm)
          have HA := Lib.hid (pt_put hs4 ⟨5, (a : Int), (za : Int), [], 0, 0, 0⟩ none 0 rfl (by omega))
          clear hok herr hs4 hb4 hp
          go_wp2_with fail
          refine HA.out.mono ?_
          rintro e5 w5 ⟨rfl, hs5, hb5⟩
          have HS5 := Lib.hid hs5
          have HB5 := Lib.hid (HB4.out.trans hb5)
          have hlj := hs5.leftP
          clear hs5 hb5
          go_wp2_with fail
          go_roundw
          case rel => exact ⟨Lib.hid (.inr (.inl ⟨_, s'.L.length, f', rfl, HS5.out, by simp only [put]; omega, by simp only [put, List.length_append, List.length_singleton]; omega, HEND.out, by simp only [put]; omega, HE.out⟩)), HB5⟩
          case measure => rw [hlj, HLF.out]; simp only [put]; omega
      · have hmo : moreC W s = none := by unfold moreC; rw [if_neg hb]
        have HE := Lib.hid (show R = .ok (s, (a : Int)) by rw [← HR.out, ← HROW.out]; exact rowL_none hmo f _)
        have HSA := Lib.hid (fun w' => HST.out (kd W s.k) w')
        rw [decide_eq_false hb] at HSA
        have e6 : (kd W s.k == 6) = false := beq_eq_false_iff_ne.2 H67.out.1
        have e7 : (kd W s.k == 7) = false := beq_eq_false_iff_ne.2 H67.out.2
        have HKF0 := Lib.hid (fun (W' : World) (h : Pt W' b Aw cw W N cu s o) => HKF.out W' s h)
        clear hb hmo H67
        generalize kd W s.k = c at *
        go_wp2_with fail
        refine HK.out.mono ?_
        rintro e2 w2 ⟨rfl, hs2, hb2⟩
        have HK2 := Lib.hid (HKF0.out w2 hs2)
        have HB2 := Lib.hid (HB.out.trans hb2)
        clear hs2 hb2
        go_wp2_with fail
        refine (HSA.out w2).mono ?_
        rintro e3 w3 ⟨rfl, rfl⟩
        go_wp2_with fail
        refine HK2.out.mono ?_
        rintro e4 w4 ⟨rfl, hs4, hb4⟩
        have HS4 := Lib.hid hs4
        have HB4 := Lib.hid (HB2.out.trans hb4)
        clear hs4 hb4
        go_wp2_with fail
        go_ret
        refine ⟨HB4.out, ⟨fun s2 a2 h => ?_, fun er' h => ?_⟩⟩
        · rw [HE.out] at h; injection h with h; injection h with h1 h2; subst h1 h2; exact ⟨⟨a, rfl⟩, rfl, HS4.out⟩
        · rw [HE.out] at h; cases h
    · have HK := Lib.hid (HKJ.out wr er (m + 1) hj)
      have HE := Lib.hid (show R = .error er by rw [← HR.out, hE])
      have hna : decide ((z : Int) < 0) = false := decide_eq_false (by omega)
      have hna2 : (0 : Int) ≤ (z : Int) := by omega
      have HSA := Lib.hid (fun w' => HST.out 0 w')
      rw [show decide (beg 0) = false from rfl] at HSA
      clear hE hj HQ HPT
      go_wp2_with fail
      refine HK.out.mono ?_
      rintro e2 w2 ⟨rfl, hj2, hb2⟩
      have HK2 := Lib.hid (HKJ.out w2 er (m + 1) hj2)
      have HB2 := Lib.hid (HB.out.trans hb2)
      clear hj2 hb2
      go_wp2_with fail
      refine (HSA.out w2).mono ?_
      rintro e3 w3 ⟨rfl, rfl⟩
      go_wp2_with fail
      refine HK2.out.mono ?_
      rintro e4 w4 ⟨rfl, hj4, hb4⟩
      have HJ := Lib.hid hj4
      have HB4 := Lib.hid (HB2.out.trans hb4)
      clear hj4 hb4
      go_wp2_with fail
      go_ret
      refine ⟨HB4.out, ⟨fun s' a' h => ?_, fun er' h => ?_⟩⟩
      · rw [HE.out] at h; cases h
      · rw [HE.out] at h; injection h with h; subst h; exact ⟨⟨z, rfl⟩, HJ.out⟩
end
end Go.Proofs.YtceeimolfalmpaaGreatDoor.T

namespace Go.Proofs.YtceeimolfalmpaaGreatDoor.T
open Go.RowKit ObSets ObTree ObParse
open Go.Proofs.YtceeimolfalmpaaGreatDoor (tv fv)

section
variable {b : Nat} {Aw : Option Addr} {cw : Nat} {W : List ObLex.T} {N : Nat} {cu : Bool} {o m M : Nat} {al : Option (St → PR)}
/-- What is still to come of an alt, or that there is a fault. -/
def AltQ (b : Nat) (Aw : Option Addr) (cw : Nat) (W : List ObLex.T) (N : Nat) (cu : Bool) (o m M : Nat) (al : Option (St → PR)) (R : PR) (v : Value) (w : World) : Prop :=
  (∃ (s : St) (a f : Nat), v = .int .i64 (a : Int) ∧ Pt w b Aw cw W N cu s o ∧ W.length ≤ s.k + f ∧ s.L.length + 2 * (W.length - s.k) ≤ M + 1 ∧ rowL W 6 (moreA W) (cat W al) f s (a : Int) = R) ∨
  (∃ (z : Nat) (er : Er), v = .int .i64 (z : Int) ∧ R = .error er ∧ Pj w b Aw cw W N cu er (m + 1) o)
set_option maxHeartbeats 4000000 in
set_option maxRecDepth 100000 in
theorem palt_any {w : World} {s0 : St} (h : Pt w b Aw cw W N cu s0 o) (hW : W.length ≤ 1000) (hf : FitO W al) (hM : s0.L.length + 2 * (W.length - s0.k) ≤ M) (hMm : M ≤ 19000) (hm : m ≤ 29000)
    (HCAT : ∀ w s, Pt w b Aw cw W N cu s o → s.L.length + 2 * (W.length - s.k) ≤ M → Calls Tryz.prog 99 #[ptr b] w (RetG b Aw cw W N cu o m (cat W al s) w)) :
    Calls Tryz.prog 60 #[ptr b] w (RetG b Aw cw W N cu o (m + 1) (alt W al s0) w) := by
  obtain ⟨R, hR⟩ : ∃ R : PR, alt W al s0 = R := ⟨_, rfl⟩
  rw [hR]
  have hkl0 : s0.k ≤ W.length := by obtain ⟨⟨_, _, _, _, _, h4⟩, _⟩ := h; exact h4
  have HR := Lib.hid (show (match cat W al s0 with | .error e => .error e | .ok p => rowL W 6 (moreA W) (cat W al) W.length p.1 p.2) = R by rw [← hR]; unfold alt; cases cat W al s0 <;> rfl)
  have HC0 := Lib.hid (HCAT w s0 h hM)
  have HCAT := Lib.hid HCAT; have HFO := Lib.hid hf
  have HKF := Lib.hid (fun (W' : World) (s : St) (h : Pt W' b Aw cw W N cu s o) => pt_next h)
  have HKJ := Lib.hid (fun (W' : World) (er : Er) (m : Nat) (h : Pj W' b Aw cw W N cu er m o) => pj_next h)
  clear h hf hR
  go_enter Tryz.func60, Tryz.ntmps60
  go_wp2_with fail
  refine Calls.mono HC0.out ?_
  rintro e1 w1 ⟨hb1, hok, herr⟩
  have hst : ∃ v, e1 = .returned v ∧ AltQ b Aw cw W N cu o m M al R v w1 := by
    cases hp : cat W al s0 with
    | error er =>
      obtain ⟨⟨z, rfl⟩, hj⟩ := herr er hp
      exact ⟨_, rfl, .inr ⟨z, er, rfl, by rw [← HR.out, hp], hj.below (Nat.le_succ m) (Below.refl _ _)⟩⟩
    | ok p =>
      obtain ⟨s', a⟩ := p
      obtain ⟨⟨za, rfl⟩, rfl, hs⟩ := hok s' a hp
      have hfit := cat_fit HFO.out s0 s' _ hkl0 hp
      exact ⟨_, rfl, .inl ⟨s', za, W.length, rfl, hs, by omega, by omega, by rw [← HR.out, hp]⟩⟩
  obtain ⟨v1, rfl, hra⟩ := hst
  have HRA := Lib.hid hra
  have HB1 := Lib.hid hb1
  clear hok herr hra hb1 HC0
  go_wp2_with fail
  go_loopw [3] (fun v wr => Hid (AltQ b Aw cw W N cu o m M al R v wr) ∧ Hid (Below b w wr)) (fun _ wr => leftP b W.length wr)
  case atStart => exact ⟨HRA, HB1⟩
  case round =>
    obtain ⟨HQ, HB⟩ := hrel
    rcases HQ.out with ⟨s, a, f, rfl, hs, hfu, hphi, hRow⟩ | ⟨z, er, rfl, hE, hj⟩
    · have HK := Lib.hid (HKF.out wr s hs)
      have HLF := Lib.hid hs.leftP
      have HROW := Lib.hid hRow
      have hkl : s.k ≤ W.length := by obtain ⟨⟨_, _, _, _, _, h4⟩, _⟩ := hs; exact h4
      clear HQ hs hRow
      by_cases h5 : kd W s.k = 5
      · have hmo : moreA W s = some (nxt s) := by unfold moreA; rw [if_pos h5]
        have HMO := Lib.hid hmo
        have hlt : s.k < W.length := kd_in (by omega)
        obtain ⟨f', rfl⟩ : ∃ f', f = f' + 1 := ⟨f - 1, by omega⟩
        rw [h5] at HK
        clear h5 hmo
        go_wp2_with fail
        refine HK.out.mono ?_
        rintro e2 w2 ⟨rfl, hs2, hb2⟩
        obtain ⟨hs3, hb3⟩ := hs2.nxt hlt
        have HB3 := Lib.hid ((HB.out.trans hb2).trans hb3)
        have HCC := Lib.hid (HCAT.out _ (nxt s) hs3 (by simp only [ObParse.nxt]; omega))
        obtain ⟨⟨A2, c2, k1, _, _, _⟩, _⟩ := hs2
        obtain ⟨⟨_, c1, _, _, _, _, _, _, _⟩, cf⟩ := blk9 k1
        have cf1 := cf 1
        have ew : IntKind.i64.wrap ((s.k : Int) + 1) = (s.k : Int) + 1 := IntWalk.i64_in _ (by omega)
        clear hb2 hs3 hb3 k1 cf
        go_wp2_with fail
        refine Calls.mono HCC.out ?_
        rintro e4 w4 ⟨hb4, hok, herr⟩
        have HB4 := Lib.hid (HB3.out.trans hb4)
        clear c1 cf1
        cases hp : cat W al (nxt s) with
        | error er =>
          obtain ⟨⟨z, rfl⟩, hj⟩ := herr er hp
          have HE := Lib.hid (show R = .error er by rw [← HROW.out]; exact rowL_err HMO.out hp f' _)
          have HA := Lib.hid (pj_put hj ⟨6, (a : Int), (z : Int), [], 0, 0, 0⟩ none 0 rfl (by omega))
          clear hok herr hj hb4 hp
          go_wp2_with fail
          refine Calls.mono HA.out ?_
          rintro e5 w5 ⟨⟨z5, rfl⟩, hj5, hb5⟩
          have HJ := Lib.hid hj5
          have HB5 := Lib.hid (HB4.out.trans hb5)
          have hlj := hj5.leftP
          clear hj5 hb5
          go_wp2_with fail
          go_roundw
          case rel => exact ⟨Lib.hid (.inr ⟨z5, er, rfl, HE.out, HJ.out⟩), HB5⟩
          case measure => rw [hlj, HLF.out]; omega
        | ok p =>
          obtain ⟨s', c'⟩ := p
          obtain ⟨⟨za, rfl⟩, rfl, hs4⟩ := hok s' c' hp
          have hfit := moreA_fit HFO.out s (nxt s) s' _ hkl HMO.out hp
          have HE := Lib.hid (show rowL W 6 (moreA W) (cat W al) f' (put s' ⟨6, (a : Int), (za : Int), [], 0, 0, 0⟩).1 (put s' ⟨6, (a : Int), (za : Int), [], 0, 0, 0⟩).2 = R by rw [← HROW.out]; exact (rowL_go HMO.out hp f' _).symm)
          have HA := Lib.hid (pt_put hs4 ⟨6, (a : Int), (za : Int), [], 0, 0, 0⟩ none 0 rfl (by omega))
          clear hok herr hs4 hb4 hp
          go_wp2_with fail
          refine HA.out.mono ?_
          rintro e5 w5 ⟨rfl, hs5, hb5⟩
          have HS5 := Lib.hid hs5
          have HB5 := Lib.hid (HB4.out.trans hb5)
          have hlj := hs5.leftP
          clear hs5 hb5
          go_wp2_with fail
          go_roundw
          case rel => exact ⟨Lib.hid (.inl ⟨_, s'.L.length, f', rfl, HS5.out, by simp only [put]; omega, by simp only [put, List.length_append, List.length_singleton]; omega, HE.out⟩), HB5⟩
          case measure => rw [hlj, HLF.out]; simp only [put]; omega
      · have hmo : moreA W s = none := by unfold moreA; rw [if_neg h5]
        have HE := Lib.hid (show R = .ok (s, (a : Int)) by rw [← HROW.out]; exact rowL_none hmo f _)
        have e5 : (kd W s.k == 5) = false := beq_eq_false_iff_ne.2 h5
        clear h5 hmo
        generalize kd W s.k = c at *
        go_wp2_with fail
        refine HK.out.mono ?_
        rintro e2 w2 ⟨rfl, hs2, hb2⟩
        have HS2 := Lib.hid hs2
        have HB2 := Lib.hid (HB.out.trans hb2)
        clear hs2 hb2
        go_wp2_with fail
        go_ret
        refine ⟨HB2.out, ⟨fun s2 a2 h => ?_, fun er' h => ?_⟩⟩
        · rw [HE.out] at h; injection h with h; injection h with h1 h2; subst h1 h2; exact ⟨⟨a, rfl⟩, rfl, HS2.out⟩
        · rw [HE.out] at h; cases h
    · have HK := Lib.hid (HKJ.out wr er (m + 1) hj)
      have HE := Lib.hid hE
      clear hE hj HQ
      go_wp2_with fail
      refine HK.out.mono ?_
      rintro e2 w2 ⟨rfl, hj2, hb2⟩
      have HJ := Lib.hid hj2
      have HB2 := Lib.hid (HB.out.trans hb2)
      clear hj2 hb2
      go_wp2_with fail
      go_ret
      refine ⟨HB2.out, ⟨fun s' a' h => ?_, fun er' h => ?_⟩⟩
      · rw [HE.out] at h; cases h
      · rw [HE.out] at h; injection h with h; subst h; exact ⟨⟨z, rfl⟩, HJ.out⟩
theorem leaf_retg {w : World} {s : St} {p : St × Int} (hat : atom W al s = .ok p) (hz : ∃ z : Nat, p.2 = (z : Int)) {e : Ending} {w' : World} (h : e = .returned (.int .i64 p.2) ∧ Pt w' b Aw cw W N cu p.1 o ∧ Below b w w') : RetG b Aw cw W N cu o m (atom W al s) w e w' := by
  rw [hat]
  refine ⟨h.2.2, ⟨fun s' a hh => ?_, fun er hh => (by cases hh)⟩⟩
  injection hh with hh
  subst hh
  exact ⟨hz, h.1, h.2.1⟩
theorem plev (hset : ∀ t ∈ W, t.set.length ≤ 1000000) (hW : W.length ≤ 1000) (hMm : M ≤ 10000) (j o : Nat) (ho : o + j = 64) (w : World) (s : St) (h : Pt w b Aw cw W N cu s o) (hM : s.L.length + 2 * (W.length - s.k) ≤ M)
    (IH : o ≠ 64 → ∀ w s, Pt w b Aw cw W N cu s (o + 1) → s.L.length + 2 * (W.length - s.k) ≤ M → Calls Tryz.prog 60 #[ptr b] w (RetG b Aw cw W N cu (o + 1) (M + 10 * j + 2) (AL W (j - 1) s) w)) :
    Calls Tryz.prog 60 #[ptr b] w (RetG b Aw cw W N cu o (M + 10 * (j + 1)) (AL W j s) w) := by
  have hff := alts_fit W j
  have hf1 := alts_fit W (j - 1)
  refine (palt_any (m := M + 10 * j + 5) h hW hff hM (by omega) (by omega) fun w s hs hphi => ?_).mono fun _ _ h => h.more (by omega)
  refine pcat_any (m := M + 10 * j + 4) hs hW hff hphi (by omega) (by omega) (by omega) fun w s hs hb hphi => ?_
  have hlt := kd_beg hb
  obtain ⟨t, ht⟩ : ∃ t, W[s.k]? = some t := ⟨_, List.getElem?_eq_getElem hlt⟩
  have hkt : kd W s.k = t.kind := by unfold kd; rw [ht]
  have hfit : ∀ s' a, atom W (alts W j) s = .ok (s', a) → s.k < s'.k ∧ s'.k ≤ W.length ∧ s'.L.length + 1 ≤ s.L.length + 2 * (s'.k - s.k) := fun s' a hp => by
    have := atom_fit hff s s' a (Nat.le_of_lt hlt) hp
    exact ⟨this.1, this.2.1, this.2.2.1⟩
  rw [hkt] at hb
  unfold beg at hb
  refine prep_any (M := M + 1) hW hphi (by omega) ?_ hfit
  rcases hb with hk | hk | hk | hk | hk
  · have hat : atom W (alts W j) s = .ok (put (nxt s) ⟨2, 0, 0, t.set, 0, 0, 0⟩) := by unfold atom; rw [ht]; dsimp only; rw [if_pos hk]
    exact (pt_set hs ht hk hW (by omega) (hset t (List.mem_of_getElem? ht))).mono fun e w' h => leaf_retg hat ⟨_, rfl⟩ h
  · have hat : atom W (alts W j) s = .ok (put (nxt s) ⟨3, 0, 0, [], 0, 0, 0⟩) := by unfold atom; rw [ht]; dsimp only; rw [if_neg (by omega), if_pos hk]
    exact (pt_bol hs ht hk hW (by omega)).mono fun e w' h => leaf_retg hat ⟨_, rfl⟩ h
  · have hat : atom W (alts W j) s = .ok (put (nxt s) ⟨4, 0, 0, [], 0, 0, 0⟩) := by unfold atom; rw [ht]; dsimp only; rw [if_neg (by omega), if_neg (by omega), if_pos hk]
    exact (pt_eol hs ht hk hW (by omega)).mono fun e w' h => leaf_retg hat ⟨_, rfl⟩ h
  · refine (pt_cap (m := M + 10 * j + 2) hs ht hk hW (by omega) (by omega) j ho (fun h64 hc w hs => IH h64 w _ hs (by dsimp only; omega)) (fun s' a hp => ?_)).mono fun _ _ h => h.more (by omega)
    have g := alt_fit hf1 _ s' a (by dsimp only; omega) hp
    dsimp only at g
    omega
  · refine (pt_grp (m := M + 10 * j + 2) hs ht hk hW (by omega) (by omega) j ho (fun h64 w hs => IH h64 w _ hs (by dsimp only; omega)) (fun s' a hp => ?_)).mono fun _ _ h => h.more (by omega)
    have g := alt_fit hf1 _ s' a (by dsimp only; omega) hp
    dsimp only at g
    omega
theorem palts_any (hset : ∀ t ∈ W, t.set.length ≤ 1000000) (hW : W.length ≤ 1000) (hMm : M ≤ 10000) : ∀ (j o : Nat), o + j = 64 → ∀ (w : World) (s : St), Pt w b Aw cw W N cu s o → s.L.length + 2 * (W.length - s.k) ≤ M →
    Calls Tryz.prog 60 #[ptr b] w (RetG b Aw cw W N cu o (M + 10 * (j + 1)) (AL W j s) w) := by
  intro j
  induction j with
  | zero =>
    intro o ho w s h hM
    exact plev hset hW hMm 0 o ho w s h hM (fun h64 => absurd (by omega) h64)
  | succ j ih =>
    intro o ho w s h hM
    exact plev hset hW hMm (j + 1) o ho w s h hM (fun _ w s h hM => (ih (o + 1) (by omega) w s h hM).mono fun _ _ h => h.more (by omega))
end
end Go.Proofs.YtceeimolfalmpaaGreatDoor.T
