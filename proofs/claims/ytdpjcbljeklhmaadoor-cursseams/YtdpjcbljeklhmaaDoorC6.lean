/-
  What View of the page's own and EqView answer; what Buf of the statements leaves: a new buffer with the text, whatever the pieces. Conditions: texts of at most 1000 bytes (Buf), of at most 1000000 (View).
-/
import Derived.Test.YtdpjcbljeklhmaaDoorC5
namespace Go.Proofs.YtdpjcbljeklhmaaDoor
open Go.RowKit ObGap ObUtf

theorem own_zero {w : World} {B : Nat} {e : TypeId} {size : Nat} {v : Value} {n : Nat} {xs : List Value} (h : w.ownsRow B e size v n xs) : w.ownsRow 0 e size v n xs := by
  refine ⟨h.1, ?_⟩
  rcases h.2 with h | ⟨g, cap, cur, hv, _, hr⟩
  · exact .inl h
  · exact .inr ⟨g, cap, cur, hv, Nat.zero_le _, hr⟩
/-- A slice that the call owns: its value and its cells, nil or not. -/
theorem own_cells {w : World} {base : Nat} {v : Value} {zs : List Int} (h : w.ownsRow base 3 1 v zs.length (ints zs)) :
    ∃ A cap, v = .slice A zs.length cap ∧ U.Cells w w.heap.size A zs.length (fun j => zs.getD j 0) := by
  have h0 := h
  rcases h.2 with ⟨hv, h1⟩ | ⟨g, cap, cur, hv, _, hg, _⟩
  · exact ⟨none, 0, by rw [hv, h1], fun hn => by omega⟩
  · subst hv
    refine ⟨_, cap, rfl, fun _ => ⟨g, 0, rfl, lt_of_heap hg, fun j hj => ?_⟩⟩
    rw [Nat.zero_add, h0.cellAt j (by omega)]
    simp [hj]
set_option maxHeartbeats 400000 in
set_option maxRecDepth 100000 in
theorem rview_any (s : ByteArray) (w : World) (hs : s.size ≤ 1000000) : Calls Tryd.prog 24 #[.string s] w (RetV s w) := by
  have HB := Lib.hid ((Below.refl w.heap.size w).alloc (Nat.le_refl _) (.cells #[.slice none 0 0, .slice none 0 0] 43))
  have HA := Lib.hid (fun W => U.rall_any s W hs)
  have HO := Lib.hid (fun W => U.bounds_any s W hs)
  have HR := Lib.hid (heap_new w (.cells #[.slice none 0 0, .slice none 0 0] 43))
  go_enter Tryd.func24, Tryd.ntmps24
  go_wp2_with fail
  refine (HA.out _).mono ?_
  rintro e w1 ⟨V, rfl, h1, hb1⟩
  have hb01 := bel_trans HB.out hb1
  go_wp2_with fail
  refine (HO.out _).mono ?_
  rintro e w2 ⟨O, rfl, h2, hb2⟩
  have hb02 := bel_trans hb01 hb2
  have hr2 := (hb2.block _ (by have := hb1.size; simp at this; omega)).trans ((hb1.block _ (by simp)).trans HR.out)
  obtain ⟨t0, t1, t2, t3⟩ := Vw.cells hr2
  have h1 := own_zero (own_below h1 hb2)
  have h2 := own_zero h2
  obtain ⟨A, ca, rfl, _⟩ := own_see h1
  obtain ⟨A', ca', rfl, _⟩ := own_see h2
  have hkeep : ∀ (U : Value) (n : Nat) (xs : List Value), w2.ownsRow 0 3 1 U n xs → ((w2.setCell ⟨w.heap.size, 0, none⟩ (.slice A (syms s).length ca)).setCell ⟨w.heap.size, 1, none⟩ (.slice A' (bdsTo s (cnt s + 1)).length ca')).ownsRow 0 3 1 U n xs := fun U n xs hU => by
    refine own_keep hU fun g hg => ?_
    obtain ⟨a, ht⟩ := own_ty hU hg
    have hne := ty_ne ht hr2 (by decide)
    exact (Below.heap_setCell _ _ _ _ hne).trans (Below.heap_setCell _ _ _ _ hne)
  have K1 := Lib.hid (hkeep _ _ _ h1)
  have K2 := Lib.hid (hkeep _ _ _ h2)
  clear hkeep h1 h2
  go_wp2_with fail
  refine bodyPost_ret (v := .agg #[.slice A (syms s).length ca, .slice A' (bdsTo s (cnt s + 1)).length ca']) ?_ rfl ⟨_, _, rfl, K1.out, K2.out, ?_⟩
  · rw [results_cell1 rfl]; go_simp
  · exact (hb02.setCell (p := ⟨w.heap.size, 0, none⟩) (Nat.le_refl _) _).setCell (p := ⟨w.heap.size, 1, none⟩) (Nat.le_refl _) _
set_option maxHeartbeats 400000 in
set_option maxRecDepth 100000 in
theorem eqview_same {w : World} {V1 O1 V2 O2 : Value} {xs os : List Int} (h1 : w.ownsRow 0 3 1 V1 xs.length (ints xs)) (h2 : w.ownsRow 0 3 1 O1 os.length (ints os)) (h3 : w.ownsRow 0 3 1 V2 xs.length (ints xs)) (h4 : w.ownsRow 0 3 1 O2 os.length (ints os))
    (hx : xs.length ≤ 1000000) (ho : os.length ≤ 1000000) : Calls Tryd.prog 22 #[.agg #[V1, O1], .agg #[V2, O2]] w fun e w' => e = .returned (.bool true) ∧ Below w.heap.size w w' := by
  obtain ⟨A1, c1, rfl, k1⟩ := own_cells h1
  obtain ⟨A2, c2, rfl, k2⟩ := own_cells h2
  obtain ⟨A3, c3, rfl, k3⟩ := own_cells h3
  obtain ⟨A4, c4, rfl, k4⟩ := own_cells h4
  have HE1 := Lib.hid (fun W (hb : Below w.heap.size w W) => U.eq_same A1 A3 xs.length c1 c3 _ _ _ W (k1.below hb) (k3.below hb) hx (fun j _ => rfl))
  have HE2 := Lib.hid (fun W (hb : Below w.heap.size w W) => U.eq_same A2 A4 os.length c2 c4 _ _ _ W (k2.below hb) (k4.below hb) ho (fun j _ => rfl))
  clear h1 h2 h3 h4 k1 k2 k3 k4
  have hb0 : Below w.heap.size w ((w.alloc (.cells #[.slice A1 xs.length c1, .slice A2 os.length c2] 43)).alloc (.cells #[.slice A3 xs.length c3, .slice A4 os.length c4] 43)) := ((Below.refl _ _).alloc (Nat.le_refl _) _).alloc (by simp) _
  have g1 : ((w.alloc (.cells #[.slice A1 xs.length c1, .slice A2 os.length c2] 43)).alloc (.cells #[.slice A3 xs.length c3, .slice A4 os.length c4] 43)).heap[w.heap.size]? = some (.cells #[.slice A1 xs.length c1, .slice A2 os.length c2] 43 (0, 0)) := by
    rw [((Below.refl _ (w.alloc (.cells #[.slice A1 xs.length c1, .slice A2 os.length c2] 43))).alloc (Nat.le_refl _) _).block _ (by simp)]
    exact heap_new _ _
  have g2 : ((w.alloc (.cells #[.slice A1 xs.length c1, .slice A2 os.length c2] 43)).alloc (.cells #[.slice A3 xs.length c3, .slice A4 os.length c4] 43)).heap[w.heap.size + 1]? = some (.cells #[.slice A3 xs.length c3, .slice A4 os.length c4] 43 (0, 0)) := by
    have := heap_new (w.alloc (.cells #[.slice A1 xs.length c1, .slice A2 os.length c2] 43)) (.cells #[.slice A3 xs.length c3, .slice A4 os.length c4] 43)
    simpa using this
  have HB0 := Lib.hid hb0
  have HG1 := Lib.hid g1
  have HG2 := Lib.hid g2
  clear hb0 g1 g2
  go_enter Tryd.func22, Tryd.ntmps22
  go_wp2_with fail
  refine (HE1.out _ HB0.out).mono ?_
  rintro e w1 ⟨rfl, hb1⟩
  have hb01 := bel_trans HB0.out hb1
  obtain ⟨p0, p1, _, _⟩ := Vw.cells ((hb1.block _ (by simp; omega)).trans HG1.out)
  obtain ⟨q0, q1, _, _⟩ := Vw.cells ((hb1.block _ (by simp)).trans HG2.out)
  go_wp2_with fail
  refine (HE2.out _ hb01).mono ?_
  rintro e w2 ⟨rfl, hb2⟩
  go_wp2_with fail
  go_ret
  exact ⟨rfl, bel_trans hb01 hb2⟩

theorem win_app {s : Bs} {a b c : Nat} (h1 : a ≤ b) (h2 : b ≤ c) (hb : b ≤ s.length) : win s a b ++ win s b c = win s a c := by
  unfold win
  have e : s.take c = s.take b ++ (s.take c).drop b := by
    conv => lhs; rw [← List.take_append_drop b (s.take c)]
    rw [List.take_take, Nat.min_eq_left h2]
  conv => rhs; rw [e]
  rw [List.drop_append_of_le_length (by simp; omega)]
theorem win_all (s : Bs) : win s 0 s.length = s := by simp [win]
theorem win_nil (s : Bs) (a : Nat) : win s a a = [] := by unfold win; exact List.drop_of_length_le (by simp; omega)
theorem ins_back {s : Bs} {f t k : Nat} (h1 : f ≤ t) (h2 : t + k ≤ s.length) (h3 : s.length ≤ 1000) : insS 1048576 (win s f t) ((t - f : Nat) : Int) (win s t (t + k)) = win s f (t + k) := by
  have l1 : (win s f t).length = t - f := by rw [win_len]; omega
  have l2 : (win s t (t + k)).length = k := by rw [win_len]; omega
  unfold insS
  rw [if_neg (by rw [out_not (by omega) (by omega)]; simp), if_neg (by omega), Int.toNat_natCast, List.take_of_length_le (by omega), List.drop_of_length_le (by omega), List.append_nil, win_app h1 (by omega) (by omega)]
theorem ins_front {s : Bs} {f t k : Nat} (h0 : k ≤ f) (h1 : f ≤ t) (h2 : t ≤ s.length) (h3 : s.length ≤ 1000) : insS 1048576 (win s f t) 0 (win s (f - k) f) = win s (f - k) t := by
  have l1 : (win s f t).length = t - f := by rw [win_len]; omega
  have l2 : (win s (f - k) f).length = k := by rw [win_len]; omega
  unfold insS
  rw [if_neg (by rw [out_not (by omega) (by omega)]; simp), if_neg (by omega), Int.toNat_zero, List.take_zero, List.drop_zero, List.nil_append, win_app (by omega) h1 (by omega)]

/-- A new buffer with that text. -/
def Bt (w : World) (s : Bs) (b : Nat) (wr : World) : Prop := ∃ mx p, Nb w b mx s p wr
set_option maxHeartbeats 2000000 in
set_option maxRecDepth 100000 in
theorem buf_any (s : Bs) (chunk : Int) (A : Option Addr) (n cap : Nat) (f : Nat → Int) (w : World) (hcell : U.Cells w w.heap.size A n f) (hs : s.length ≤ 1000) :
    Calls Tryd.prog 10 #[str s, .int .i64 chunk, .slice A n cap] w fun e w' => e = .returned (ptr w.heap.size) ∧ Bt w s w.heap.size w' := by
  have hwi := wi_in chunk 12 (by omega)
  obtain ⟨mx, hmx⟩ : ∃ mx : Nat, (mx : Int) = 4 + wi chunk 12 := ⟨(4 + wi chunk 12).toNat, by omega⟩
  have w0 : IntKind.i64.wrap (4 + wi chunk 12) = (mx : Int) := by rw [← hmx]; exact IntWalk.i64_in _ (by omega)
  have HW := Lib.hid (within_any chunk 12 (by omega) (by omega) w)
  have HN := Lib.hid (nb_new (w := w) (Below.refl _ _) mx (by omega) (by omega))
  obtain ⟨h, hh⟩ : ∃ h : Nat, h = s.length / 2 := ⟨_, rfl⟩
  have hh2 : h ≤ s.length := by omega
  have hq : Int.tdiv (s.length : Int) 2 = (h : Int) := by rw [hh, Int.tdiv_eq_ediv_of_nonneg (by omega)]; omega
  have wq : IntKind.i64.wrap (Int.tdiv (s.length : Int) 2) = (h : Int) := by rw [hq]; exact IntWalk.i64_in _ (by omega)
  have HC := Lib.hid hcell
  clear hcell hwi hh hmx
  generalize wi chunk 12 = wc at *
  go_enter Tryd.func10, Tryd.ntmps10
  go_wp2_with fail
  refine HW.out.mono ?_
  rintro e w1 ⟨rfl, rfl⟩
  go_wp2_with fail
  refine HN.out.mono ?_
  rintro e w1 ⟨rfl, hnb⟩
  have HNB := Lib.hid hnb
  clear hnb
  go_wp2_with fail
  go_loopw [9, 10, 11] (fun s9 s10 s11 wr => ∃ (a t i : Nat), s9 = .int .i64 (a : Int) ∧ s10 = .int .i64 (t : Int) ∧ s11 = .int .i64 (i : Int) ∧ a ≤ t ∧ t ≤ s.length ∧ i ≤ 40 ∧ ∃ p, Nb w w.heap.size mx (win s a t) p wr) (fun _ _ s11 _ => 40 - (intOf s11).toNat)
  case atStart => exact ⟨h, h, 0, rfl, rfl, rfl, Nat.le_refl _, hh2, by omega, 0, by rw [win_nil]; exact HNB.out⟩
  case round =>
    obtain ⟨a, t, i, rfl, rfl, rfl, hat, hts, hi, p, hN⟩ := hrel
    have HX := Lib.hid hN
    clear hN HNB HN HW w0 hq wq
    by_cases hc : i < n ∧ i < 40
    · obtain ⟨hc1, hc2⟩ := hc
      have d1 : decide (i < n) = true := by simp [hc1]
      have d2 : decide (i < 40) = true := by simp [hc2]
      obtain ⟨g, off, rfl, hg, hcl⟩ := (HC.out.below HX.out.2) (by omega)
      have m1 := hcl i hc1
      have i1 : (i : Int) < (n : Int) := by omega
      have hw9 := wi_in (f i) 9 (by omega)
      have HW9 := Lib.hid (within_any (f i) 9 (by omega) (by omega) wr)
      obtain ⟨m, hm⟩ : ∃ m : Nat, wi (f i) 9 = (m : Int) := ⟨(wi (f i) 9).toNat, by omega⟩
      rw [hm] at HW9
      clear hcl
      by_cases he : Int.tmod (f i) 2 = 0
      · have be : (Int.tmod (f i) 2 == 0) = true := by simp [he]
        have wt : IntKind.i64.wrap (Int.tmod (f i) 2) = 0 := by rw [he]; rfl
        obtain ⟨k, hk⟩ : ∃ k, k = min m (s.length - t) := ⟨_, rfl⟩
        have mk : min (m : Int) ((s.length : Int) - (t : Int)) = (k : Int) := by omega
        have htk : t + k ≤ s.length := by omega
        have hib := ins_back (s := s) (f := a) (t := t) (k := k) hat htk hs
        rw [show ((t - a : Nat) : Int) = (t : Int) - (a : Int) by omega] at hib
        have HI := nb_insert HX.out ((t : Int) - (a : Int)) (win s t (t + k)) (by rw [win_len]; omega)
        rw [hib] at HI
        have HI := Lib.hid HI
        have e2 : (⟨⟨s⟩⟩ : ByteArray).extract t (t + k) = ⟨⟨win s t (t + k)⟩⟩ := bs_ext _ _ _
        generalize win s t (t + k) = x at *
        have HAT := Lib.hid hat
        clear hib hk hw9 hm he HC
        go_wp2_with fail
        refine HW9.out.mono ?_
        rintro e w2 ⟨rfl, rfl⟩
        go_wp2_with fail
        refine HI.out.mono ?_
        rintro e w3 ⟨rfl, hn3⟩
        have HN3 := Lib.hid hn3
        clear hn3 e2
        go_wp2_with fail
        go_roundw
        case rel => exact ⟨a, t + k, i + 1, rfl, by go_num, by go_num, by omega, htk, by omega, _, HN3.out⟩
        case measure => simp [intOf]; omega
      · have be : (Int.tmod (f i) 2 == 0) = false := by simpa using he
        obtain ⟨k, hk⟩ : ∃ k, k = min m a := ⟨_, rfl⟩
        have mk : min (m : Int) (a : Int) = (k : Int) := by omega
        have hka : k ≤ a := by omega
        have hif := ins_front (s := s) (f := a) (t := t) (k := k) hka hat hts hs
        have HI := nb_insert HX.out 0 (win s (a - k) a) (by rw [win_len]; omega)
        rw [hif] at HI
        have HI := Lib.hid HI
        have e2 : (⟨⟨s⟩⟩ : ByteArray).extract (a - k) a = ⟨⟨win s (a - k) a⟩⟩ := bs_ext _ _ _
        have wk : IntKind.i64.wrap ((a : Int) - (k : Int)) = ((a - k : Nat) : Int) := by rw [show (a : Int) - (k : Int) = ((a - k : Nat) : Int) by omega]; exact IntWalk.i64_in _ (by omega)
        have hkk : a - k ≤ a := by omega
        generalize win s (a - k) a = x at *
        generalize a - k = ak at *
        have htm := Int.tmod_lt_of_pos (f i) (show (0 : Int) < 2 by omega)
        have htm2 := Int.lt_tmod_of_pos (f i) (show (0 : Int) < 2 by omega)
        have wt : IntKind.i64.wrap (Int.tmod (f i) 2) = Int.tmod (f i) 2 := IntWalk.i64_in _ (by omega)
        clear hif hk hw9 hm he HC
        go_wp2_with fail
        refine HW9.out.mono ?_
        rintro e w2 ⟨rfl, rfl⟩
        go_wp2_with fail
        refine HI.out.mono ?_
        rintro e w3 ⟨rfl, hn3⟩
        have HN3 := Lib.hid hn3
        clear hn3 e2
        go_wp2_with fail
        go_roundw
        case rel => exact ⟨ak, t, i + 1, rfl, rfl, by go_num, by omega, hts, by omega, _, HN3.out⟩
        case measure => simp [intOf]; omega
    · have d12 : decide (i < n) = false ∨ (decide (i < n) = true ∧ decide ((i : Int) < 40) = false) := by
        by_cases h1 : i < n
        · exact .inr ⟨by simp [h1], by simp; omega⟩
        · exact .inl (by simpa using h1)
      have hif := ins_front (s := s) (f := a) (t := t) (k := a) (Nat.le_refl _) hat hts hs
      rw [Nat.sub_self] at hif
      have HI := nb_insert HX.out 0 (win s 0 a) (by rw [win_len]; omega)
      rw [hif] at HI
      have HI := Lib.hid HI
      have hib := ins_back (s := s) (f := 0) (t := t) (k := s.length - t) (by omega) (by omega) hs
      rw [Nat.sub_zero, show t + (s.length - t) = s.length by omega, win_all] at hib
      have HIB := Lib.hid hib
      have HXL := Lib.hid (show (win s t s.length).length ≤ 2097152 by rw [win_len]; omega)
      have e1 : (⟨⟨s⟩⟩ : ByteArray).extract 0 a = ⟨⟨win s 0 a⟩⟩ := bs_ext _ _ _
      have e2 : (⟨⟨s⟩⟩ : ByteArray).extract t s.length = ⟨⟨win s t s.length⟩⟩ := bs_ext _ _ _
      have ha : a ≤ s.length := by omega
      generalize win s 0 a = x at *
      generalize win s t s.length = y at *
      clear hif hib hc HC
      rcases d12 with d1 | ⟨d1, d2⟩
      all_goals (
        go_wp2_with fail
        refine HI.out.mono ?_
        rintro e w3 ⟨rfl, hn3⟩
        have HI2 := nb_insert hn3 (t : Int) y HXL.out
        rw [HIB.out] at HI2
        have HI2 := Lib.hid HI2
        clear hn3 e1
        go_wp2_with fail
        refine HI2.out.mono ?_
        rintro e w4 ⟨rfl, hn4⟩
        go_wp2_with fail
        go_ret
        exact ⟨rfl, _, _, hn4⟩)
end Go.Proofs.YtdpjcbljeklhmaaDoor
