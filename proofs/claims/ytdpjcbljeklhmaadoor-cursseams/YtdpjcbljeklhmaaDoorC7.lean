/-
  A buffer and a cursor that were made within a call: what each function answers of them, and what it leaves; what the statements' own first look answers. Condition: the two tables of unicode/utf8 lie as their text lays them.
-/
import Derived.Test.YtdpjcbljeklhmaaDoorC6
namespace Go.Proofs.YtdpjcbljeklhmaaDoor
open Go.RowKit ObGap ObUtf

/-- A buffer with that text and a cursor of it, both made since w. -/
def Sc (w : World) (s : Bs) (b c at' n : Nat) (wr : World) : Prop :=
  ∃ F mx p, Bu wr F b mx s p ∧ (∀ k, F k → w.heap.size ≤ k) ∧ ¬ F c ∧ w.heap.size ≤ c ∧ Cu wr c b at' n ∧ Below w.heap.size w wr
section
variable {w wr w' : World} {s : Bs} {b c at' n : Nat}
theorem Bt.on (h : Bt w s b wr) (hb : Below wr.heap.size wr w') : Bt w s b w' := by
  obtain ⟨mx, p, h⟩ := h; exact ⟨mx, p, h.on hb⟩
theorem Bt.below (h : Bt w s b wr) : Below w.heap.size w wr := by obtain ⟨mx, p, h⟩ := h; exact h.2
theorem Bt.len (h : Bt w s b wr) : s.length ≤ 1048576 := by obtain ⟨mx, p, ⟨F, h1, _⟩, _⟩ := h; exact h1.lens.1
theorem Sc.on (h : Sc w s b c at' n wr) (hb : Below wr.heap.size wr w') : Sc w s b c at' n w' := by
  obtain ⟨F, mx, p, h1, h2, h3, h4, h5, h6⟩ := h
  exact ⟨F, mx, p, h1.on hb, h2, h3, h4, h5.on hb, bel_trans h6 hb⟩
theorem Sc.below (h : Sc w s b c at' n wr) : Below w.heap.size w wr := by obtain ⟨F, mx, p, h1, h2, h3, h4, h5, h6⟩ := h; exact h6
theorem Sc.ex {at2 n2 : Nat} (h : Sc w s b c at' n wr) (hc : Cu w' c b at2 n2) (hx : Ex c c wr w') : Sc w s b c at2 n2 w' := by
  obtain ⟨F, mx, p, h1, h2, h3, h4, h5, h6⟩ := h
  exact ⟨F, mx, p, h1.pastc hx h3, h2, h3, h4, hc, h6.trans (hx.below h6.size h4 h4)⟩
theorem bt_text (h : Bt w s b wr) : Calls Tryd.prog 11 #[ptr b] wr fun e w' => e = .returned (str s) ∧ Bt w s b w' := by
  obtain ⟨mx, p, h⟩ := h
  refine (nb_text h).mono ?_
  rintro e w' ⟨rfl, h'⟩
  exact ⟨rfl, _, _, h'⟩
theorem bt_is (hT : U.Tb w) (h : Bt w s b wr) (i : Int) : Calls Tryd.prog 26 #[ptr b, .int .i64 i] wr fun e w' => e = .returned (.bool (U.isBI (ba s) i)) ∧ Bt w s b w' := by
  have hT' := hT.below h.below
  have h' := h
  obtain ⟨mx, p, ⟨F, h1, _⟩, _⟩ := h
  refine (is_bu h1 hT' i).mono ?_
  rintro e w' ⟨rfl, hb⟩
  exact ⟨rfl, h'.on hb⟩
theorem bt_view (hT : U.Tb w) (h : Bt w s b wr) (hs : s.length ≤ 1000000) : Calls Tryd.prog 23 #[ptr b] wr fun e w' => RetV (ba s) wr e w' ∧ Bt w s b w' := by
  have hT' := hT.below h.below
  have h' := h
  obtain ⟨mx, p, ⟨F, h1, _⟩, _⟩ := h
  refine (view_bu h1 hT' hs).mono ?_
  rintro e w' hr
  exact ⟨hr, h'.on hr.choose_spec.choose_spec.2.2.2⟩
theorem bt_new (hT : U.Tb w) (h : Bt w s b wr) (k : Nat) (hk : U.isBI (ba s) (k : Int) = true) : Calls Tryd.prog 12 #[ptr b, .int .i64 (k : Int)] wr fun e w' => e = .returned (.tuple #[ptr wr.heap.size, .int .i64 0]) ∧ Sc w s b wr.heap.size k 0 w' := by
  have hT' := hT.below h.below
  obtain ⟨mx, p, ⟨F, h1, h2⟩, h3⟩ := h
  refine (new_ok h1 hT' k hk).mono ?_
  rintro e w' ⟨rfl, hc, hb⟩
  exact ⟨rfl, F, mx, p, h1.on hb, h2, fun hF => Nat.lt_irrefl _ (h1.hF _ hF), h3.size, hc, bel_trans h3 hb⟩
theorem bt_new_no (hT : U.Tb w) (h : Bt w s b wr) (i : Int) (hk : U.isBI (ba s) i = false) : Calls Tryd.prog 12 #[ptr b, .int .i64 i] wr fun e w' => e = .returned (.tuple #[.pointer none, .int .i64 2]) ∧ Bt w s b w' := by
  have hT' := hT.below h.below
  have h' := h
  obtain ⟨mx, p, ⟨F, h1, h2⟩, h3⟩ := h
  refine (new_no h1 hT' i hk).mono ?_
  rintro e w' ⟨rfl, hb⟩
  exact ⟨rfl, h'.on hb⟩
theorem Sc.bt (h : Sc w s b c at' n wr) : Bt w s b wr := by
  obtain ⟨F, mx, p, h1, h2, h3, h4, h5, h6⟩ := h
  exact ⟨mx, p, ⟨F, h1, h2⟩, h6⟩
theorem sc_new_no (hT : U.Tb w) (h : Sc w s b c at' n wr) (i : Int) (hk : U.isBI (ba s) i = false) : Calls Tryd.prog 12 #[ptr b, .int .i64 i] wr fun e w' => e = .returned (.tuple #[.pointer none, .int .i64 2]) ∧ Sc w s b c at' n w' := by
  have hT' := hT.below h.below
  have h' := h
  obtain ⟨F, mx, p, h1, h2, h3, h4, h5, h6⟩ := h
  refine (new_no h1 hT' i hk).mono ?_
  rintro e w' ⟨rfl, hb⟩
  exact ⟨rfl, h'.on hb⟩
theorem sc_is (hT : U.Tb w) (h : Sc w s b c at' n wr) (i : Int) : Calls Tryd.prog 26 #[ptr b, .int .i64 i] wr fun e w' => e = .returned (.bool (U.isBI (ba s) i)) ∧ Sc w s b c at' n w' := by
  have hT' := hT.below h.below
  have h' := h
  obtain ⟨F, mx, p, h1, h2, h3, h4, h5, h6⟩ := h
  refine (is_bu h1 hT' i).mono ?_
  rintro e w' ⟨rfl, hb⟩
  exact ⟨rfl, h'.on hb⟩
theorem sc_view (hT : U.Tb w) (h : Sc w s b c at' n wr) (hs : s.length ≤ 1000000) : Calls Tryd.prog 23 #[ptr b] wr fun e w' => RetV (ba s) wr e w' ∧ Sc w s b c at' n w' := by
  have hT' := hT.below h.below
  have h' := h
  obtain ⟨F, mx, p, h1, h2, h3, h4, h5, h6⟩ := h
  refine (view_bu h1 hT' hs).mono ?_
  rintro e w' hr
  exact ⟨hr, h'.on hr.choose_spec.choose_spec.2.2.2⟩
theorem sc_place (h : Sc w s b c at' n wr) : Calls Tryd.prog 20 #[ptr c] wr fun e w' => e = .returned (.int .i64 (at' : Int)) ∧ wr = w' := by
  obtain ⟨F, mx, p, h1, h2, h3, h4, h5, h6⟩ := h; exact place_cu h5
theorem sc_fetched (h : Sc w s b c at' n wr) : Calls Tryd.prog 21 #[ptr c] wr fun e w' => e = .returned (.int .i64 (n : Int)) ∧ wr = w' := by
  obtain ⟨F, mx, p, h1, h2, h3, h4, h5, h6⟩ := h; exact fetched_cu h5
theorem sc_next (hT : U.Tb w) (h : Sc w s b c at' n wr) (hat : at' < s.length) (hn : n ≤ 1099511627776) :
    Calls Tryd.prog 16 #[ptr c] wr fun e w' => e = .returned (.tuple #[.int .i64 (sy (ba s) at'), .bool true]) ∧ Sc w s b c (at' + wd (ba s) at') (n + 1) w' := by
  have hT' := hT.below h.below
  have h' := h
  obtain ⟨F, mx, p, h1, h2, h3, h4, h5, h6⟩ := h
  refine (next_some h1 h5 hT' hat hn).mono ?_
  rintro e w' ⟨rfl, hc, hx⟩
  exact ⟨rfl, h'.ex hc hx⟩
theorem sc_next_end (h : Sc w s b c at' n wr) (hat : s.length ≤ at') : Calls Tryd.prog 16 #[ptr c] wr fun e w' => e = .returned (.tuple #[.int .i64 0, .bool false]) ∧ Sc w s b c at' n w' := by
  have h' := h
  obtain ⟨F, mx, p, h1, h2, h3, h4, h5, h6⟩ := h
  refine (next_none h1 h5 hat).mono ?_
  rintro e w' ⟨rfl, hb⟩
  exact ⟨rfl, h'.on hb⟩
theorem sc_prev (hT : U.Tb w) (h : Sc w s b c at' n wr) (h0 : 0 < at') (hat : at' ≤ s.length) (hI : IsB (ba s) at') (hn : n ≤ 1099511627776) :
    Calls Tryd.prog 18 #[ptr c] wr fun e w' => e = .returned (.tuple #[.int .i64 (sy (ba s) (at' - U.pw (ba s) at')), .bool true]) ∧ Sc w s b c (at' - U.pw (ba s) at') (n + 1) w' := by
  have hT' := hT.below h.below
  have h' := h
  obtain ⟨F, mx, p, h1, h2, h3, h4, h5, h6⟩ := h
  refine (prev_some h1 h5 hT' h0 hat hI hn).mono ?_
  rintro e w' ⟨rfl, hc, hx⟩
  exact ⟨rfl, h'.ex hc hx⟩
theorem sc_prev_end (h : Sc w s b c at' n wr) (hat : at' = 0) : Calls Tryd.prog 18 #[ptr c] wr fun e w' => e = .returned (.tuple #[.int .i64 0, .bool false]) ∧ Sc w s b c at' n w' := by
  have h' := h
  obtain ⟨F, mx, p, h1, h2, h3, h4, h5, h6⟩ := h
  refine (prev_none h1 h5 hat).mono ?_
  rintro e w' ⟨rfl, hb⟩
  exact ⟨rfl, h'.on hb⟩
theorem sc_seek (hT : U.Tb w) (h : Sc w s b c at' n wr) (k : Nat) (hk : U.isBI (ba s) (k : Int) = true) : Calls Tryd.prog 15 #[ptr c, .int .i64 (k : Int)] wr fun e w' => e = .returned (.int .i64 0) ∧ Sc w s b c k n w' := by
  have hT' := hT.below h.below
  have h' := h
  obtain ⟨F, mx, p, h1, h2, h3, h4, h5, h6⟩ := h
  refine (seek_ok h1 h5 hT' k hk).mono ?_
  rintro e w' ⟨rfl, hc, hx⟩
  exact ⟨rfl, h'.ex hc hx⟩
theorem sc_seek_no (hT : U.Tb w) (h : Sc w s b c at' n wr) (i : Int) (hk : U.isBI (ba s) i = false) : Calls Tryd.prog 15 #[ptr c, .int .i64 i] wr fun e w' => e = .returned (.int .i64 2) ∧ Sc w s b c at' n w' := by
  have hT' := hT.below h.below
  have h' := h
  obtain ⟨F, mx, p, h1, h2, h3, h4, h5, h6⟩ := h
  refine (seek_no h1 h5 hT' i hk).mono ?_
  rintro e w' ⟨rfl, hb⟩
  exact ⟨rfl, h'.on hb⟩
end

theorem field_syms (A B : Option Addr) (n m c d : Nat) (w : World) : (Instr.field 43 (.agg #[.slice A n c, .slice B m d]) 0).run Tryd.prog w = .ok (.slice A n c) w := by kernel_rfl
abbrev s0 : Bs := [97, 255, 195, 169]
theorem z1 : U.isBI (ba s0) ((1 : Nat) : Int) = true := by decide +kernel
theorem z3 : U.isBI (ba s0) 3 = false := by decide +kernel
theorem z2 : U.isBI (ba s0) 2 = true := by decide +kernel
theorem z4 : U.isBI (ba s0) ((4 : Nat) : Int) = true := by decide +kernel
theorem za : sy (ba s0) 1 = 1114367 ∧ 1 + wd (ba s0) 1 = 2 := by decide +kernel
theorem zb : sy (ba s0) 2 = 233 ∧ 2 + wd (ba s0) 2 = 4 := by decide +kernel
theorem zc : sy (ba s0) (4 - U.pw (ba s0) 4) = 233 ∧ 4 - U.pw (ba s0) 4 = 2 := by decide +kernel
theorem zd : syms (ba s0) = [97, 1114367, 233] := by decide +kernel
theorem ze : bdsTo { data := #[97, 255] } (cnt { data := #[97, 255] } + 1) = [0, 1, 2] := by decide +kernel
set_option maxHeartbeats 2000000 in
set_option maxRecDepth 100000 in
theorem wakes_any (w : World) (hT : U.Tb w) : Calls Tryd.prog 8 #[] w fun e w' => e = .returned (.bool true) ∧ Below w.heap.size w w' := by
  have HT := Lib.hid hT
  clear hT
  have HI4 := Lib.hid ((U.locB_iff (ba s0) 4).1 (by have := z4; rwa [U.isBI_nat] at this))
  go_enter Tryd.func8, Tryd.ntmps8
  go_wp2_with fail
  refine (buf_any s0 0 none 0 0 (fun _ => 0) w (fun h => by omega) (by decide)).mono ?_
  rintro e w1 ⟨rfl, h1⟩
  have H1 := Lib.hid h1; clear h1
  go_wp2_with fail
  refine (bt_new HT.out H1.out 1 z1).mono ?_
  rintro e w2 ⟨rfl, h2⟩
  have H2 := Lib.hid h2; clear h2
  generalize w1.heap.size = c at *
  go_wp2_with fail
  refine (sc_new_no HT.out H2.out 3 z3).mono ?_
  rintro e w3 ⟨rfl, h3⟩
  have H3 := Lib.hid h3; clear h3
  have HN1 := sc_next HT.out H3.out (by decide) (by omega)
  rw [za.1, za.2] at HN1
  have HN1 := Lib.hid HN1
  go_wp2_with fail
  refine HN1.out.mono ?_
  rintro e w4 ⟨rfl, h4⟩
  have HN2 := sc_next HT.out h4 (by decide) (by omega)
  rw [zb.1, zb.2] at HN2
  have HN2 := Lib.hid HN2
  clear HN1 h4
  go_wp2_with fail
  refine HN2.out.mono ?_
  rintro e w5 ⟨rfl, h5⟩
  have HN3 := Lib.hid (sc_next_end h5 (by decide))
  clear HN2 h5
  go_wp2_with fail
  refine HN3.out.mono ?_
  rintro e w6 ⟨rfl, h6⟩
  have HP := sc_prev HT.out h6 (by omega) (by decide) HI4.out (by omega)
  rw [zc.1, zc.2] at HP
  have HP := Lib.hid HP
  clear HN3 h6
  go_wp2_with fail
  refine HP.out.mono ?_
  rintro e w7 ⟨rfl, h7⟩
  have H7 := Lib.hid h7
  clear HP h7
  go_wp2_with fail
  refine (of_any _ w7 (by decide) (HT.out.below H7.out.below)).mono ?_
  rintro e w8 ⟨V, O, rfl, hV, hO, hb8⟩
  have H8 := Lib.hid (H7.out.on hb8)
  rw [ze] at hO
  obtain ⟨A, ca, rfl, _⟩ := own_see hV
  obtain ⟨A', ca', rfl, hOc⟩ := own_cells hO
  have HO := Lib.hid hOc
  generalize (syms { data := #[97, 255] }).length = vn at *
  clear hV hO hOc H7 H3 H2 H1
  have hbx : Below w8.heap.size w8 (w8.alloc (.cells #[.slice A vn ca, .slice A' 3 ca'] 43)) := (Below.refl _ _).alloc (Nat.le_refl _) _
  have HX := Lib.hid hbx
  clear hbx
  go_wp2_with fail
  refine (sc_place (H8.out.on HX.out)).mono ?_
  rintro e w9 ⟨rfl, rfl⟩
  go_wp2_with fail
  refine (sc_fetched (H8.out.on HX.out)).mono ?_
  rintro e w9 ⟨rfl, rfl⟩
  go_wp2_with fail
  have hby : Below w8.heap.size w8 ((w8.alloc (.cells #[.slice A vn ca, .slice A' 3 ca'] 43)).alloc (.cells #[.int .i64 0, .int .i64 1, .int .i64 2] 3)) := HX.out.alloc (by simp) _
  have hcl : U.Cells ((w8.alloc (.cells #[.slice A vn ca, .slice A' 3 ca'] 43)).alloc (.cells #[.int .i64 0, .int .i64 1, .int .i64 2] 3)) (w8.heap.size + 2) (some ⟨w8.heap.size + 1, 0, none⟩) 3 (fun j => [(0 : Int), 1, 2].getD j 0) := fun _ => by
    refine ⟨_, _, rfl, by omega, fun j hj => ?_⟩
    have h := heap_new (w8.alloc (.cells #[.slice A vn ca, .slice A' 3 ca'] 43)) (.cells #[.int .i64 0, .int .i64 1, .int .i64 2] 3)
    rw [show (w8.alloc (.cells #[.slice A vn ca, .slice A' 3 ca'] 43)).heap.size = w8.heap.size + 1 by simp] at h
    match j, hj with
    | 0, _ => simp only [World.cell?, h]; rfl
    | 1, _ => simp only [World.cell?, h]; rfl
    | 2, _ => simp only [World.cell?, h]; rfl
  have HE := Lib.hid (U.eq_same A' (some ⟨w8.heap.size + 1, 0, none⟩) 3 ca' 3 _ _ _ _ ((HO.out.below hby).more (show w8.heap.size ≤ w8.heap.size + 2 by omega)) hcl (by omega) (fun j _ => rfl))
  have HY := Lib.hid hby
  clear hby hcl
  refine HE.out.mono ?_
  rintro e w10 ⟨rfl, hb10⟩
  have H10 := Lib.hid ((H8.out.on HY.out).on hb10)
  clear HE HY HX HO H8
  go_wp2_with fail
  refine (sc_view HT.out H10.out (by decide)).mono ?_
  rintro e w11 ⟨⟨V, O, rfl, hV, hO, hb11⟩, h11⟩
  rw [zd] at hV
  have H11 := Lib.hid h11
  obtain ⟨A2, ca2, rfl, _⟩ := own_see hV
  obtain ⟨A3, ca3, rfl, _⟩ := own_see hO
  clear hV hO h11
  have hfd := field_syms A2 A3 3 (bdsTo (ba s0) (cnt (ba s0) + 1)).length ca2 ca3
  have HI2 := sc_is HT.out H11.out 2
  rw [z2] at HI2
  have HI2 := Lib.hid HI2
  go_wp2_with fail
  refine HI2.out.mono ?_
  rintro e w12 ⟨rfl, h12⟩
  have HI3 := sc_is HT.out h12 3
  rw [z3] at HI3
  have HI3 := Lib.hid HI3
  clear h12 HI2
  go_wp2_with fail
  refine HI3.out.mono ?_
  rintro e w13 ⟨rfl, h13⟩
  have HS := Lib.hid (sc_seek HT.out h13 4 z4)
  clear h13 HI3
  go_wp2_with fail
  refine HS.out.mono ?_
  rintro e w14 ⟨rfl, h14⟩
  go_wp2_with fail
  go_ret
  exact ⟨rfl, h14.below⟩
end Go.Proofs.YtdpjcbljeklhmaaDoor
