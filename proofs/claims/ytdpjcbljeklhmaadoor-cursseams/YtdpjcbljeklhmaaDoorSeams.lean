/-
  The statement on seams (CursSeams) answers true for all texts, sizes and places. Condition: the two tables of unicode/utf8 lie as their text lays them.
-/
import Derived.Test.YtdpjcbljeklhmaaDoorC7
namespace Go.Proofs.YtdpjcbljeklhmaaDoor
open Go.RowKit ObGap ObUtf

section
variable {w wr : World} {s : Bs} {b : Nat}
theorem bt_insert (h : Bt w s b wr) (i : Int) (x : Bs) (hx : x.length ≤ 2097152) : Calls Tryd.prog 28 #[ptr b, .int .i64 i, str x] wr fun e w' => e = .returned (.int .i64 (insE 1048576 s i x)) ∧ Bt w (insS 1048576 s i x) b w' := by
  obtain ⟨mx, p, h⟩ := h
  refine (nb_insert h i x hx).mono ?_
  rintro e w' ⟨rfl, h'⟩
  exact ⟨rfl, _, _, h'⟩
theorem bt_delete (h : Bt w s b wr) (i n : Int) : Calls Tryd.prog 31 #[ptr b, .int .i64 i, .int .i64 n] wr fun e w' => e = .returned (.int .i64 (delE s i n)) ∧ Bt w (delS s i n) b w' := by
  obtain ⟨mx, p, h⟩ := h
  refine (nb_delete h i n).mono ?_
  rintro e w' ⟨rfl, h'⟩
  exact ⟨rfl, _, _, h'⟩
theorem bt_move (h : Bt w s b wr) (i : Int) : Calls Tryd.prog 29 #[ptr b, .int .i64 i] wr fun e w' => e = .returned (.int .i64 (movE s i)) ∧ Bt w s b w' := by
  obtain ⟨mx, p, h⟩ := h
  refine (nb_move h i).mono ?_
  rintro e w' ⟨rfl, h'⟩
  exact ⟨rfl, _, _, h'⟩
theorem bt_len (h : Bt w s b wr) : Calls Tryd.prog 30 #[ptr b] wr fun e w' => e = .returned (.int .i64 (s.length : Int)) ∧ Bt w s b w' := by
  obtain ⟨mx, p, h⟩ := h
  refine (nb_len h).mono ?_
  rintro e w' ⟨rfl, h'⟩
  exact ⟨rfl, _, _, h'⟩
end
theorem ins_small {a x : Bs} {k : Nat} (hk : k ≤ a.length) (ha : a.length ≤ 1000) (hx : x.length ≤ 1000) : insE 1048576 a (k : Int) x = 0 ∧ insS 1048576 a (k : Int) x = a.take k ++ (x ++ a.drop k) := by
  unfold insE insS
  rw [if_neg (by rw [out_not (by omega) (by omega)]; simp), if_neg (by omega), if_neg (by rw [out_not (by omega) (by omega)]; simp), if_neg (by omega), Int.toNat_natCast]
  exact ⟨rfl, rfl⟩
theorem del_back {a x : Bs} {k : Nat} (hk : k ≤ a.length) : delE (a.take k ++ (x ++ a.drop k)) (k : Int) (x.length : Int) = 0 ∧ delS (a.take k ++ (x ++ a.drop k)) (k : Int) (x.length : Int) = a := by
  have hl : (a.take k).length = k := by simp; omega
  have hb : delB (a.take k ++ (x ++ a.drop k)) (k : Int) (x.length : Int) = false := by
    unfold delB
    rw [out_not (by omega) (by simp; omega)]
    simp
    omega
  unfold delE delS
  rw [hb]
  simp only [Bool.false_eq_true, if_false, Int.toNat_natCast]
  refine ⟨trivial, ?_⟩
  rw [List.take_append_of_le_length (by omega), List.take_of_length_le (by omega), show k + x.length = (a.take k).length + x.length by omega, ← List.drop_drop, List.drop_left, List.drop_left, List.take_append_drop]
theorem ba_cat (x y : Bs) : (⟨⟨x⟩⟩ : ByteArray) ++ (⟨⟨y⟩⟩ : ByteArray) = ⟨⟨x ++ y⟩⟩ := by
  apply ByteArray.ext
  rw [ByteArray.data_append]
  simp
theorem mov_small {s : Bs} {i : Int} (h0 : 0 ≤ i) (h1 : i ≤ s.length) : movE s i = 0 := by
  unfold movE; rw [if_neg (by rw [out_not h0 h1]; simp)]
set_option maxHeartbeats 4000000 in
set_option maxRecDepth 100000 in
theorem seams_walk (a0 t0 : Bs) (x y at' : Int) (w : World) (hT : U.Tb w) :
    Calls Tryd.prog 7 #[str a0, str t0, .agg #[.int .i64 x, .int .i64 y], .int .i64 at'] w fun e w' => e = .returned (.bool true) ∧ Below w.heap.size w w' := by
  have HT := Lib.hid hT
  clear hT
  have hla : (a0.take 60).length ≤ 60 := by simp; omega
  have hlt : (t0.take 20).length ≤ 20 := by simp; omega
  go_enter Tryd.func7, Tryd.ntmps7
  go_wp2_with fail
  have hn := heap_new w (.cells #[.int .i64 x, .int .i64 y] 51)
  have q0 : (w.alloc (.cells #[.int .i64 x, .int .i64 y] 51)).cell? ⟨w.heap.size, 0, none⟩ = some (.int .i64 x) := by simp only [World.cell?, hn]; rfl
  have q1 : (w.alloc (.cells #[.int .i64 x, .int .i64 y] 51)).cell? ⟨w.heap.size, 1, none⟩ = some (.int .i64 y) := by simp only [World.cell?, hn]; rfl
  have hb1 : Below w.heap.size w (w.alloc (.cells #[.int .i64 x, .int .i64 y] 51)) := (Below.refl _ _).alloc (Nat.le_refl _) _
  have hr1 : w.heap.size < (w.alloc (.cells #[.int .i64 x, .int .i64 y] 51)).heap.size := by simp
  clear hn
  generalize w.alloc (.cells #[.int .i64 x, .int .i64 y] 51) = w1 at *
  have HT1 := Lib.hid (HT.out.below hb1)
  have HB1 := Lib.hid hb1
  have HQ := Lib.hid (show ∀ W, Below w1.heap.size w1 W → W.cell? ⟨w.heap.size, 1, none⟩ = some (.int .i64 y) from fun W hb => (hb.cell hr1).trans q1)
  refine (lcut_any a0 60 w1).mono ?_
  rintro e w2 ⟨rfl, rfl⟩
  generalize a0.take 60 = a at *
  go_wp2_with fail
  refine (lcut_any t0 20 w1).mono ?_
  rintro e w2 ⟨rfl, rfl⟩
  generalize t0.take 20 = t at *
  have HBF := Lib.hid (buf_any a x none 0 0 (fun _ => 0) w1 (fun h => by omega) (by omega))
  go_wp2_with fail
  refine HBF.out.mono ?_
  rintro e w2 ⟨rfl, h2⟩
  have H2 := Lib.hid h2
  clear h2 HBF q0 q1 hb1
  generalize hbb : w1.heap.size = b at *
  have HBB := Lib.hid hbb
  clear hbb
  have HQB := Lib.hid (show ∀ W z, Bt w1 z b W → W.cell? ⟨w.heap.size, 1, none⟩ = some (.int .i64 y) from fun W z h => HQ.out W (HBB.out ▸ h.below))
  clear HQ
  generalize hrr : w.heap.size = r at *
  have HRR := Lib.hid hrr
  clear hrr
  have hwi := wi_in at' (a.length + 1) (by omega)
  obtain ⟨k, hk⟩ : ∃ k : Nat, wi at' (a.length + 1) = (k : Int) := ⟨(wi at' (a.length + 1)).toNat, by omega⟩
  have HW := within_any at' (a.length + 1) (by omega) (by omega) w2
  rw [hk] at HW hwi
  have hka : k ≤ a.length := by omega
  have HW := Lib.hid HW
  have wl : IntKind.i64.wrap ((a.length : Int) + 1) = ((a.length + 1 : Nat) : Int) := by rw [show (a.length : Int) + 1 = ((a.length + 1 : Nat) : Int) by omega]; exact IntWalk.i64_in _ (by omega)
  generalize hal : a.length + 1 = al at *
  clear hk hwi
  have HAL := Lib.hid hal
  clear hal
  go_wp2_with fail
  refine HW.out.mono ?_
  rintro e w3 ⟨rfl, rfl⟩
  clear HW wl
  have HIN := Lib.hid (fun W (hb : Below w2.heap.size w2 W) => bt_insert (H2.out.on hb) (k : Int) t (by omega))
  rw [(ins_small hka (by omega) (by omega)).1, (ins_small hka (by omega) (by omega)).2] at HIN
  obtain ⟨u, hu⟩ : ∃ u, u = a.take k ++ (t ++ a.drop k) := ⟨_, rfl⟩
  have hul : u.length = a.length + t.length := by rw [hu]; simp; omega
  rw [← hu] at HIN
  have HU := Lib.hid hu
  clear hu
  have hwi := wi_in y (u.length + 1) (by omega)
  have HWY := Lib.hid (fun W => within_any y (u.length + 1) (by omega) (by omega) W)
  have HMV := Lib.hid (fun W (h : Bt w1 u b W) => bt_move h (wi y (u.length + 1)))
  rw [mov_small (s := u) hwi.1 (by omega)] at HMV
  have HLN := Lib.hid (fun W (h : Bt w1 u b W) => bt_len h)
  have wl : IntKind.i64.wrap ((u.length : Int) + 1) = ((u.length + 1 : Nat) : Int) := by rw [show (u.length : Int) + 1 = ((u.length + 1 : Nat) : Int) by omega]; exact IntWalk.i64_in _ (by omega)
  generalize wi y (u.length + 1) = v at *
  generalize hul1 : u.length + 1 = ul at *
  have HUL := Lib.hid hul
  have hu80 : u.length ≤ 80 := by omega
  clear hwi hul1 hul
  go_wp2_with fail
  go_region_held3 (fun W => W.cell? ⟨r, 1, none⟩ = some (.int .i64 y)) (first | exact HQB.out _ _ (H2.out.on (Below.refl _ _).drew) | exact HQB.out _ _ h6 | exact HQB.out _ _ h4 | exact HQB.out _ _ h3 | fail) (first
    | (go_at_call 28; (with_reducible refine (HIN.out _ (Below.refl _ _).drew).mono ?_); rintro e w3 ⟨rfl, h3⟩)
    | (go_at_call 30; (with_reducible refine (HLN.out _ h3).mono ?_); rintro e w4 ⟨rfl, h4⟩)
    | (go_at_call 14; (with_reducible refine (HWY.out _).mono ?_); rintro e w5 ⟨rfl, rfl⟩)
    | (go_at_call 29; (with_reducible refine (HMV.out _ h4).mono ?_); rintro e w6 ⟨rfl, h6⟩)
    | fail)
  have H6 := Lib.hid h6
  clear h6 h3 h4 HIN HWY HMV HLN
  have hal2 : (k : Int) ≤ (a.length : Int) := by omega
  obtain ⟨P1, hP1⟩ : ∃ P1 : ByteArray, P1 = ⟨⟨a.take k⟩⟩ := ⟨_, rfl⟩
  obtain ⟨P2, hP2⟩ : ∃ P2 : ByteArray, P2 = ⟨⟨a.drop k⟩⟩ := ⟨_, rfl⟩
  obtain ⟨P3, hP3⟩ : ∃ P3 : ByteArray, P3 = ⟨⟨a.take k ++ t⟩⟩ := ⟨_, rfl⟩
  have e1 : (⟨⟨a⟩⟩ : ByteArray).extract 0 k = P1 := by rw [bs_ext, hP1]; simp
  have e2 : (⟨⟨a⟩⟩ : ByteArray).extract k a.length = P2 := by rw [bs_ext, hP2, List.take_of_length_le (Nat.le_refl _)]
  have c1 : P1 ++ (⟨⟨t⟩⟩ : ByteArray) = P3 := by rw [hP1, hP3]; exact ba_cat _ _
  have c2 : P3 ++ P2 = ba u := by rw [hP3, hP2, HU.out, ← List.append_assoc]; exact ba_cat _ _
  have z1 : P1.size ≤ 60 := by rw [hP1, bs_size]; simp; omega
  have z2 : P2.size ≤ 60 := by rw [hP2, bs_size]; simp; omega
  have z3 : P3.size ≤ 80 := by rw [hP3, bs_size]; simp; omega
  have s1 := fun W : World => run_string_add_sum (P := Tryd.prog) (w := W) P1 (⟨⟨t⟩⟩ : ByteArray) (by show P1.size + t.length ≤ _; omega)
  have s2 := fun W : World => run_string_add_sum (P := Tryd.prog) (w := W) P3 P2 (by omega)
  rw [c1] at s1
  rw [c2] at s2
  clear hP1 hP2 hP3
  have hru : (ba u).size ≤ 1000000 := by rw [ba_size]; omega
  have hra : (ba a).size ≤ 1000000 := by rw [ba_size]; omega
  have hcu := cnt_le (ba u)
  have hca := cnt_le (ba a)
  rw [ba_size] at hcu hca
  have HL1 := Lib.hid (show (syms (ba u)).length ≤ 1000000 by unfold syms; rw [symsTo_length]; omega)
  have HL2 := Lib.hid (show (bdsTo (ba u) (cnt (ba u) + 1)).length ≤ 1000000 by rw [bdsTo_length]; omega)
  have HL3 := Lib.hid (show (syms (ba a)).length ≤ 1000000 by unfold syms; rw [symsTo_length]; omega)
  have HL4 := Lib.hid (show (bdsTo (ba a) (cnt (ba a) + 1)).length ≤ 1000000 by rw [bdsTo_length]; omega)
  have HVU := Lib.hid (fun W (h : Bt w1 u b W) => bt_view HT1.out h (by omega))
  have HVA := Lib.hid (fun W (h : Bt w1 a b W) => bt_view HT1.out h (by omega))
  have HOU := Lib.hid (fun W (h : Bt w1 u b W) => of_any (ba u) W hru (HT1.out.below h.below))
  have HOA := Lib.hid (fun W (h : Bt w1 a b W) => of_any (ba a) W hra (HT1.out.below h.below))
  have HDE := Lib.hid (fun W (h : Bt w1 u b W) => bt_delete h (k : Int) (t.length : Int))
  rw [HU.out, (del_back (x := t) hka).1, (del_back (x := t) hka).2, ← HU.out] at HDE
  clear hcu hca hru hra
  go_wp2_with fail
  go_region_held3 (fun _ => True) (first | exact True.intro | fail) (first
    | (go_at_call 23; (with_reducible refine (HVA.out _ h10).mono ?_); rintro e w11 ⟨⟨V3, O3, rfl, v3, o3, hb11⟩, h11⟩)
    | (go_at_call 23; (with_reducible refine (HVA.out _ g12).mono ?_); rintro e w11 ⟨⟨V3, O3, rfl, v3, o3, hb11⟩, h11⟩; have V4K := own_below v4 hb11; have O4K := own_below o4 hb11; have V3K := v3; have O3K := o3; have h13 := h11)
    | (go_at_call 23; (with_reducible refine (HVU.out _ (H6.out.on (Below.refl _ _).drew)).mono ?_); rintro e w7 ⟨⟨V1, O1, rfl, v1, o1, hb7⟩, h7⟩)
    | (go_at_call 23; (with_reducible refine (HVU.out _ g8).mono ?_); rintro e w7 ⟨⟨V1, O1, rfl, v1, o1, hb7⟩, h7⟩; have V2K := own_below v2 hb7; have O2K := own_below o2 hb7; have V1K := v1; have O1K := o1; have h9 := h7)
    | (go_at_call 25; (with_reducible refine (HOU.out _ h7).mono ?_); rintro e w8 ⟨V2, O2, rfl, v2, o2, hb8⟩; have V1K := own_below v1 hb8; have O1K := own_below o1 hb8; have V2K := v2; have O2K := o2; have h9 := h7.on hb8)
    | (go_at_call 25; (with_reducible refine (HOU.out _ (H6.out.on (Below.refl _ _).drew)).mono ?_); rintro e w8 ⟨V2, O2, rfl, v2, o2, hb8⟩; have g8 := (H6.out.on (Below.refl _ _).drew).on hb8)
    | (go_at_call 25; (with_reducible refine (HOA.out _ h11).mono ?_); rintro e w12 ⟨V4, O4, rfl, v4, o4, hb12⟩; have V3K := own_below v3 hb12; have O3K := own_below o3 hb12; have V4K := v4; have O4K := o4; have h13 := h11.on hb12)
    | (go_at_call 25; (with_reducible refine (HOA.out _ h10).mono ?_); rintro e w12 ⟨V4, O4, rfl, v4, o4, hb12⟩; have g12 := h10.on hb12)
    | (go_at_call 22; (with_reducible refine (eqview_same V1K O1K V2K O2K HL1.out HL2.out).mono ?_); rintro e w9 ⟨rfl, hb9⟩; have h9b := h9.on hb9)
    | (go_at_call 22; (with_reducible refine (eqview_same V3K O3K V4K O4K HL3.out HL4.out).mono ?_); rintro e w13 ⟨rfl, hb13⟩; have h13b := h13.on hb13)
    | (go_at_call 31; (with_reducible refine (HDE.out _ h9b).mono ?_); rintro e w10 ⟨rfl, h10⟩)
    | (go_at_call 8; (with_reducible refine (wakes_any _ (HT1.out.below h13b.below)).mono ?_); rintro e w14 ⟨rfl, hb14⟩)
    | fail)
  have hbw : Below w.heap.size w w1 := by rw [HRR.out]; exact HB1.out
  all_goals (
    go_wp2_with fail
    go_ret
    exact ⟨rfl, bel_trans (bel_trans hbw h13b.below) hb14⟩)
end Go.Proofs.YtdpjcbljeklhmaaDoor
