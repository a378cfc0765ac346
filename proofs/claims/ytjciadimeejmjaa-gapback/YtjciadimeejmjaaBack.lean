/-
  GapBack answers true at every two texts and every place.
-/
import Derived.Test.YtjciadimeejmjaaW13
namespace Go.Proofs.Ytjciadimeejmjaa
open Go.RowKit ObGap

theorem ins_back {s x : Bs} {a mx : Nat} (ha : a ≤ s.length) (hm : s.length + x.length ≤ mx) (p : Nat) :
    insE mx s a x = 0 ∧ insS mx s a x = s.take a ++ (x ++ s.drop a) ∧ insP mx s p a x = a + x.length := by
  have ho : out s (a : Int) = false := out_not (by omega) (by omega)
  refine ⟨insE_in ho (by omega), ?_, ?_⟩
  · rw [insS_in ho (by omega), Int.toNat_natCast]
  · rw [insP_in ho (by omega), Int.toNat_natCast]
theorem del_back {s : Bs} {a k : Nat} (ha : a + k ≤ s.length) (p : Nat) :
    delE s a k = 0 ∧ delS s a k = s.take a ++ s.drop (a + k) ∧ delP s p a k = a := by
  have ho : out s (a : Int) = false := out_not (by omega) (by omega)
  have hd : delB s (a : Int) (k : Int) = false := by unfold delB; rw [ho]; simp; omega
  refine ⟨delE_f hd, ?_, ?_⟩
  · rw [delS_f hd, Int.toNat_natCast, Int.toNat_natCast]
  · rw [delP_f hd, Int.toNat_natCast]
theorem cut_back {s : Bs} {a : Nat} (ha : a ≤ s.length) (p : Nat) : cutT s a = s.drop a ∧ movE s a = 0 ∧ cutS s a = s.take a ∧ movP s p a = a := by
  have ho : out s (a : Int) = false := out_not (by omega) (by omega)
  refine ⟨?_, movE_in ho, ?_, ?_⟩
  · rw [cutT_in ho, Int.toNat_natCast]
  · rw [cutS_in ho, Int.toNat_natCast]
  · rw [movP_in ho, Int.toNat_natCast]
theorem insert_ok {w : World} {c g mx : Nat} {s : Bs} {p : Nat} (h : Chk w c g mx s p) (a : Nat) (x : Bs) (ha : a ≤ s.length) (hm : s.length + x.length ≤ mx) (z : Bs) (hz : z = s.take a ++ (x ++ s.drop a)) :
    Calls Try.prog 17 #[ptr c, .int .i64 (a : Int), str x] w fun e w' => e = .returned (.int .i64 0) ∧ Chk w' c g mx z (a + x.length) ∧ Ex c g w w' := by
  have := insert_chk h a x
  obtain ⟨e1, e2, e3⟩ := ins_back ha hm p
  rw [e1, e2, e3, ← hz] at this
  exact this
theorem delete_ok {w : World} {c g mx : Nat} {s : Bs} {p : Nat} (h : Chk w c g mx s p) (a k : Nat) (ha : a + k ≤ s.length) (z : Bs) (hz : z = s.take a ++ s.drop (a + k)) :
    Calls Try.prog 18 #[ptr c, .int .i64 (a : Int), .int .i64 (k : Int)] w fun e w' => e = .returned (.int .i64 0) ∧ Chk w' c g mx z a ∧ Ex c g w w' := by
  have := delete_chk h a k
  obtain ⟨e1, e2, e3⟩ := del_back ha p
  rw [e1, e2, e3, ← hz] at this
  exact this
theorem cut_ok {w : World} {c g mx : Nat} {s : Bs} {p : Nat} (h : Chk w c g mx s p) (a : Nat) (ha : a ≤ s.length) (u v : Bs) (hu : u = s.take a) (hv : v = s.drop a) :
    Calls Try.prog 21 #[ptr c, .int .i64 (a : Int)] w fun e w' => e = .returned (.tuple #[str v, .int .i64 0]) ∧ Chk w' c g mx u a ∧ Ex c g w w' := by
  have := cut_chk h a
  obtain ⟨e1, e2, e3, e4⟩ := cut_back ha p
  rw [e1, e2, e3, e4, ← hu, ← hv] at this
  exact this
set_option maxHeartbeats 4000000 in
set_option maxRecDepth 100000 in
theorem back_walk (s0 t0 : Bs) (at0 : Int) (w : World) : Calls Try.prog 7 #[str s0, .int .i64 at0, str t0] w fun e w' => e = .returned (.bool true) ∧ Below w.heap.size w w' := by
  have HC1 := Lib.hid (lcut_any s0 100)
  have HC2 := Lib.hid (lcut_any t0 100)
  have ls : (s0.take 100).length ≤ 100 := by simp; omega
  have lt : (t0.take 100).length ≤ 100 := by simp; omega
  generalize s0.take 100 = s at HC1 ls
  generalize t0.take 100 = t at HC2 lt
  have hw := wi_in at0 (s.length + 1) (by omega)
  have HW := Lib.hid (within_any at0 (s.length + 1) (by omega) (by omega))
  obtain ⟨a, ha⟩ : ∃ a : Nat, wi at0 (s.length + 1) = a := ⟨(wi at0 (s.length + 1)).toNat, by omega⟩
  rw [ha] at hw HW
  have hal : a ≤ s.length := by omega
  clear ha hw
  have wq : IntKind.i64.wrap ((s.length : Int) + 1) = ((s.length + 1 : Nat) : Int) := (IntWalk.i64_in _ (by omega)).trans (by omega)
  obtain ⟨u, hu⟩ : ∃ u, u = s.take a := ⟨_, rfl⟩
  obtain ⟨v, hv⟩ : ∃ v, v = s.drop a := ⟨_, rfl⟩
  obtain ⟨ut, hut⟩ : ∃ x, x = u ++ t := ⟨_, rfl⟩
  obtain ⟨z, hz⟩ : ∃ x, x = ut ++ v := ⟨_, rfl⟩
  have lu : u.length = a := by rw [hu]; simp; omega
  have lv : v.length = s.length - a := by rw [hv]; simp
  have lut : ut.length = a + t.length := by rw [hut]; simp [lu]
  have lz : z.length = s.length + t.length := by rw [hz]; simp [lut, lv]; omega
  have hsuv : s = u ++ v := by rw [hu, hv, List.take_append_drop]
  have e1 : (⟨⟨s⟩⟩ : ByteArray).extract 0 a = ⟨⟨u⟩⟩ := by rw [bs_ext, hu]; rfl
  have e2 : (⟨⟨s⟩⟩ : ByteArray).extract a s.length = ⟨⟨v⟩⟩ := by rw [bs_ext, hv, List.take_length]
  have e3 : (⟨⟨u⟩⟩ : ByteArray) ++ ⟨⟨t⟩⟩ = ⟨⟨ut⟩⟩ := by rw [bs_app, hut]
  have e4 : (⟨⟨ut⟩⟩ : ByteArray) ++ ⟨⟨v⟩⟩ = ⟨⟨z⟩⟩ := by rw [bs_app, hz]
  have e5 : (⟨⟨u⟩⟩ : ByteArray) ++ ⟨⟨v⟩⟩ = ⟨⟨s⟩⟩ := by rw [bs_app, hsuv]
  have HI1 := Lib.hid (show ∀ (W : World) (c g : Nat), Chk W c g 200 [] 0 → _ from fun W c g h => insert_ok h 0 s (by simp) (by simp; omega) s (by simp))
  have HI2 := Lib.hid (show ∀ (W : World) (c g p : Nat), Chk W c g 200 s p → _ from fun W c g p h => insert_ok h a t hal (by omega) z (by rw [hz, hut, hu, hv, List.append_assoc]))
  have HD := Lib.hid (show ∀ (W : World) (c g p : Nat), Chk W c g 200 z p → _ from fun W c g p h => delete_ok h a t.length (by omega) s (by
    rw [hz, show a + t.length = ut.length from lut.symm, List.drop_left, hut, List.append_assoc, ← lu, List.take_left, hsuv]))
  have HX := Lib.hid (show ∀ (W : World) (c g p : Nat), Chk W c g 200 s p → _ from fun W c g p h => cut_ok h a hal u v hu hv)
  have HI3 := Lib.hid (show ∀ (W : World) (c g p : Nat), Chk W c g 200 u p → _ from fun W c g p h => insert_ok h a v (by omega) (by omega) s (by
    rw [← lu, List.take_length, List.drop_length, List.append_nil, hsuv]))
  have i1 : (a : Int) ≤ (s.length : Int) := by omega
  have s1 : ¬ 9223372036854775807 < u.length + t.length := by omega
  have s2 : ¬ 9223372036854775807 < ut.length + v.length := by omega
  have s3 : ¬ 9223372036854775807 < u.length + v.length := by omega
  have wv : IntKind.i64.wrap ((s.length : Int) - (a : Int)) = (v.length : Int) := (IntWalk.i64_in _ (by omega)).trans (by omega)
  clear hu hv hut hz hsuv ls lt lu lv lut lz hal
  go_enter Try.func7, Try.ntmps7
  go_wp2_with fail
  refine (HC1.out _).mono ?_
  rintro e w' ⟨rfl, rfl⟩
  go_wp2_with fail
  refine (HC2.out _).mono ?_
  rintro e w' ⟨rfl, rfl⟩
  go_wp2_with fail
  refine (new_chk 200 _ (by omega) (by omega)).mono ?_
  rintro e w1 ⟨rfl, hc1, hb1⟩
  have C1 := Lib.hid hc1
  have B1 := Lib.hid hb1
  clear hc1 hb1
  go_wp2_with fail
  refine (HI1.out _ _ _ C1.out).mono ?_
  rintro e w2 ⟨rfl, hc2, hx2⟩
  have C2 := Lib.hid hc2
  have B2 := Lib.hid (Ex.belowNew B1.out (Nat.le_refl _) hx2 (Nat.le_succ _) (Nat.le_refl _))
  clear hc2 hx2 C1 B1
  go_wp2_with fail
  refine (HW.out _).mono ?_
  rintro e w' ⟨rfl, rfl⟩
  go_wp2_with fail
  go_region_held3 (fun _ => True) (exact True.intro) (first
    | (go_at_call 17; refine (HI2.out w2.drew _ _ _ C2.out).mono ?_; rintro e w3 ⟨rfl, hc3, hx3⟩)
    | (go_at_call 18; refine (HD.out _ _ _ _ (hc3.on hb4)).mono ?_; rintro e w5 ⟨rfl, hc5, hx5⟩)
    | (go_at_call 19; refine (text_chk hc5).mono ?_; rintro e w6 ⟨rfl, hb6⟩)
    | (go_at_call 19; refine (text_chk hc3).mono ?_; rintro e w4 ⟨rfl, hb4⟩))
  all_goals (
    have B3 := Ex.belowNew (B2.out.drew : Below _ _ w2.drew) (Nat.le_refl _) hx3 (Nat.le_succ _) (Nat.le_refl _)
    have B4 := below_on B3 (Nat.le_refl _) hb4
    have B5 := Ex.belowNew B4 (Nat.le_refl _) hx5 (Nat.le_succ _) (Nat.le_refl _)
    have B6 := Lib.hid (below_on B5 (Nat.le_refl _) hb6)
    have C6 := Lib.hid (hc5.on hb6)
    clear hc3 hx3 hb4 hc5 hx5 hb6 B3 B4 B5 C2 B2
    go_wp2_with fail
    refine (HX.out _ _ _ _ C6.out).mono ?_
    rintro e w7 ⟨rfl, hc7, hx7⟩
    have C7 := Lib.hid hc7
    have B7 := Lib.hid (Ex.belowNew B6.out (Nat.le_refl _) hx7 (Nat.le_succ _) (Nat.le_refl _))
    clear hc7 hx7 C6 B6
    go_wp2_with fail
    refine (text_chk C7.out).mono ?_
    rintro e w8 ⟨rfl, hb8⟩
    have C8 := Lib.hid (C7.out.on hb8)
    have B8 := Lib.hid (below_on B7.out (Nat.le_refl _) hb8)
    clear hb8 C7 B7
    go_wp2_with fail
    refine (HI3.out _ _ _ _ C8.out).mono ?_
    rintro e w9 ⟨rfl, hc9, hx9⟩
    have C9 := Lib.hid hc9
    have B9 := Lib.hid (Ex.belowNew B8.out (Nat.le_refl _) hx9 (Nat.le_succ _) (Nat.le_refl _))
    clear hc9 hx9 C8 B8
    go_wp2_with fail
    refine (text_chk C9.out).mono ?_
    rintro e w10 ⟨rfl, hb10⟩
    have B10 := Lib.hid (below_on B9.out (Nat.le_refl _) hb10)
    clear hb10 C9 B9
    go_wp2_with fail
    refine (wakes_any _).mono ?_
    rintro e w11 ⟨rfl, hb11⟩
    have B11 := Lib.hid (below_on B10.out (Nat.le_refl _) hb11)
    clear hb11 B10
    go_wp2_with fail
    go_ret
    exact ⟨rfl, B11.out⟩)
end Go.Proofs.Ytjciadimeejmjaa
