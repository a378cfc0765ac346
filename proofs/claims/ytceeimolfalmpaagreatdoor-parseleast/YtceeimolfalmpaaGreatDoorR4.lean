/-
  What the page's own class answers. Conditions: the text has at most 100000 bytes; the place is that of a [.
-/
import Derived.Test.YtceeimolfalmpaaGreatDoorR3
import Derived.Test.YtceeimolfalmpaaGreatDoorSC
import Derived.Test.YtceeimolfalmpaaGreatDoorLD
namespace Go.Proofs.YtceeimolfalmpaaGreatDoor
open Go.RowKit ObUtf ObSets ObLex

/-- What the page's own class hands back. -/
def RetC (i : Nat) (r : Res (List R × Nat)) (w : World) (e : Ending) (w' : World) : Prop :=
  match r with
  | .error (er, a) => e = .returned (.tuple #[nls, .int .i64 0, fv er (a : Int)]) ∧ Below w.heap.size w w' ∧ (er = 4 ∨ er = 5)
  | .ok (l, j) => ∃ A k, e = .returned (.tuple #[.slice A l.length k, .int .i64 ((j : Int) - (i : Int)), fv 0 0]) ∧ S.Ow w' w.heap.size (.slice A l.length k) l ∧ Below w.heap.size w w'
def clsC (g : List R → List R) (to : Nat) : Res (List R) → Res (List R × Nat)
  | .error f => .error f
  | .ok l => .ok (g l, to + 1)
section
variable {s : ByteArray} {i : Nat} (w : World) (hs : s.size ≤ 100000) (hi : i < s.size)
include hs hi
set_option maxHeartbeats 2000000 in
set_option maxRecDepth 100000 in
theorem rclass_noend (he : cend s (i + 1) = none) : Calls Tryz.prog 70 #[.string s, .int .i64 (i : Int)] w (RetC i (.error (4, i)) w) := by
  have HF0 := Lib.hid (heap_new w fo)
  have HB0 := Lib.hid ((Below.refl w.heap.size w).alloc (Nat.le_refl _) fo)
  have HE := Lib.hid (rend_any s i (w.alloc fo) hs hi (T := -1) (.inr ⟨he, rfl⟩) rfl)
  generalize fr s i = f at *
  go_enter Tryz.func70, Tryz.ntmps70
  go_wp2_with fail
  refine HE.out.mono ?_
  rintro e w1 ⟨rfl, hb1⟩
  have HF1 := Lib.hid (keepL HF0.out hb1)
  have HB1 := Lib.hid (bel_trans HB0.out hb1)
  have hb11 := Below.refl w1.heap.size w1
  go_wp2_with fail
  refine (bad_any _ _ _).mono ?_
  rintro e wz ⟨rfl, hbz⟩
  have hbz1 : Below w1.heap.size w1 wz := hb11.trans (hbz.mono hb11.size)
  obtain ⟨q0, q1, q2, q3⟩ := blk2 (keepL HF1.out hbz1)
  have hbw : Below w.heap.size w wz := HB1.out.trans (hbz1.mono HB1.out.size)
  go_wp2_with fail
  refine bodyPost_ret (v := .tuple #[nls, .int .i64 0, fv 4 (i : Int)]) ?_ rfl ⟨rfl, ?_, .inl rfl⟩
  · rw [results_ttc rfl]; go_simp
  · exact (hbw.setCell (p := ⟨w.heap.size, 0, none⟩) (Nat.le_refl _) _).setCell (p := ⟨w.heap.size, 1, none⟩) (Nat.le_refl _) _
set_option maxHeartbeats 2000000 in
set_option maxRecDepth 100000 in
theorem rclass_empty {to : Nat} (he : cend s (i + 1) = some to) (hto : to = fr s i) : Calls Tryz.prog 70 #[.string s, .int .i64 (i : Int)] w (RetC i (.error (4, to)) w) := by
  have HF0 := Lib.hid (heap_new w fo)
  have HB0 := Lib.hid ((Below.refl w.heap.size w).alloc (Nat.le_refl _) fo)
  have HE := Lib.hid (rend_any s i (w.alloc fo) hs hi (T := to) (.inl ⟨to, he, rfl⟩) hto)
  clear hto
  go_enter Tryz.func70, Tryz.ntmps70
  go_wp2_with fail
  refine HE.out.mono ?_
  rintro e w1 ⟨rfl, hb1⟩
  have HF1 := Lib.hid (keepL HF0.out hb1)
  have HB1 := Lib.hid (bel_trans HB0.out hb1)
  have hb11 := Below.refl w1.heap.size w1
  go_wp2_with fail
  refine (bad_any _ _ _).mono ?_
  rintro e wz ⟨rfl, hbz⟩
  have hbz1 : Below w1.heap.size w1 wz := hb11.trans (hbz.mono hb11.size)
  obtain ⟨q0, q1, q2, q3⟩ := blk2 (keepL HF1.out hbz1)
  have hbw : Below w.heap.size w wz := HB1.out.trans (hbz1.mono HB1.out.size)
  go_wp2_with fail
  refine bodyPost_ret (v := .tuple #[nls, .int .i64 0, fv 4 (to : Int)]) ?_ rfl ⟨rfl, ?_, .inl rfl⟩
  · rw [results_ttc rfl]; go_simp
  · exact (hbw.setCell (p := ⟨w.heap.size, 0, none⟩) (Nat.le_refl _) _).setCell (p := ⟨w.heap.size, 1, none⟩) (Nat.le_refl _) _
set_option maxHeartbeats 2000000 in
set_option maxRecDepth 100000 in
theorem rclass_not {to : Nat} (he : cend s (i + 1) = some to) (h94 : bt s (i + 1) = 94) (hto : to ≠ i + 2) {r : Res (List R)} (hr : r = items s to (i + 2)) {rr : Res (List R × Nat)} (hrr : rr = clsC notL to r) :
    Calls Tryz.prog 70 #[.string s, .int .i64 (i : Int)] w (RetC i rr w) := by
  obtain ⟨i0, hi0, hz0, hz1, hz2⟩ := info_parts S.info32
  have HF0 := Lib.hid (heap_new w fo)
  have HB0 := Lib.hid ((Below.refl w.heap.size w).alloc (Nat.le_refl _) fo)
  have hfr : i + 2 = fr s i := by unfold fr; rw [if_pos h94]
  have HE := Lib.hid (rend_any s i (w.alloc fo) hs hi (T := to) (.inl ⟨to, he, rfl⟩) hfr)
  have hcf : cend s (i + 2) = some to := by rw [hfr, fr_cend]; exact he
  have hcs := cend_some hcf
  have HCF := Lib.hid hcf
  have HRS := Lib.hid hr
  have HRW := Lib.hid hrr
  clear hr hrr hcf hfr h94 he
  rw [show ((i + 2 : Nat) : Int) = (i : Int) + 2 by omega] at HE
  have e0 : ((to : Int) == (i : Int) + 2) = false := beq_eq_false_iff_ne.2 (by omega)
  go_enter Tryz.func70, Tryz.ntmps70
  go_wp2_with fail
  refine HE.out.mono ?_
  rintro e w1 ⟨rfl, hb1⟩
  have HF1 := Lib.hid (keepL HF0.out hb1)
  have HB1 := Lib.hid (bel_trans HB0.out hb1)
  have hs1 : w.heap.size < w1.heap.size := lt_of_heap HF1.out
  clear hb1
  go_wp2_with fail
  go_loopw [9, 10] (fun v t wr => ∃ (p : Nat) (l : List R), t = .int .i64 (p : Int) ∧ Hid (S.Ow wr w1.heap.size v l) ∧ Hid (cend s p = some to) ∧ Hid (r = pre l (items s to p)) ∧ Hid (Below w1.heap.size w1 wr) ∧ Hid (l.length ≤ 5 * p)) (fun _ t _ => to + 1 - (intOf t).toNat)
  case atStart => exact ⟨i + 2, [], congrArg (Value.int .i64) (by omega), S.Ow.nil _ _, HCF.out, by rw [pre_nil]; exact HRS.out, Below.refl _ _, Nat.zero_le _⟩
  case round =>
    obtain ⟨p, l, rfl, HO, HC, HI, HB, HL⟩ := hrel
    have hple := (cend_some HC.out).1
    have hpl := cend_lt HC.out
    by_cases hpt : p < to
    · have d1 : decide (p < to) = true := decide_eq_true hpt
      have hg := U.bt_eq s p hpl
      by_cases h45 : bt s p = 45
      · have e1 : (((s[p]'hpl).toNat : Int) == 45) = true := by rw [← hg, h45]; rfl
        have hI : item s p = .error (4, p) := by unfold item unit; rw [h45, if_neg (by decide), if_pos (.inl rfl)]
        have hrr : r = .error (4, p) := by rw [HI.out, items_bad hpt hI]; rfl
        subst hrr
        have hrw : rr = .error (4, p) := HRW.out
        subst hrw
        clear HI HRW hI hg h45
        have hbx := HB.out
        go_wp2_with fail
        refine (bad_any _ _ _).mono ?_
        rintro e wz ⟨rfl, hbz⟩
        have hbz1 : Below w1.heap.size w1 wz := hbx.trans (hbz.mono hbx.size)
        obtain ⟨q0, q1, q2, q3⟩ := blk2 (keepL HF1.out hbz1)
        have hbw : Below w.heap.size w wz := HB1.out.trans (hbz1.mono HB1.out.size)
        go_wp2_with fail
        refine bodyPost_ret (v := .tuple #[nls, .int .i64 0, fv 4 (p : Int)]) ?_ rfl ⟨rfl, ?_, .inl rfl⟩
        · rw [results_ttc rfl]; go_simp
        · exact (hbw.setCell (p := ⟨w.heap.size, 0, none⟩) (Nat.le_refl _) _).setCell (p := ⟨w.heap.size, 1, none⟩) (Nat.le_refl _) _
      · have e1 : (((s[p]'hpl).toNat : Int) == 45) = false := by rw [← hg]; exact beq_eq_false_iff_ne.2 (by omega)
        have hS1 := fun W => rsingle_any W hs HC.out
        by_cases h92 : bt s p = 92
        · have e2 : (((s[p]'hpl).toNat : Int) == 92) = true := by rw [← hg, h92]; rfl
          have hue : unit s p = esc s p := by unfold unit; rw [if_pos h92]
          have hE1 := fun W => resc_any (s := s) (i := p) W hs hpl
          rw [← hue] at hE1
          cases hu : unit s p with
          | bad x =>
            rw [hu] at hE1
            have HE1 := Lib.hid hE1
            have hI : item s p = .error (x, p) := by unfold item; rw [hu]
            have hrr : r = .error (x, p) := by rw [HI.out, items_bad hpt hI]; rfl
            subst hrr
            have hrw : rr = .error (x, p) := HRW.out
            subst hrw
            clear HI HRW hI hg h45 hS1 hE1 hue hu h92
            go_wp2_with fail
            refine (HE1.out _).mono ?_
            rintro e w2 ⟨A, m0, k0, b0, N0, er0, rfl, hb2, rfl, rfl, rfl, rfl, rfl, rfl, hee⟩
            have en : (er0 != 0) = true := by simp; omega
            have hbx : Below w1.heap.size w1 (w2.alloc (.cells #[.slice none 0 0, .bool false, .int .i64 0, .int .i64 er0] 102)) := HB.out.trans ((hb2.alloc hb2.size _).mono HB.out.size)
            go_wp2_with fail
            refine (bad_any _ _ _).mono ?_
            rintro e wz ⟨rfl, hbz⟩
            have hbz1 : Below w1.heap.size w1 wz := hbx.trans (hbz.mono hbx.size)
            obtain ⟨q0, q1, q2, q3⟩ := blk2 (keepL HF1.out hbz1)
            have hbw : Below w.heap.size w wz := HB1.out.trans (hbz1.mono HB1.out.size)
            go_wp2_with fail
            refine bodyPost_ret (v := .tuple #[nls, .int .i64 0, fv er0 (p : Int)]) ?_ rfl ⟨rfl, ?_, by omega⟩
            · rw [results_ttc rfl]; go_simp
            · exact (hbw.setCell (p := ⟨w.heap.size, 0, none⟩) (Nat.le_refl _) _).setCell (p := ⟨w.heap.size, 1, none⟩) (Nat.le_refl _) _
          | many l2 =>
            rw [hu] at hE1
            have HE1 := Lib.hid hE1
            have hI : item s p = .ok (l2, p + 2) := by unfold item; rw [hu]
            have hnx := item_next HC.out hI
            have hml := item_len hI
            have hqle := (cend_some hnx.2).1
            have HI2 := Lib.hid (show r = pre (l ++ l2) (items s to (p + 2)) by rw [HI.out, items_ok hpt hI hnx.1, pre_pre])
            have HL2 := Lib.hid (show (l ++ l2).length ≤ 5 * (p + 2) by have := HL.out; simp; omega)
            clear HI hI hg h45 hS1 hE1 hue hu h92
            go_wp2_with fail
            refine (HE1.out _).mono ?_
            rintro e w2 ⟨A, m0, k0, b0, N0, er0, rfl, hb2, rfl, rfl, rfl, rfl, ho2⟩
            have hbx : Below wr.heap.size wr (w2.alloc (.cells #[.slice A l2.length k0, .bool false, .int .i64 2, .int .i64 0] 102)) := hb2.alloc hb2.size _
            have hown := HO.out.below hbx
            obtain ⟨A', k', hv, _, _, hrg, _⟩ := (ho2.new (.cells #[.slice A l2.length k0, .bool false, .int .i64 2, .int .i64 0] 102)).shape
            injection hv with hv1 hv2 hv3
            subst hv1 hv3
            clear hv2
            have hso := hbx.size
            have hbz := HB.out.size
            obtain ⟨v', w5, hrun, hown', hgr⟩ := S.append_src (c := k0) 38 hown hrg (S.rgs_none hrg) (by have := HL.out; omega) (by omega)
            have HRUN := Lib.hid hrun
            have HO5 := Lib.hid hown'
            have HB5 := Lib.hid ((HB.out.trans (hbx.mono HB.out.size)).grown hgr (by omega) (fun k hk => (hown.lt k hk).1))
            obtain ⟨⟨c0, c1, c2, c3⟩, _⟩ := blk4 (heap_new w2 (.cells #[.slice A l2.length k0, .bool false, .int .i64 2, .int .i64 0] 102))
            have hkeep : w5.cell? ⟨w2.heap.size, 2, none⟩ = some (.int .i64 2) := hgr.cell (a := ⟨w2.heap.size, 2, none⟩) c2 (fun e => by have h1 : w2.heap.size < wr.heap.size := (HO.out.lt _ e.symm).2; have := hb2.size; omega)
            clear hrun hown' hown hrg hgr ho2
            generalize l2.length = n2 at *
            go_wp2_with (at_builtin; refine Lib.wpList_append_run _ rfl _ _ _ _ rfl _ _ rfl rfl _ _ HRUN.out ?_)
            go_roundw
            case rel => exact ⟨p + 2, l ++ l2, congrArg (Value.int .i64) (by omega), HO5.out, hnx.2, HI2.out, HB5.out, HL2.out⟩
            case measure => simp [intOf]; omega
          | one x n =>
            rw [hu] at hE1 hS1
            simp only [sg1, sg2] at hS1
            have HE1 := Lib.hid hE1
            have HS1 := Lib.hid hS1
            clear hE1 hS1 hue hg h45 h92
            have hu1 := unit_one HC.out hu
            have hle1 := (cend_some hu1.1).1
            by_cases hd : bt s (p + n) = 45
            · have hdash := dash hu1.1 hd
              have hle2 := (cend_some hdash).1
              have hin : p + n < s.size := by omega
              have hgd := U.bt_eq s (p + n) hin
              have e5 : (((s[p + n]'hin).toNat : Int) != 45) = false := by rw [← hgd, hd]; rfl
              have d5 : decide ((to : Int) ≤ (p : Int) + (n : Int)) = false := decide_eq_false (by omega)
              have hsing := fun W => rsingle_any W hs hdash
              rw [show ((p + n + 1 : Nat) : Int) = (p : Int) + (n : Int) + 1 by omega] at hsing
              have HS2 := Lib.hid hsing
              clear hsing hgd
              cases hu2 : unit s (p + n + 1) with
              | one y m =>
                have hu3 := unit_one hdash hu2
                have hle3 := (cend_some hu3.1).1
                rw [hu2] at HS2
                simp only [sg1, sg2] at HS2
                have e6 : ((m : Int) == 0) = false := beq_eq_false_iff_ne.2 (by omega)
                by_cases hyx : y < x
                · have d6 : decide (y < x) = true := decide_eq_true hyx
                  have hI : item s p = .error (4, p) := by unfold item; rw [hu]; dsimp only; rw [if_pos hd, hu2]; dsimp only; rw [if_pos hyx]
                  have hrr : r = .error (4, p) := by rw [HI.out, items_bad hpt hI]; rfl
                  subst hrr
                  have hrw : rr = .error (4, p) := HRW.out
                  subst hrw
                  clear HI HRW hI hu hu2
                  go_wp2_with fail
                  refine (HE1.out _).mono ?_
                  rintro e w2 ⟨A, m0, k0, b0, N0, er0, rfl, hb2, rfl, rfl, rfl, hm0, ho2⟩
                  clear ho2 hm0
                  have hb2' : Below wr.heap.size wr (w2.alloc (.cells #[.slice A m0 k0, .bool true, .int .i64 (n : Int), .int .i64 0] 102)) := hb2.alloc hb2.size _
                  go_wp2_with fail
                  refine (HS1.out _).mono ?_
                  rintro e w3 ⟨rfl, hb3⟩
                  have hbs := bel_trans hb2' hb3
                  go_wp2_with fail
                  refine (HS2.out _).mono ?_
                  rintro e w4 ⟨rfl, hb4⟩
                  have hbx := HB.out.trans ((bel_trans hbs hb4).mono HB.out.size)
                  go_wp2_with fail
                  refine (bad_any _ _ _).mono ?_
                  rintro e wz ⟨rfl, hbz⟩
                  have hbz1 : Below w1.heap.size w1 wz := hbx.trans (hbz.mono hbx.size)
                  obtain ⟨q0, q1, q2, q3⟩ := blk2 (keepL HF1.out hbz1)
                  have hbw : Below w.heap.size w wz := HB1.out.trans (hbz1.mono HB1.out.size)
                  go_wp2_with fail
                  refine bodyPost_ret (v := .tuple #[nls, .int .i64 0, fv 4 (p : Int)]) ?_ rfl ⟨rfl, ?_, .inl rfl⟩
                  · rw [results_ttc rfl]; go_simp
                  · exact (hbw.setCell (p := ⟨w.heap.size, 0, none⟩) (Nat.le_refl _) _).setCell (p := ⟨w.heap.size, 1, none⟩) (Nat.le_refl _) _
                · have d6 : decide (y < x) = false := decide_eq_false hyx
                  have hI : item s p = .ok ([(x, y)], p + n + 1 + m) := by unfold item; rw [hu]; dsimp only; rw [if_pos hd, hu2]; dsimp only; rw [if_neg hyx]
                  have HI2 := Lib.hid (show r = pre (l ++ [(x, y)]) (items s to (p + n + 1 + m)) by rw [HI.out, items_ok hpt hI (by omega), pre_pre])
                  have HL2 := Lib.hid (show (l ++ [(x, y)]).length ≤ 5 * (p + n + 1 + m) by have := HL.out; simp; omega)
                  clear hI hu hu2
                  go_wp2_with fail
                  refine (HE1.out _).mono ?_
                  rintro e w2 ⟨A, m0, k0, b0, N0, er0, rfl, hb2, rfl, rfl, rfl, hm0, ho2⟩
                  clear ho2 hm0
                  have hb2' : Below wr.heap.size wr (w2.alloc (.cells #[.slice A m0 k0, .bool true, .int .i64 (n : Int), .int .i64 0] 102)) := hb2.alloc hb2.size _
                  go_wp2_with fail
                  refine (HS1.out _).mono ?_
                  rintro e w3 ⟨rfl, hb3⟩
                  have hbs := bel_trans hb2' hb3
                  go_wp2_with fail
                  refine (HS2.out _).mono ?_
                  rintro e w4 ⟨rfl, hb4⟩
                  have hbx := bel_trans hbs hb4
                  have hso := hbx.size
                  have hbz := HB.out.size
                  go_wp2_with (at_builtin; refine wpList_append_own _ rfl _ _ 38 rfl w1.heap.size 84 i0 (.agg #[.int .i64 0, .int .i64 0]) 2 16 Tryz.underlying38 hi0 hz0 hz1 hz2 rfl (by omega) _ _ _ rfl ((HO.out.below hbx).alloc _) ⟨w4.heap.size, 0, none⟩ 1 1 [.int .i64 x, .int .i64 y] rfl rfl (S.two_cells _ _ _ _) (S.ones2 _ _) ?c3 ?c4 ?c5 ?_)
                  case c3 => have := HL.out; unfold maxLen; omega
                  case c4 => have := HL.out; omega
                  case c5 => simp; omega
                  intro v' w9 hown' hgrow _
                  have R := S.push_rel HB.out hbx HO.out hown' hgrow
                  clear hown' hgrow
                  have R1 := Lib.hid R.1; have R2 := Lib.hid R.2
                  clear R
                  go_wp2_with fail
                  go_roundw
                  case rel => exact ⟨p + n + 1 + m, _, congrArg (Value.int .i64) (by omega), R1.out, hu3.1, HI2.out, R2.out, HL2.out⟩
                  case measure => simp [intOf]; omega
              | bad e =>
                rw [hu2] at HS2
                simp only [sg1, sg2] at HS2
                have hI : item s p = .error (4, p + n) := by unfold item; rw [hu]; dsimp only; rw [if_pos hd, hu2]
                have hrr : r = .error (4, p + n) := by rw [HI.out, items_bad hpt hI]; rfl
                subst hrr
                have hrw : rr = .error (4, p + n) := HRW.out
                subst hrw
                clear HI HRW hI hu hu2
                go_wp2_with fail
                refine (HE1.out _).mono ?_
                rintro e w2 ⟨A, m0, k0, b0, N0, er0, rfl, hb2, rfl, rfl, rfl, hm0, ho2⟩
                clear ho2 hm0
                have hb2' : Below wr.heap.size wr (w2.alloc (.cells #[.slice A m0 k0, .bool true, .int .i64 (n : Int), .int .i64 0] 102)) := hb2.alloc hb2.size _
                go_wp2_with fail
                refine (HS1.out _).mono ?_
                rintro e w3 ⟨rfl, hb3⟩
                have hbs := bel_trans hb2' hb3
                go_wp2_with fail
                refine (HS2.out _).mono ?_
                rintro e w4 ⟨rfl, hb4⟩
                have hbx := HB.out.trans ((bel_trans hbs hb4).mono HB.out.size)
                go_wp2_with fail
                refine (bad_any _ _ _).mono ?_
                rintro e wz ⟨rfl, hbz⟩
                have hbz1 : Below w1.heap.size w1 wz := hbx.trans (hbz.mono hbx.size)
                obtain ⟨q0, q1, q2, q3⟩ := blk2 (keepL HF1.out hbz1)
                have hbw : Below w.heap.size w wz := HB1.out.trans (hbz1.mono HB1.out.size)
                go_wp2_with fail
                refine bodyPost_ret (v := .tuple #[nls, .int .i64 0, fv 4 ((p + n : Nat) : Int)]) ?_ rfl ⟨rfl, ?_, .inl rfl⟩
                · rw [results_ttc rfl]; go_simp
                · exact (hbw.setCell (p := ⟨w.heap.size, 0, none⟩) (Nat.le_refl _) _).setCell (p := ⟨w.heap.size, 1, none⟩) (Nat.le_refl _) _
              | many l2 =>
                rw [hu2] at HS2
                simp only [sg1, sg2] at HS2
                have hI : item s p = .error (4, p + n) := by unfold item; rw [hu]; dsimp only; rw [if_pos hd, hu2]
                have hrr : r = .error (4, p + n) := by rw [HI.out, items_bad hpt hI]; rfl
                subst hrr
                have hrw : rr = .error (4, p + n) := HRW.out
                subst hrw
                clear HI HRW hI hu hu2
                go_wp2_with fail
                refine (HE1.out _).mono ?_
                rintro e w2 ⟨A, m0, k0, b0, N0, er0, rfl, hb2, rfl, rfl, rfl, hm0, ho2⟩
                clear ho2 hm0
                have hb2' : Below wr.heap.size wr (w2.alloc (.cells #[.slice A m0 k0, .bool true, .int .i64 (n : Int), .int .i64 0] 102)) := hb2.alloc hb2.size _
                go_wp2_with fail
                refine (HS1.out _).mono ?_
                rintro e w3 ⟨rfl, hb3⟩
                have hbs := bel_trans hb2' hb3
                go_wp2_with fail
                refine (HS2.out _).mono ?_
                rintro e w4 ⟨rfl, hb4⟩
                have hbx := HB.out.trans ((bel_trans hbs hb4).mono HB.out.size)
                go_wp2_with fail
                refine (bad_any _ _ _).mono ?_
                rintro e wz ⟨rfl, hbz⟩
                have hbz1 : Below w1.heap.size w1 wz := hbx.trans (hbz.mono hbx.size)
                obtain ⟨q0, q1, q2, q3⟩ := blk2 (keepL HF1.out hbz1)
                have hbw : Below w.heap.size w wz := HB1.out.trans (hbz1.mono HB1.out.size)
                go_wp2_with fail
                refine bodyPost_ret (v := .tuple #[nls, .int .i64 0, fv 4 ((p + n : Nat) : Int)]) ?_ rfl ⟨rfl, ?_, .inl rfl⟩
                · rw [results_ttc rfl]; go_simp
                · exact (hbw.setCell (p := ⟨w.heap.size, 0, none⟩) (Nat.le_refl _) _).setCell (p := ⟨w.heap.size, 1, none⟩) (Nat.le_refl _) _
            · by_cases hpn : to ≤ p + n
              · have d5 : decide ((to : Int) ≤ (p : Int) + (n : Int)) = true := decide_eq_true (by omega)
                have hI : item s p = .ok ([(x, x)], p + n) := by unfold item; rw [hu]; dsimp only; rw [if_neg hd]
                have HI2 := Lib.hid (show r = pre (l ++ [(x, x)]) (items s to (p + n)) by rw [HI.out, items_ok hpt hI (by omega), pre_pre])
                have HL2 := Lib.hid (show (l ++ [(x, x)]).length ≤ 5 * (p + n) by have := HL.out; simp; omega)
                clear hI hu
                go_wp2_with fail
                refine (HE1.out _).mono ?_
                rintro e w2 ⟨A, m0, k0, b0, N0, er0, rfl, hb2, rfl, rfl, rfl, hm0, ho2⟩
                clear ho2 hm0
                have hb2' : Below wr.heap.size wr (w2.alloc (.cells #[.slice A m0 k0, .bool true, .int .i64 (n : Int), .int .i64 0] 102)) := hb2.alloc hb2.size _
                go_wp2_with fail
                refine (HS1.out _).mono ?_
                rintro e w3 ⟨rfl, hb3⟩
                have hbs := bel_trans hb2' hb3
                have hso := hbs.size
                have hbz := HB.out.size
                go_wp2_with (at_builtin; refine wpList_append_own _ rfl _ _ 38 rfl w1.heap.size 84 i0 (.agg #[.int .i64 0, .int .i64 0]) 2 16 Tryz.underlying38 hi0 hz0 hz1 hz2 rfl (by omega) _ _ _ rfl ((HO.out.below hbs).alloc _) ⟨w3.heap.size, 0, none⟩ 1 1 [.int .i64 x, .int .i64 x] rfl rfl (S.two_cells _ _ _ _) (S.ones2 _ _) ?c3 ?c4 ?c5 ?_)
                case c3 => have := HL.out; unfold maxLen; omega
                case c4 => have := HL.out; omega
                case c5 => simp; omega
                intro v' w9 hown' hgrow _
                have R := S.push_rel HB.out hbs HO.out hown' hgrow
                clear hown' hgrow
                have R1 := Lib.hid R.1; have R2 := Lib.hid R.2
                clear R
                go_wp2_with fail
                go_roundw
                case rel => exact ⟨p + n, _, congrArg (Value.int .i64) (by omega), R1.out, hu1.1, HI2.out, R2.out, HL2.out⟩
                case measure => simp [intOf]; omega
              · have d5 : decide ((to : Int) ≤ (p : Int) + (n : Int)) = false := decide_eq_false (by omega)
                have hin : p + n < s.size := by omega
                have hgd := U.bt_eq s (p + n) hin
                have e5 : (((s[p + n]'hin).toNat : Int) != 45) = true := by rw [← hgd]; simp; omega
                clear hgd
                have hI : item s p = .ok ([(x, x)], p + n) := by unfold item; rw [hu]; dsimp only; rw [if_neg hd]
                have HI2 := Lib.hid (show r = pre (l ++ [(x, x)]) (items s to (p + n)) by rw [HI.out, items_ok hpt hI (by omega), pre_pre])
                have HL2 := Lib.hid (show (l ++ [(x, x)]).length ≤ 5 * (p + n) by have := HL.out; simp; omega)
                clear hI hu
                go_wp2_with fail
                refine (HE1.out _).mono ?_
                rintro e w2 ⟨A, m0, k0, b0, N0, er0, rfl, hb2, rfl, rfl, rfl, hm0, ho2⟩
                clear ho2 hm0
                have hb2' : Below wr.heap.size wr (w2.alloc (.cells #[.slice A m0 k0, .bool true, .int .i64 (n : Int), .int .i64 0] 102)) := hb2.alloc hb2.size _
                go_wp2_with fail
                refine (HS1.out _).mono ?_
                rintro e w3 ⟨rfl, hb3⟩
                have hbs := bel_trans hb2' hb3
                have hso := hbs.size
                have hbz := HB.out.size
                go_wp2_with (at_builtin; refine wpList_append_own _ rfl _ _ 38 rfl w1.heap.size 84 i0 (.agg #[.int .i64 0, .int .i64 0]) 2 16 Tryz.underlying38 hi0 hz0 hz1 hz2 rfl (by omega) _ _ _ rfl ((HO.out.below hbs).alloc _) ⟨w3.heap.size, 0, none⟩ 1 1 [.int .i64 x, .int .i64 x] rfl rfl (S.two_cells _ _ _ _) (S.ones2 _ _) ?c3 ?c4 ?c5 ?_)
                case c3 => have := HL.out; unfold maxLen; omega
                case c4 => have := HL.out; omega
                case c5 => simp; omega
                intro v' w9 hown' hgrow _
                have R := S.push_rel HB.out hbs HO.out hown' hgrow
                clear hown' hgrow
                have R1 := Lib.hid R.1; have R2 := Lib.hid R.2
                clear R
                go_wp2_with fail
                go_roundw
                case rel => exact ⟨p + n, _, congrArg (Value.int .i64) (by omega), R1.out, hu1.1, HI2.out, R2.out, HL2.out⟩
                case measure => simp [intOf]; omega
        · have e2 : (((s[p]'hpl).toNat : Int) == 92) = false := by rw [← hg]; exact beq_eq_false_iff_ne.2 (by omega)
          have hn93 : bt s p ≠ 93 := fun e => by have := (cend_here HC.out).1 e; omega
          obtain ⟨x, n, hu⟩ : ∃ x n, unit s p = .one x n := ⟨_, _, by unfold unit; rw [if_neg h92, if_neg (by omega)]⟩
          rw [hu] at hS1
          simp only [sg1, sg2] at hS1
          have HS1 := Lib.hid hS1
          clear hS1 hg h45 h92 hn93
          have hu1 := unit_one HC.out hu
          have hle1 := (cend_some hu1.1).1
          by_cases hd : bt s (p + n) = 45
          · have hdash := dash hu1.1 hd
            have hle2 := (cend_some hdash).1
            have hin : p + n < s.size := by omega
            have hgd := U.bt_eq s (p + n) hin
            have e5 : (((s[p + n]'hin).toNat : Int) != 45) = false := by rw [← hgd, hd]; rfl
            have d5 : decide ((to : Int) ≤ (p : Int) + (n : Int)) = false := decide_eq_false (by omega)
            have hsing := fun W => rsingle_any W hs hdash
            rw [show ((p + n + 1 : Nat) : Int) = (p : Int) + (n : Int) + 1 by omega] at hsing
            have HS2 := Lib.hid hsing
            clear hsing hgd
            cases hu2 : unit s (p + n + 1) with
            | one y m =>
              have hu3 := unit_one hdash hu2
              have hle3 := (cend_some hu3.1).1
              rw [hu2] at HS2
              simp only [sg1, sg2] at HS2
              have e6 : ((m : Int) == 0) = false := beq_eq_false_iff_ne.2 (by omega)
              by_cases hyx : y < x
              · have d6 : decide (y < x) = true := decide_eq_true hyx
                have hI : item s p = .error (4, p) := by unfold item; rw [hu]; dsimp only; rw [if_pos hd, hu2]; dsimp only; rw [if_pos hyx]
                have hrr : r = .error (4, p) := by rw [HI.out, items_bad hpt hI]; rfl
                subst hrr
                have hrw : rr = .error (4, p) := HRW.out
                subst hrw
                clear HI HRW hI hu hu2
                go_wp2_with fail
                refine (HS1.out _).mono ?_
                rintro e w3 ⟨rfl, hb3⟩
                have hbs := hb3
                go_wp2_with fail
                refine (HS2.out _).mono ?_
                rintro e w4 ⟨rfl, hb4⟩
                have hbx := HB.out.trans ((bel_trans hbs hb4).mono HB.out.size)
                go_wp2_with fail
                refine (bad_any _ _ _).mono ?_
                rintro e wz ⟨rfl, hbz⟩
                have hbz1 : Below w1.heap.size w1 wz := hbx.trans (hbz.mono hbx.size)
                obtain ⟨q0, q1, q2, q3⟩ := blk2 (keepL HF1.out hbz1)
                have hbw : Below w.heap.size w wz := HB1.out.trans (hbz1.mono HB1.out.size)
                go_wp2_with fail
                refine bodyPost_ret (v := .tuple #[nls, .int .i64 0, fv 4 (p : Int)]) ?_ rfl ⟨rfl, ?_, .inl rfl⟩
                · rw [results_ttc rfl]; go_simp
                · exact (hbw.setCell (p := ⟨w.heap.size, 0, none⟩) (Nat.le_refl _) _).setCell (p := ⟨w.heap.size, 1, none⟩) (Nat.le_refl _) _
              · have d6 : decide (y < x) = false := decide_eq_false hyx
                have hI : item s p = .ok ([(x, y)], p + n + 1 + m) := by unfold item; rw [hu]; dsimp only; rw [if_pos hd, hu2]; dsimp only; rw [if_neg hyx]
                have HI2 := Lib.hid (show r = pre (l ++ [(x, y)]) (items s to (p + n + 1 + m)) by rw [HI.out, items_ok hpt hI (by omega), pre_pre])
                have HL2 := Lib.hid (show (l ++ [(x, y)]).length ≤ 5 * (p + n + 1 + m) by have := HL.out; simp; omega)
                clear hI hu hu2
                go_wp2_with fail
                refine (HS1.out _).mono ?_
                rintro e w3 ⟨rfl, hb3⟩
                have hbs := hb3
                go_wp2_with fail
                refine (HS2.out _).mono ?_
                rintro e w4 ⟨rfl, hb4⟩
                have hbx := bel_trans hbs hb4
                have hso := hbx.size
                have hbz := HB.out.size
                go_wp2_with (at_builtin; refine wpList_append_own _ rfl _ _ 38 rfl w1.heap.size 84 i0 (.agg #[.int .i64 0, .int .i64 0]) 2 16 Tryz.underlying38 hi0 hz0 hz1 hz2 rfl (by omega) _ _ _ rfl ((HO.out.below hbx).alloc _) ⟨w4.heap.size, 0, none⟩ 1 1 [.int .i64 x, .int .i64 y] rfl rfl (S.two_cells _ _ _ _) (S.ones2 _ _) ?c3 ?c4 ?c5 ?_)
                case c3 => have := HL.out; unfold maxLen; omega
                case c4 => have := HL.out; omega
                case c5 => simp; omega
                intro v' w9 hown' hgrow _
                have R := S.push_rel HB.out hbx HO.out hown' hgrow
                clear hown' hgrow
                have R1 := Lib.hid R.1; have R2 := Lib.hid R.2
                clear R
                go_wp2_with fail
                go_roundw
                case rel => exact ⟨p + n + 1 + m, _, congrArg (Value.int .i64) (by omega), R1.out, hu3.1, HI2.out, R2.out, HL2.out⟩
                case measure => simp [intOf]; omega
            | bad e =>
              rw [hu2] at HS2
              simp only [sg1, sg2] at HS2
              have hI : item s p = .error (4, p + n) := by unfold item; rw [hu]; dsimp only; rw [if_pos hd, hu2]
              have hrr : r = .error (4, p + n) := by rw [HI.out, items_bad hpt hI]; rfl
              subst hrr
              have hrw : rr = .error (4, p + n) := HRW.out
              subst hrw
              clear HI HRW hI hu hu2
              go_wp2_with fail
              refine (HS1.out _).mono ?_
              rintro e w3 ⟨rfl, hb3⟩
              have hbs := hb3
              go_wp2_with fail
              refine (HS2.out _).mono ?_
              rintro e w4 ⟨rfl, hb4⟩
              have hbx := HB.out.trans ((bel_trans hbs hb4).mono HB.out.size)
              go_wp2_with fail
              refine (bad_any _ _ _).mono ?_
              rintro e wz ⟨rfl, hbz⟩
              have hbz1 : Below w1.heap.size w1 wz := hbx.trans (hbz.mono hbx.size)
              obtain ⟨q0, q1, q2, q3⟩ := blk2 (keepL HF1.out hbz1)
              have hbw : Below w.heap.size w wz := HB1.out.trans (hbz1.mono HB1.out.size)
              go_wp2_with fail
              refine bodyPost_ret (v := .tuple #[nls, .int .i64 0, fv 4 ((p + n : Nat) : Int)]) ?_ rfl ⟨rfl, ?_, .inl rfl⟩
              · rw [results_ttc rfl]; go_simp
              · exact (hbw.setCell (p := ⟨w.heap.size, 0, none⟩) (Nat.le_refl _) _).setCell (p := ⟨w.heap.size, 1, none⟩) (Nat.le_refl _) _
            | many l2 =>
              rw [hu2] at HS2
              simp only [sg1, sg2] at HS2
              have hI : item s p = .error (4, p + n) := by unfold item; rw [hu]; dsimp only; rw [if_pos hd, hu2]
              have hrr : r = .error (4, p + n) := by rw [HI.out, items_bad hpt hI]; rfl
              subst hrr
              have hrw : rr = .error (4, p + n) := HRW.out
              subst hrw
              clear HI HRW hI hu hu2
              go_wp2_with fail
              refine (HS1.out _).mono ?_
              rintro e w3 ⟨rfl, hb3⟩
              have hbs := hb3
              go_wp2_with fail
              refine (HS2.out _).mono ?_
              rintro e w4 ⟨rfl, hb4⟩
              have hbx := HB.out.trans ((bel_trans hbs hb4).mono HB.out.size)
              go_wp2_with fail
              refine (bad_any _ _ _).mono ?_
              rintro e wz ⟨rfl, hbz⟩
              have hbz1 : Below w1.heap.size w1 wz := hbx.trans (hbz.mono hbx.size)
              obtain ⟨q0, q1, q2, q3⟩ := blk2 (keepL HF1.out hbz1)
              have hbw : Below w.heap.size w wz := HB1.out.trans (hbz1.mono HB1.out.size)
              go_wp2_with fail
              refine bodyPost_ret (v := .tuple #[nls, .int .i64 0, fv 4 ((p + n : Nat) : Int)]) ?_ rfl ⟨rfl, ?_, .inl rfl⟩
              · rw [results_ttc rfl]; go_simp
              · exact (hbw.setCell (p := ⟨w.heap.size, 0, none⟩) (Nat.le_refl _) _).setCell (p := ⟨w.heap.size, 1, none⟩) (Nat.le_refl _) _
          · by_cases hpn : to ≤ p + n
            · have d5 : decide ((to : Int) ≤ (p : Int) + (n : Int)) = true := decide_eq_true (by omega)
              have hI : item s p = .ok ([(x, x)], p + n) := by unfold item; rw [hu]; dsimp only; rw [if_neg hd]
              have HI2 := Lib.hid (show r = pre (l ++ [(x, x)]) (items s to (p + n)) by rw [HI.out, items_ok hpt hI (by omega), pre_pre])
              have HL2 := Lib.hid (show (l ++ [(x, x)]).length ≤ 5 * (p + n) by have := HL.out; simp; omega)
              clear hI hu
              go_wp2_with fail
              refine (HS1.out _).mono ?_
              rintro e w3 ⟨rfl, hb3⟩
              have hbs := hb3
              have hso := hbs.size
              have hbz := HB.out.size
              go_wp2_with (at_builtin; refine wpList_append_own _ rfl _ _ 38 rfl w1.heap.size 84 i0 (.agg #[.int .i64 0, .int .i64 0]) 2 16 Tryz.underlying38 hi0 hz0 hz1 hz2 rfl (by omega) _ _ _ rfl ((HO.out.below hbs).alloc _) ⟨w3.heap.size, 0, none⟩ 1 1 [.int .i64 x, .int .i64 x] rfl rfl (S.two_cells _ _ _ _) (S.ones2 _ _) ?c3 ?c4 ?c5 ?_)
              case c3 => have := HL.out; unfold maxLen; omega
              case c4 => have := HL.out; omega
              case c5 => simp; omega
              intro v' w9 hown' hgrow _
              have R := S.push_rel HB.out hbs HO.out hown' hgrow
              clear hown' hgrow
              have R1 := Lib.hid R.1; have R2 := Lib.hid R.2
              clear R
              go_wp2_with fail
              go_roundw
              case rel => exact ⟨p + n, _, congrArg (Value.int .i64) (by omega), R1.out, hu1.1, HI2.out, R2.out, HL2.out⟩
              case measure => simp [intOf]; omega
            · have d5 : decide ((to : Int) ≤ (p : Int) + (n : Int)) = false := decide_eq_false (by omega)
              have hin : p + n < s.size := by omega
              have hgd := U.bt_eq s (p + n) hin
              have e5 : (((s[p + n]'hin).toNat : Int) != 45) = true := by rw [← hgd]; simp; omega
              clear hgd
              have hI : item s p = .ok ([(x, x)], p + n) := by unfold item; rw [hu]; dsimp only; rw [if_neg hd]
              have HI2 := Lib.hid (show r = pre (l ++ [(x, x)]) (items s to (p + n)) by rw [HI.out, items_ok hpt hI (by omega), pre_pre])
              have HL2 := Lib.hid (show (l ++ [(x, x)]).length ≤ 5 * (p + n) by have := HL.out; simp; omega)
              clear hI hu
              go_wp2_with fail
              refine (HS1.out _).mono ?_
              rintro e w3 ⟨rfl, hb3⟩
              have hbs := hb3
              have hso := hbs.size
              have hbz := HB.out.size
              go_wp2_with (at_builtin; refine wpList_append_own _ rfl _ _ 38 rfl w1.heap.size 84 i0 (.agg #[.int .i64 0, .int .i64 0]) 2 16 Tryz.underlying38 hi0 hz0 hz1 hz2 rfl (by omega) _ _ _ rfl ((HO.out.below hbs).alloc _) ⟨w3.heap.size, 0, none⟩ 1 1 [.int .i64 x, .int .i64 x] rfl rfl (S.two_cells _ _ _ _) (S.ones2 _ _) ?c3 ?c4 ?c5 ?_)
              case c3 => have := HL.out; unfold maxLen; omega
              case c4 => have := HL.out; omega
              case c5 => simp; omega
              intro v' w9 hown' hgrow _
              have R := S.push_rel HB.out hbs HO.out hown' hgrow
              clear hown' hgrow
              have R1 := Lib.hid R.1; have R2 := Lib.hid R.2
              clear R
              go_wp2_with fail
              go_roundw
              case rel => exact ⟨p + n, _, congrArg (Value.int .i64) (by omega), R1.out, hu1.1, HI2.out, R2.out, HL2.out⟩
              case measure => simp [intOf]; omega
    · have d1 : decide (p < to) = false := decide_eq_false hpt
      obtain rfl : p = to := by omega
      have HRR := HI.out
      rw [items_end (Nat.le_refl _)] at HRR
      simp only [pre, List.append_nil] at HRR
      subst HRR
      clear HI
      have hl5 := HL.out
      have HCON := Lib.hid (fun (A : Option Addr) (k : Nat) (W : World) (h : S.Rgs W W.heap.size A l) => S.rnot_any A k l W h (by omega))
      obtain ⟨m, hm⟩ : ∃ m, m = notL l := ⟨_, rfl⟩
      rw [← hm] at HCON
      have hrw : rr = .ok (m, p + 1) := by rw [HRW.out, hm]; rfl
      subst hrw
      clear hm HRW
      obtain ⟨A0, k0, hv0, _, _, hrg, _⟩ := HO.out.shape
      subst hv0
      go_wp2_with fail
      refine (HCON.out _ _ _ hrg).mono ?_
      intro e w5 hr5
      obtain ⟨A5, k5, rfl, ho5, _, hb5⟩ := RetR.shape hr5
      have hbx := HB.out.trans (hb5.mono HB.out.size)
      obtain ⟨q0, q1, q2, q3⟩ := blk2 (keepL HF1.out hbx)
      have hbw : Below w.heap.size w w5 := HB1.out.trans (hbx.mono HB1.out.size)
      have hbz := HB.out.size
      clear hr5 hrg
      generalize hmn : m.length = n at *
      go_wp2_with fail
      refine bodyPost_ret (v := .tuple #[.slice A5 n k5, .int .i64 ((p : Int) + 1 - (i : Int)), fv 0 0]) ?_ rfl ⟨A5, k5, by rw [hmn]; push_cast; rfl, ?_, ?_⟩
      · rw [results_ttc rfl]; go_simp
      · rw [hmn]
        exact ((ho5.set (r := w.heap.size) (by omega) 0 _).set (r := w.heap.size) (by omega) 1 _).less (by omega)
      · exact (hbw.setCell (p := ⟨w.heap.size, 0, none⟩) (Nat.le_refl _) _).setCell (p := ⟨w.heap.size, 1, none⟩) (Nat.le_refl _) _
set_option maxHeartbeats 2000000 in
set_option maxRecDepth 100000 in
theorem rclass_norm {to : Nat} (he : cend s (i + 1) = some to) (h94 : bt s (i + 1) ≠ 94) (hto : to ≠ i + 1) {r : Res (List R)} (hr : r = items s to (i + 1)) {rr : Res (List R × Nat)} (hrr : rr = clsC nrm to r) :
    Calls Tryz.prog 70 #[.string s, .int .i64 (i : Int)] w (RetC i rr w) := by
  obtain ⟨i0, hi0, hz0, hz1, hz2⟩ := info_parts S.info32
  have HF0 := Lib.hid (heap_new w fo)
  have HB0 := Lib.hid ((Below.refl w.heap.size w).alloc (Nat.le_refl _) fo)
  have hfr : i + 1 = fr s i := by unfold fr; rw [if_neg h94]
  have HE := Lib.hid (rend_any s i (w.alloc fo) hs hi (T := to) (.inl ⟨to, he, rfl⟩) hfr)
  have hcf : cend s (i + 1) = some to := by rw [hfr, fr_cend]; exact he
  have hcs := cend_some hcf
  have HCF := Lib.hid hcf
  have HRS := Lib.hid hr
  have HRW := Lib.hid hrr
  clear hr hrr hcf hfr h94 he
  rw [show ((i + 1 : Nat) : Int) = (i : Int) + 1 by omega] at HE
  have e0 : ((to : Int) == (i : Int) + 1) = false := beq_eq_false_iff_ne.2 (by omega)
  go_enter Tryz.func70, Tryz.ntmps70
  go_wp2_with fail
  refine HE.out.mono ?_
  rintro e w1 ⟨rfl, hb1⟩
  have HF1 := Lib.hid (keepL HF0.out hb1)
  have HB1 := Lib.hid (bel_trans HB0.out hb1)
  have hs1 : w.heap.size < w1.heap.size := lt_of_heap HF1.out
  clear hb1
  go_wp2_with fail
  go_loopw [9, 10] (fun v t wr => ∃ (p : Nat) (l : List R), t = .int .i64 (p : Int) ∧ Hid (S.Ow wr w1.heap.size v l) ∧ Hid (cend s p = some to) ∧ Hid (r = pre l (items s to p)) ∧ Hid (Below w1.heap.size w1 wr) ∧ Hid (l.length ≤ 5 * p)) (fun _ t _ => to + 1 - (intOf t).toNat)
  case atStart => exact ⟨i + 1, [], congrArg (Value.int .i64) (by omega), S.Ow.nil _ _, HCF.out, by rw [pre_nil]; exact HRS.out, Below.refl _ _, Nat.zero_le _⟩
  case round =>
    obtain ⟨p, l, rfl, HO, HC, HI, HB, HL⟩ := hrel
    have hple := (cend_some HC.out).1
    have hpl := cend_lt HC.out
    by_cases hpt : p < to
    · have d1 : decide (p < to) = true := decide_eq_true hpt
      have hg := U.bt_eq s p hpl
      by_cases h45 : bt s p = 45
      · have e1 : (((s[p]'hpl).toNat : Int) == 45) = true := by rw [← hg, h45]; rfl
        have hI : item s p = .error (4, p) := by unfold item unit; rw [h45, if_neg (by decide), if_pos (.inl rfl)]
        have hrr : r = .error (4, p) := by rw [HI.out, items_bad hpt hI]; rfl
        subst hrr
        have hrw : rr = .error (4, p) := HRW.out
        subst hrw
        clear HI HRW hI hg h45
        have hbx := HB.out
        go_wp2_with fail
        refine (bad_any _ _ _).mono ?_
        rintro e wz ⟨rfl, hbz⟩
        have hbz1 : Below w1.heap.size w1 wz := hbx.trans (hbz.mono hbx.size)
        obtain ⟨q0, q1, q2, q3⟩ := blk2 (keepL HF1.out hbz1)
        have hbw : Below w.heap.size w wz := HB1.out.trans (hbz1.mono HB1.out.size)
        go_wp2_with fail
        refine bodyPost_ret (v := .tuple #[nls, .int .i64 0, fv 4 (p : Int)]) ?_ rfl ⟨rfl, ?_, .inl rfl⟩
        · rw [results_ttc rfl]; go_simp
        · exact (hbw.setCell (p := ⟨w.heap.size, 0, none⟩) (Nat.le_refl _) _).setCell (p := ⟨w.heap.size, 1, none⟩) (Nat.le_refl _) _
      · have e1 : (((s[p]'hpl).toNat : Int) == 45) = false := by rw [← hg]; exact beq_eq_false_iff_ne.2 (by omega)
        have hS1 := fun W => rsingle_any W hs HC.out
        by_cases h92 : bt s p = 92
        · have e2 : (((s[p]'hpl).toNat : Int) == 92) = true := by rw [← hg, h92]; rfl
          have hue : unit s p = esc s p := by unfold unit; rw [if_pos h92]
          have hE1 := fun W => resc_any (s := s) (i := p) W hs hpl
          rw [← hue] at hE1
          cases hu : unit s p with
          | bad x =>
            rw [hu] at hE1
            have HE1 := Lib.hid hE1
            have hI : item s p = .error (x, p) := by unfold item; rw [hu]
            have hrr : r = .error (x, p) := by rw [HI.out, items_bad hpt hI]; rfl
            subst hrr
            have hrw : rr = .error (x, p) := HRW.out
            subst hrw
            clear HI HRW hI hg h45 hS1 hE1 hue hu h92
            go_wp2_with fail
            refine (HE1.out _).mono ?_
            rintro e w2 ⟨A, m0, k0, b0, N0, er0, rfl, hb2, rfl, rfl, rfl, rfl, rfl, rfl, hee⟩
            have en : (er0 != 0) = true := by simp; omega
            have hbx : Below w1.heap.size w1 (w2.alloc (.cells #[.slice none 0 0, .bool false, .int .i64 0, .int .i64 er0] 102)) := HB.out.trans ((hb2.alloc hb2.size _).mono HB.out.size)
            go_wp2_with fail
            refine (bad_any _ _ _).mono ?_
            rintro e wz ⟨rfl, hbz⟩
            have hbz1 : Below w1.heap.size w1 wz := hbx.trans (hbz.mono hbx.size)
            obtain ⟨q0, q1, q2, q3⟩ := blk2 (keepL HF1.out hbz1)
            have hbw : Below w.heap.size w wz := HB1.out.trans (hbz1.mono HB1.out.size)
            go_wp2_with fail
            refine bodyPost_ret (v := .tuple #[nls, .int .i64 0, fv er0 (p : Int)]) ?_ rfl ⟨rfl, ?_, by omega⟩
            · rw [results_ttc rfl]; go_simp
            · exact (hbw.setCell (p := ⟨w.heap.size, 0, none⟩) (Nat.le_refl _) _).setCell (p := ⟨w.heap.size, 1, none⟩) (Nat.le_refl _) _
          | many l2 =>
            rw [hu] at hE1
            have HE1 := Lib.hid hE1
            have hI : item s p = .ok (l2, p + 2) := by unfold item; rw [hu]
            have hnx := item_next HC.out hI
            have hml := item_len hI
            have hqle := (cend_some hnx.2).1
            have HI2 := Lib.hid (show r = pre (l ++ l2) (items s to (p + 2)) by rw [HI.out, items_ok hpt hI hnx.1, pre_pre])
            have HL2 := Lib.hid (show (l ++ l2).length ≤ 5 * (p + 2) by have := HL.out; simp; omega)
            clear HI hI hg h45 hS1 hE1 hue hu h92
            go_wp2_with fail
            refine (HE1.out _).mono ?_
            rintro e w2 ⟨A, m0, k0, b0, N0, er0, rfl, hb2, rfl, rfl, rfl, rfl, ho2⟩
            have hbx : Below wr.heap.size wr (w2.alloc (.cells #[.slice A l2.length k0, .bool false, .int .i64 2, .int .i64 0] 102)) := hb2.alloc hb2.size _
            have hown := HO.out.below hbx
            obtain ⟨A', k', hv, _, _, hrg, _⟩ := (ho2.new (.cells #[.slice A l2.length k0, .bool false, .int .i64 2, .int .i64 0] 102)).shape
            injection hv with hv1 hv2 hv3
            subst hv1 hv3
            clear hv2
            have hso := hbx.size
            have hbz := HB.out.size
            obtain ⟨v', w5, hrun, hown', hgr⟩ := S.append_src (c := k0) 38 hown hrg (S.rgs_none hrg) (by have := HL.out; omega) (by omega)
            have HRUN := Lib.hid hrun
            have HO5 := Lib.hid hown'
            have HB5 := Lib.hid ((HB.out.trans (hbx.mono HB.out.size)).grown hgr (by omega) (fun k hk => (hown.lt k hk).1))
            obtain ⟨⟨c0, c1, c2, c3⟩, _⟩ := blk4 (heap_new w2 (.cells #[.slice A l2.length k0, .bool false, .int .i64 2, .int .i64 0] 102))
            have hkeep : w5.cell? ⟨w2.heap.size, 2, none⟩ = some (.int .i64 2) := hgr.cell (a := ⟨w2.heap.size, 2, none⟩) c2 (fun e => by have h1 : w2.heap.size < wr.heap.size := (HO.out.lt _ e.symm).2; have := hb2.size; omega)
            clear hrun hown' hown hrg hgr ho2
            generalize l2.length = n2 at *
            go_wp2_with (at_builtin; refine Lib.wpList_append_run _ rfl _ _ _ _ rfl _ _ rfl rfl _ _ HRUN.out ?_)
            go_roundw
            case rel => exact ⟨p + 2, l ++ l2, congrArg (Value.int .i64) (by omega), HO5.out, hnx.2, HI2.out, HB5.out, HL2.out⟩
            case measure => simp [intOf]; omega
          | one x n =>
            rw [hu] at hE1 hS1
            simp only [sg1, sg2] at hS1
            have HE1 := Lib.hid hE1
            have HS1 := Lib.hid hS1
            clear hE1 hS1 hue hg h45 h92
            have hu1 := unit_one HC.out hu
            have hle1 := (cend_some hu1.1).1
            by_cases hd : bt s (p + n) = 45
            · have hdash := dash hu1.1 hd
              have hle2 := (cend_some hdash).1
              have hin : p + n < s.size := by omega
              have hgd := U.bt_eq s (p + n) hin
              have e5 : (((s[p + n]'hin).toNat : Int) != 45) = false := by rw [← hgd, hd]; rfl
              have d5 : decide ((to : Int) ≤ (p : Int) + (n : Int)) = false := decide_eq_false (by omega)
              have hsing := fun W => rsingle_any W hs hdash
              rw [show ((p + n + 1 : Nat) : Int) = (p : Int) + (n : Int) + 1 by omega] at hsing
              have HS2 := Lib.hid hsing
              clear hsing hgd
              cases hu2 : unit s (p + n + 1) with
              | one y m =>
                have hu3 := unit_one hdash hu2
                have hle3 := (cend_some hu3.1).1
                rw [hu2] at HS2
                simp only [sg1, sg2] at HS2
                have e6 : ((m : Int) == 0) = false := beq_eq_false_iff_ne.2 (by omega)
                by_cases hyx : y < x
                · have d6 : decide (y < x) = true := decide_eq_true hyx
                  have hI : item s p = .error (4, p) := by unfold item; rw [hu]; dsimp only; rw [if_pos hd, hu2]; dsimp only; rw [if_pos hyx]
                  have hrr : r = .error (4, p) := by rw [HI.out, items_bad hpt hI]; rfl
                  subst hrr
                  have hrw : rr = .error (4, p) := HRW.out
                  subst hrw
                  clear HI HRW hI hu hu2
                  go_wp2_with fail
                  refine (HE1.out _).mono ?_
                  rintro e w2 ⟨A, m0, k0, b0, N0, er0, rfl, hb2, rfl, rfl, rfl, hm0, ho2⟩
                  clear ho2 hm0
                  have hb2' : Below wr.heap.size wr (w2.alloc (.cells #[.slice A m0 k0, .bool true, .int .i64 (n : Int), .int .i64 0] 102)) := hb2.alloc hb2.size _
                  go_wp2_with fail
                  refine (HS1.out _).mono ?_
                  rintro e w3 ⟨rfl, hb3⟩
                  have hbs := bel_trans hb2' hb3
                  go_wp2_with fail
                  refine (HS2.out _).mono ?_
                  rintro e w4 ⟨rfl, hb4⟩
                  have hbx := HB.out.trans ((bel_trans hbs hb4).mono HB.out.size)
                  go_wp2_with fail
                  refine (bad_any _ _ _).mono ?_
                  rintro e wz ⟨rfl, hbz⟩
                  have hbz1 : Below w1.heap.size w1 wz := hbx.trans (hbz.mono hbx.size)
                  obtain ⟨q0, q1, q2, q3⟩ := blk2 (keepL HF1.out hbz1)
                  have hbw : Below w.heap.size w wz := HB1.out.trans (hbz1.mono HB1.out.size)
                  go_wp2_with fail
                  refine bodyPost_ret (v := .tuple #[nls, .int .i64 0, fv 4 (p : Int)]) ?_ rfl ⟨rfl, ?_, .inl rfl⟩
                  · rw [results_ttc rfl]; go_simp
                  · exact (hbw.setCell (p := ⟨w.heap.size, 0, none⟩) (Nat.le_refl _) _).setCell (p := ⟨w.heap.size, 1, none⟩) (Nat.le_refl _) _
                · have d6 : decide (y < x) = false := decide_eq_false hyx
                  have hI : item s p = .ok ([(x, y)], p + n + 1 + m) := by unfold item; rw [hu]; dsimp only; rw [if_pos hd, hu2]; dsimp only; rw [if_neg hyx]
                  have HI2 := Lib.hid (show r = pre (l ++ [(x, y)]) (items s to (p + n + 1 + m)) by rw [HI.out, items_ok hpt hI (by omega), pre_pre])
                  have HL2 := Lib.hid (show (l ++ [(x, y)]).length ≤ 5 * (p + n + 1 + m) by have := HL.out; simp; omega)
                  clear hI hu hu2
                  go_wp2_with fail
                  refine (HE1.out _).mono ?_
                  rintro e w2 ⟨A, m0, k0, b0, N0, er0, rfl, hb2, rfl, rfl, rfl, hm0, ho2⟩
                  clear ho2 hm0
                  have hb2' : Below wr.heap.size wr (w2.alloc (.cells #[.slice A m0 k0, .bool true, .int .i64 (n : Int), .int .i64 0] 102)) := hb2.alloc hb2.size _
                  go_wp2_with fail
                  refine (HS1.out _).mono ?_
                  rintro e w3 ⟨rfl, hb3⟩
                  have hbs := bel_trans hb2' hb3
                  go_wp2_with fail
                  refine (HS2.out _).mono ?_
                  rintro e w4 ⟨rfl, hb4⟩
                  have hbx := bel_trans hbs hb4
                  have hso := hbx.size
                  have hbz := HB.out.size
                  go_wp2_with (at_builtin; refine wpList_append_own _ rfl _ _ 38 rfl w1.heap.size 84 i0 (.agg #[.int .i64 0, .int .i64 0]) 2 16 Tryz.underlying38 hi0 hz0 hz1 hz2 rfl (by omega) _ _ _ rfl ((HO.out.below hbx).alloc _) ⟨w4.heap.size, 0, none⟩ 1 1 [.int .i64 x, .int .i64 y] rfl rfl (S.two_cells _ _ _ _) (S.ones2 _ _) ?c3 ?c4 ?c5 ?_)
                  case c3 => have := HL.out; unfold maxLen; omega
                  case c4 => have := HL.out; omega
                  case c5 => simp; omega
                  intro v' w9 hown' hgrow _
                  have R := S.push_rel HB.out hbx HO.out hown' hgrow
                  clear hown' hgrow
                  have R1 := Lib.hid R.1; have R2 := Lib.hid R.2
                  clear R
                  go_wp2_with fail
                  go_roundw
                  case rel => exact ⟨p + n + 1 + m, _, congrArg (Value.int .i64) (by omega), R1.out, hu3.1, HI2.out, R2.out, HL2.out⟩
                  case measure => simp [intOf]; omega
              | bad e =>
                rw [hu2] at HS2
                simp only [sg1, sg2] at HS2
                have hI : item s p = .error (4, p + n) := by unfold item; rw [hu]; dsimp only; rw [if_pos hd, hu2]
                have hrr : r = .error (4, p + n) := by rw [HI.out, items_bad hpt hI]; rfl
                subst hrr
                have hrw : rr = .error (4, p + n) := HRW.out
                subst hrw
                clear HI HRW hI hu hu2
                go_wp2_with fail
                refine (HE1.out _).mono ?_
                rintro e w2 ⟨A, m0, k0, b0, N0, er0, rfl, hb2, rfl, rfl, rfl, hm0, ho2⟩
                clear ho2 hm0
                have hb2' : Below wr.heap.size wr (w2.alloc (.cells #[.slice A m0 k0, .bool true, .int .i64 (n : Int), .int .i64 0] 102)) := hb2.alloc hb2.size _
                go_wp2_with fail
                refine (HS1.out _).mono ?_
                rintro e w3 ⟨rfl, hb3⟩
                have hbs := bel_trans hb2' hb3
                go_wp2_with fail
                refine (HS2.out _).mono ?_
                rintro e w4 ⟨rfl, hb4⟩
                have hbx := HB.out.trans ((bel_trans hbs hb4).mono HB.out.size)
                go_wp2_with fail
                refine (bad_any _ _ _).mono ?_
                rintro e wz ⟨rfl, hbz⟩
                have hbz1 : Below w1.heap.size w1 wz := hbx.trans (hbz.mono hbx.size)
                obtain ⟨q0, q1, q2, q3⟩ := blk2 (keepL HF1.out hbz1)
                have hbw : Below w.heap.size w wz := HB1.out.trans (hbz1.mono HB1.out.size)
                go_wp2_with fail
                refine bodyPost_ret (v := .tuple #[nls, .int .i64 0, fv 4 ((p + n : Nat) : Int)]) ?_ rfl ⟨rfl, ?_, .inl rfl⟩
                · rw [results_ttc rfl]; go_simp
                · exact (hbw.setCell (p := ⟨w.heap.size, 0, none⟩) (Nat.le_refl _) _).setCell (p := ⟨w.heap.size, 1, none⟩) (Nat.le_refl _) _
              | many l2 =>
                rw [hu2] at HS2
                simp only [sg1, sg2] at HS2
                have hI : item s p = .error (4, p + n) := by unfold item; rw [hu]; dsimp only; rw [if_pos hd, hu2]
                have hrr : r = .error (4, p + n) := by rw [HI.out, items_bad hpt hI]; rfl
                subst hrr
                have hrw : rr = .error (4, p + n) := HRW.out
                subst hrw
                clear HI HRW hI hu hu2
                go_wp2_with fail
                refine (HE1.out _).mono ?_
                rintro e w2 ⟨A, m0, k0, b0, N0, er0, rfl, hb2, rfl, rfl, rfl, hm0, ho2⟩
                clear ho2 hm0
                have hb2' : Below wr.heap.size wr (w2.alloc (.cells #[.slice A m0 k0, .bool true, .int .i64 (n : Int), .int .i64 0] 102)) := hb2.alloc hb2.size _
                go_wp2_with fail
                refine (HS1.out _).mono ?_
                rintro e w3 ⟨rfl, hb3⟩
                have hbs := bel_trans hb2' hb3
                go_wp2_with fail
                refine (HS2.out _).mono ?_
                rintro e w4 ⟨rfl, hb4⟩
                have hbx := HB.out.trans ((bel_trans hbs hb4).mono HB.out.size)
                go_wp2_with fail
                refine (bad_any _ _ _).mono ?_
                rintro e wz ⟨rfl, hbz⟩
                have hbz1 : Below w1.heap.size w1 wz := hbx.trans (hbz.mono hbx.size)
                obtain ⟨q0, q1, q2, q3⟩ := blk2 (keepL HF1.out hbz1)
                have hbw : Below w.heap.size w wz := HB1.out.trans (hbz1.mono HB1.out.size)
                go_wp2_with fail
                refine bodyPost_ret (v := .tuple #[nls, .int .i64 0, fv 4 ((p + n : Nat) : Int)]) ?_ rfl ⟨rfl, ?_, .inl rfl⟩
                · rw [results_ttc rfl]; go_simp
                · exact (hbw.setCell (p := ⟨w.heap.size, 0, none⟩) (Nat.le_refl _) _).setCell (p := ⟨w.heap.size, 1, none⟩) (Nat.le_refl _) _
            · by_cases hpn : to ≤ p + n
              · have d5 : decide ((to : Int) ≤ (p : Int) + (n : Int)) = true := decide_eq_true (by omega)
                have hI : item s p = .ok ([(x, x)], p + n) := by unfold item; rw [hu]; dsimp only; rw [if_neg hd]
                have HI2 := Lib.hid (show r = pre (l ++ [(x, x)]) (items s to (p + n)) by rw [HI.out, items_ok hpt hI (by omega), pre_pre])
                have HL2 := Lib.hid (show (l ++ [(x, x)]).length ≤ 5 * (p + n) by have := HL.out; simp; omega)
                clear hI hu
                go_wp2_with fail
                refine (HE1.out _).mono ?_
                rintro e w2 ⟨A, m0, k0, b0, N0, er0, rfl, hb2, rfl, rfl, rfl, hm0, ho2⟩
                clear ho2 hm0
                have hb2' : Below wr.heap.size wr (w2.alloc (.cells #[.slice A m0 k0, .bool true, .int .i64 (n : Int), .int .i64 0] 102)) := hb2.alloc hb2.size _
                go_wp2_with fail
                refine (HS1.out _).mono ?_
                rintro e w3 ⟨rfl, hb3⟩
                have hbs := bel_trans hb2' hb3
                have hso := hbs.size
                have hbz := HB.out.size
                go_wp2_with (at_builtin; refine wpList_append_own _ rfl _ _ 38 rfl w1.heap.size 84 i0 (.agg #[.int .i64 0, .int .i64 0]) 2 16 Tryz.underlying38 hi0 hz0 hz1 hz2 rfl (by omega) _ _ _ rfl ((HO.out.below hbs).alloc _) ⟨w3.heap.size, 0, none⟩ 1 1 [.int .i64 x, .int .i64 x] rfl rfl (S.two_cells _ _ _ _) (S.ones2 _ _) ?c3 ?c4 ?c5 ?_)
                case c3 => have := HL.out; unfold maxLen; omega
                case c4 => have := HL.out; omega
                case c5 => simp; omega
                intro v' w9 hown' hgrow _
                have R := S.push_rel HB.out hbs HO.out hown' hgrow
                clear hown' hgrow
                have R1 := Lib.hid R.1; have R2 := Lib.hid R.2
                clear R
                go_wp2_with fail
                go_roundw
                case rel => exact ⟨p + n, _, congrArg (Value.int .i64) (by omega), R1.out, hu1.1, HI2.out, R2.out, HL2.out⟩
                case measure => simp [intOf]; omega
              · have d5 : decide ((to : Int) ≤ (p : Int) + (n : Int)) = false := decide_eq_false (by omega)
                have hin : p + n < s.size := by omega
                have hgd := U.bt_eq s (p + n) hin
                have e5 : (((s[p + n]'hin).toNat : Int) != 45) = true := by rw [← hgd]; simp; omega
                clear hgd
                have hI : item s p = .ok ([(x, x)], p + n) := by unfold item; rw [hu]; dsimp only; rw [if_neg hd]
                have HI2 := Lib.hid (show r = pre (l ++ [(x, x)]) (items s to (p + n)) by rw [HI.out, items_ok hpt hI (by omega), pre_pre])
                have HL2 := Lib.hid (show (l ++ [(x, x)]).length ≤ 5 * (p + n) by have := HL.out; simp; omega)
                clear hI hu
                go_wp2_with fail
                refine (HE1.out _).mono ?_
                rintro e w2 ⟨A, m0, k0, b0, N0, er0, rfl, hb2, rfl, rfl, rfl, hm0, ho2⟩
                clear ho2 hm0
                have hb2' : Below wr.heap.size wr (w2.alloc (.cells #[.slice A m0 k0, .bool true, .int .i64 (n : Int), .int .i64 0] 102)) := hb2.alloc hb2.size _
                go_wp2_with fail
                refine (HS1.out _).mono ?_
                rintro e w3 ⟨rfl, hb3⟩
                have hbs := bel_trans hb2' hb3
                have hso := hbs.size
                have hbz := HB.out.size
                go_wp2_with (at_builtin; refine wpList_append_own _ rfl _ _ 38 rfl w1.heap.size 84 i0 (.agg #[.int .i64 0, .int .i64 0]) 2 16 Tryz.underlying38 hi0 hz0 hz1 hz2 rfl (by omega) _ _ _ rfl ((HO.out.below hbs).alloc _) ⟨w3.heap.size, 0, none⟩ 1 1 [.int .i64 x, .int .i64 x] rfl rfl (S.two_cells _ _ _ _) (S.ones2 _ _) ?c3 ?c4 ?c5 ?_)
                case c3 => have := HL.out; unfold maxLen; omega
                case c4 => have := HL.out; omega
                case c5 => simp; omega
                intro v' w9 hown' hgrow _
                have R := S.push_rel HB.out hbs HO.out hown' hgrow
                clear hown' hgrow
                have R1 := Lib.hid R.1; have R2 := Lib.hid R.2
                clear R
                go_wp2_with fail
                go_roundw
                case rel => exact ⟨p + n, _, congrArg (Value.int .i64) (by omega), R1.out, hu1.1, HI2.out, R2.out, HL2.out⟩
                case measure => simp [intOf]; omega
        · have e2 : (((s[p]'hpl).toNat : Int) == 92) = false := by rw [← hg]; exact beq_eq_false_iff_ne.2 (by omega)
          have hn93 : bt s p ≠ 93 := fun e => by have := (cend_here HC.out).1 e; omega
          obtain ⟨x, n, hu⟩ : ∃ x n, unit s p = .one x n := ⟨_, _, by unfold unit; rw [if_neg h92, if_neg (by omega)]⟩
          rw [hu] at hS1
          simp only [sg1, sg2] at hS1
          have HS1 := Lib.hid hS1
          clear hS1 hg h45 h92 hn93
          have hu1 := unit_one HC.out hu
          have hle1 := (cend_some hu1.1).1
          by_cases hd : bt s (p + n) = 45
          · have hdash := dash hu1.1 hd
            have hle2 := (cend_some hdash).1
            have hin : p + n < s.size := by omega
            have hgd := U.bt_eq s (p + n) hin
            have e5 : (((s[p + n]'hin).toNat : Int) != 45) = false := by rw [← hgd, hd]; rfl
            have d5 : decide ((to : Int) ≤ (p : Int) + (n : Int)) = false := decide_eq_false (by omega)
            have hsing := fun W => rsingle_any W hs hdash
            rw [show ((p + n + 1 : Nat) : Int) = (p : Int) + (n : Int) + 1 by omega] at hsing
            have HS2 := Lib.hid hsing
            clear hsing hgd
            cases hu2 : unit s (p + n + 1) with
            | one y m =>
              have hu3 := unit_one hdash hu2
              have hle3 := (cend_some hu3.1).1
              rw [hu2] at HS2
              simp only [sg1, sg2] at HS2
              have e6 : ((m : Int) == 0) = false := beq_eq_false_iff_ne.2 (by omega)
              by_cases hyx : y < x
              · have d6 : decide (y < x) = true := decide_eq_true hyx
                have hI : item s p = .error (4, p) := by unfold item; rw [hu]; dsimp only; rw [if_pos hd, hu2]; dsimp only; rw [if_pos hyx]
                have hrr : r = .error (4, p) := by rw [HI.out, items_bad hpt hI]; rfl
                subst hrr
                have hrw : rr = .error (4, p) := HRW.out
                subst hrw
                clear HI HRW hI hu hu2
                go_wp2_with fail
                refine (HS1.out _).mono ?_
                rintro e w3 ⟨rfl, hb3⟩
                have hbs := hb3
                go_wp2_with fail
                refine (HS2.out _).mono ?_
                rintro e w4 ⟨rfl, hb4⟩
                have hbx := HB.out.trans ((bel_trans hbs hb4).mono HB.out.size)
                go_wp2_with fail
                refine (bad_any _ _ _).mono ?_
                rintro e wz ⟨rfl, hbz⟩
                have hbz1 : Below w1.heap.size w1 wz := hbx.trans (hbz.mono hbx.size)
                obtain ⟨q0, q1, q2, q3⟩ := blk2 (keepL HF1.out hbz1)
                have hbw : Below w.heap.size w wz := HB1.out.trans (hbz1.mono HB1.out.size)
                go_wp2_with fail
                refine bodyPost_ret (v := .tuple #[nls, .int .i64 0, fv 4 (p : Int)]) ?_ rfl ⟨rfl, ?_, .inl rfl⟩
                · rw [results_ttc rfl]; go_simp
                · exact (hbw.setCell (p := ⟨w.heap.size, 0, none⟩) (Nat.le_refl _) _).setCell (p := ⟨w.heap.size, 1, none⟩) (Nat.le_refl _) _
              · have d6 : decide (y < x) = false := decide_eq_false hyx
                have hI : item s p = .ok ([(x, y)], p + n + 1 + m) := by unfold item; rw [hu]; dsimp only; rw [if_pos hd, hu2]; dsimp only; rw [if_neg hyx]
                have HI2 := Lib.hid (show r = pre (l ++ [(x, y)]) (items s to (p + n + 1 + m)) by rw [HI.out, items_ok hpt hI (by omega), pre_pre])
                have HL2 := Lib.hid (show (l ++ [(x, y)]).length ≤ 5 * (p + n + 1 + m) by have := HL.out; simp; omega)
                clear hI hu hu2
                go_wp2_with fail
                refine (HS1.out _).mono ?_
                rintro e w3 ⟨rfl, hb3⟩
                have hbs := hb3
                go_wp2_with fail
                refine (HS2.out _).mono ?_
                rintro e w4 ⟨rfl, hb4⟩
                have hbx := bel_trans hbs hb4
                have hso := hbx.size
                have hbz := HB.out.size
                go_wp2_with (at_builtin; refine wpList_append_own _ rfl _ _ 38 rfl w1.heap.size 84 i0 (.agg #[.int .i64 0, .int .i64 0]) 2 16 Tryz.underlying38 hi0 hz0 hz1 hz2 rfl (by omega) _ _ _ rfl ((HO.out.below hbx).alloc _) ⟨w4.heap.size, 0, none⟩ 1 1 [.int .i64 x, .int .i64 y] rfl rfl (S.two_cells _ _ _ _) (S.ones2 _ _) ?c3 ?c4 ?c5 ?_)
                case c3 => have := HL.out; unfold maxLen; omega
                case c4 => have := HL.out; omega
                case c5 => simp; omega
                intro v' w9 hown' hgrow _
                have R := S.push_rel HB.out hbx HO.out hown' hgrow
                clear hown' hgrow
                have R1 := Lib.hid R.1; have R2 := Lib.hid R.2
                clear R
                go_wp2_with fail
                go_roundw
                case rel => exact ⟨p + n + 1 + m, _, congrArg (Value.int .i64) (by omega), R1.out, hu3.1, HI2.out, R2.out, HL2.out⟩
                case measure => simp [intOf]; omega
            | bad e =>
              rw [hu2] at HS2
              simp only [sg1, sg2] at HS2
              have hI : item s p = .error (4, p + n) := by unfold item; rw [hu]; dsimp only; rw [if_pos hd, hu2]
              have hrr : r = .error (4, p + n) := by rw [HI.out, items_bad hpt hI]; rfl
              subst hrr
              have hrw : rr = .error (4, p + n) := HRW.out
              subst hrw
              clear HI HRW hI hu hu2
              go_wp2_with fail
              refine (HS1.out _).mono ?_
              rintro e w3 ⟨rfl, hb3⟩
              have hbs := hb3
              go_wp2_with fail
              refine (HS2.out _).mono ?_
              rintro e w4 ⟨rfl, hb4⟩
              have hbx := HB.out.trans ((bel_trans hbs hb4).mono HB.out.size)
              go_wp2_with fail
              refine (bad_any _ _ _).mono ?_
              rintro e wz ⟨rfl, hbz⟩
              have hbz1 : Below w1.heap.size w1 wz := hbx.trans (hbz.mono hbx.size)
              obtain ⟨q0, q1, q2, q3⟩ := blk2 (keepL HF1.out hbz1)
              have hbw : Below w.heap.size w wz := HB1.out.trans (hbz1.mono HB1.out.size)
              go_wp2_with fail
              refine bodyPost_ret (v := .tuple #[nls, .int .i64 0, fv 4 ((p + n : Nat) : Int)]) ?_ rfl ⟨rfl, ?_, .inl rfl⟩
              · rw [results_ttc rfl]; go_simp
              · exact (hbw.setCell (p := ⟨w.heap.size, 0, none⟩) (Nat.le_refl _) _).setCell (p := ⟨w.heap.size, 1, none⟩) (Nat.le_refl _) _
            | many l2 =>
              rw [hu2] at HS2
              simp only [sg1, sg2] at HS2
              have hI : item s p = .error (4, p + n) := by unfold item; rw [hu]; dsimp only; rw [if_pos hd, hu2]
              have hrr : r = .error (4, p + n) := by rw [HI.out, items_bad hpt hI]; rfl
              subst hrr
              have hrw : rr = .error (4, p + n) := HRW.out
              subst hrw
              clear HI HRW hI hu hu2
              go_wp2_with fail
              refine (HS1.out _).mono ?_
              rintro e w3 ⟨rfl, hb3⟩
              have hbs := hb3
              go_wp2_with fail
              refine (HS2.out _).mono ?_
              rintro e w4 ⟨rfl, hb4⟩
              have hbx := HB.out.trans ((bel_trans hbs hb4).mono HB.out.size)
              go_wp2_with fail
              refine (bad_any _ _ _).mono ?_
              rintro e wz ⟨rfl, hbz⟩
              have hbz1 : Below w1.heap.size w1 wz := hbx.trans (hbz.mono hbx.size)
              obtain ⟨q0, q1, q2, q3⟩ := blk2 (keepL HF1.out hbz1)
              have hbw : Below w.heap.size w wz := HB1.out.trans (hbz1.mono HB1.out.size)
              go_wp2_with fail
              refine bodyPost_ret (v := .tuple #[nls, .int .i64 0, fv 4 ((p + n : Nat) : Int)]) ?_ rfl ⟨rfl, ?_, .inl rfl⟩
              · rw [results_ttc rfl]; go_simp
              · exact (hbw.setCell (p := ⟨w.heap.size, 0, none⟩) (Nat.le_refl _) _).setCell (p := ⟨w.heap.size, 1, none⟩) (Nat.le_refl _) _
          · by_cases hpn : to ≤ p + n
            · have d5 : decide ((to : Int) ≤ (p : Int) + (n : Int)) = true := decide_eq_true (by omega)
              have hI : item s p = .ok ([(x, x)], p + n) := by unfold item; rw [hu]; dsimp only; rw [if_neg hd]
              have HI2 := Lib.hid (show r = pre (l ++ [(x, x)]) (items s to (p + n)) by rw [HI.out, items_ok hpt hI (by omega), pre_pre])
              have HL2 := Lib.hid (show (l ++ [(x, x)]).length ≤ 5 * (p + n) by have := HL.out; simp; omega)
              clear hI hu
              go_wp2_with fail
              refine (HS1.out _).mono ?_
              rintro e w3 ⟨rfl, hb3⟩
              have hbs := hb3
              have hso := hbs.size
              have hbz := HB.out.size
              go_wp2_with (at_builtin; refine wpList_append_own _ rfl _ _ 38 rfl w1.heap.size 84 i0 (.agg #[.int .i64 0, .int .i64 0]) 2 16 Tryz.underlying38 hi0 hz0 hz1 hz2 rfl (by omega) _ _ _ rfl ((HO.out.below hbs).alloc _) ⟨w3.heap.size, 0, none⟩ 1 1 [.int .i64 x, .int .i64 x] rfl rfl (S.two_cells _ _ _ _) (S.ones2 _ _) ?c3 ?c4 ?c5 ?_)
              case c3 => have := HL.out; unfold maxLen; omega
              case c4 => have := HL.out; omega
              case c5 => simp; omega
              intro v' w9 hown' hgrow _
              have R := S.push_rel HB.out hbs HO.out hown' hgrow
              clear hown' hgrow
              have R1 := Lib.hid R.1; have R2 := Lib.hid R.2
              clear R
              go_wp2_with fail
              go_roundw
              case rel => exact ⟨p + n, _, congrArg (Value.int .i64) (by omega), R1.out, hu1.1, HI2.out, R2.out, HL2.out⟩
              case measure => simp [intOf]; omega
            · have d5 : decide ((to : Int) ≤ (p : Int) + (n : Int)) = false := decide_eq_false (by omega)
              have hin : p + n < s.size := by omega
              have hgd := U.bt_eq s (p + n) hin
              have e5 : (((s[p + n]'hin).toNat : Int) != 45) = true := by rw [← hgd]; simp; omega
              clear hgd
              have hI : item s p = .ok ([(x, x)], p + n) := by unfold item; rw [hu]; dsimp only; rw [if_neg hd]
              have HI2 := Lib.hid (show r = pre (l ++ [(x, x)]) (items s to (p + n)) by rw [HI.out, items_ok hpt hI (by omega), pre_pre])
              have HL2 := Lib.hid (show (l ++ [(x, x)]).length ≤ 5 * (p + n) by have := HL.out; simp; omega)
              clear hI hu
              go_wp2_with fail
              refine (HS1.out _).mono ?_
              rintro e w3 ⟨rfl, hb3⟩
              have hbs := hb3
              have hso := hbs.size
              have hbz := HB.out.size
              go_wp2_with (at_builtin; refine wpList_append_own _ rfl _ _ 38 rfl w1.heap.size 84 i0 (.agg #[.int .i64 0, .int .i64 0]) 2 16 Tryz.underlying38 hi0 hz0 hz1 hz2 rfl (by omega) _ _ _ rfl ((HO.out.below hbs).alloc _) ⟨w3.heap.size, 0, none⟩ 1 1 [.int .i64 x, .int .i64 x] rfl rfl (S.two_cells _ _ _ _) (S.ones2 _ _) ?c3 ?c4 ?c5 ?_)
              case c3 => have := HL.out; unfold maxLen; omega
              case c4 => have := HL.out; omega
              case c5 => simp; omega
              intro v' w9 hown' hgrow _
              have R := S.push_rel HB.out hbs HO.out hown' hgrow
              clear hown' hgrow
              have R1 := Lib.hid R.1; have R2 := Lib.hid R.2
              clear R
              go_wp2_with fail
              go_roundw
              case rel => exact ⟨p + n, _, congrArg (Value.int .i64) (by omega), R1.out, hu1.1, HI2.out, R2.out, HL2.out⟩
              case measure => simp [intOf]; omega
    · have d1 : decide (p < to) = false := decide_eq_false hpt
      obtain rfl : p = to := by omega
      have HRR := HI.out
      rw [items_end (Nat.le_refl _)] at HRR
      simp only [pre, List.append_nil] at HRR
      subst HRR
      clear HI
      have hl5 := HL.out
      have HCON := Lib.hid (fun (A : Option Addr) (k : Nat) (W : World) (h : S.Rgs W W.heap.size A l) => S.rnorm_any A k l W h (by omega))
      obtain ⟨m, hm⟩ : ∃ m, m = nrm l := ⟨_, rfl⟩
      rw [← hm] at HCON
      have hrw : rr = .ok (m, p + 1) := by rw [HRW.out, hm]; rfl
      subst hrw
      clear hm HRW
      obtain ⟨A0, k0, hv0, _, _, hrg, _⟩ := HO.out.shape
      subst hv0
      go_wp2_with fail
      refine (HCON.out _ _ _ hrg).mono ?_
      intro e w5 hr5
      obtain ⟨A5, k5, rfl, ho5, _, hb5⟩ := RetR.shape hr5
      have hbx := HB.out.trans (hb5.mono HB.out.size)
      obtain ⟨q0, q1, q2, q3⟩ := blk2 (keepL HF1.out hbx)
      have hbw : Below w.heap.size w w5 := HB1.out.trans (hbx.mono HB1.out.size)
      have hbz := HB.out.size
      clear hr5 hrg
      generalize hmn : m.length = n at *
      go_wp2_with fail
      refine bodyPost_ret (v := .tuple #[.slice A5 n k5, .int .i64 ((p : Int) + 1 - (i : Int)), fv 0 0]) ?_ rfl ⟨A5, k5, by rw [hmn]; push_cast; rfl, ?_, ?_⟩
      · rw [results_ttc rfl]; go_simp
      · rw [hmn]
        exact ((ho5.set (r := w.heap.size) (by omega) 0 _).set (r := w.heap.size) (by omega) 1 _).less (by omega)
      · exact (hbw.setCell (p := ⟨w.heap.size, 0, none⟩) (Nat.le_refl _) _).setCell (p := ⟨w.heap.size, 1, none⟩) (Nat.le_refl _) _
theorem rclass_any : Calls Tryz.prog 70 #[.string s, .int .i64 (i : Int)] w (RetC i (cls s i) w) := by
  unfold cls
  cases he : cend s (i + 1) with
  | none => exact rclass_noend w hs hi he
  | some to =>
    dsimp only
    by_cases h94 : bt s (i + 1) = 94
    · simp only [h94, if_true]
      by_cases hto : to = i + 2
      · rw [if_pos hto]; exact rclass_empty w hs hi he (by unfold fr; rw [if_pos h94]; exact hto)
      · rw [if_neg hto]
        have := rclass_not w hs hi he h94 hto rfl rfl
        cases hr : items s to (i + 2) with
        | error f => rw [hr] at this; exact this
        | ok l => rw [hr] at this; exact this
    · simp only [h94, if_false]
      by_cases hto : to = i + 1
      · rw [if_pos hto]; exact rclass_empty w hs hi he (by unfold fr; rw [if_neg h94]; exact hto)
      · rw [if_neg hto]
        have := rclass_norm w hs hi he h94 hto rfl rfl
        cases hr : items s to (i + 1) with
        | error f => rw [hr] at this; exact this
        | ok l => rw [hr] at this; exact this
end
end Go.Proofs.YtceeimolfalmpaaGreatDoor
