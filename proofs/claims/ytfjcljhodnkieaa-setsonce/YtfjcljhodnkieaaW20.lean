/-
  What Fold of the program answers. Condition: at most 100000 ranges.
-/
import Derived.Test.YtfjcljhodnkieaaW17
import Derived.Test.YtfjcljhodnkieaaW19
namespace Go.Proofs.Ytfjcljhodnkieaa
open Go.RowKit ObSets

/-- A literal of one range, made behind a world. -/
theorem one_rgs (w : World) (a b : Int) : Rgs (w.alloc (.cells #[.int .i64 a, .int .i64 b] 32)) (w.alloc (.cells #[.int .i64 a, .int .i64 b] 32)).heap.size (some ⟨w.heap.size, 0, none⟩) [(a, b)] := fun _ =>
  ⟨w.heap.size, 0, rfl, by simp, fun j r hj => by
    match j, hj with
    | 0, hj => simp at hj; subst hj; simp
    | j + 1, hj => simp at hj⟩
theorem shape_of {w : World} {B : Nat} {v : Value} {l : List R} (h : Ow w B v l) : ∃ A cap, v = .slice A l.length cap ∧ Rgs w w.heap.size A l := by
  obtain ⟨A, cap, hv, _, _, hr, _⟩ := h.shape
  exact ⟨A, cap, hv, hr⟩
theorem alloc_below {w w' : World} {o : Obj} (h : Below (w.alloc o).heap.size (w.alloc o) w') : Below w.heap.size w w' := bel_trans ((Below.refl w.heap.size w).alloc (Nat.le_refl _) o) h
theorem moved_mv (d : Int) (l : List R) : l.map (moved d) = l.map (mv d) := rfl
theorem andL_V (a b : List R) : ∀ r ∈ andL a b, V r := (andL_ok a b).1.1

set_option maxHeartbeats 2000000 in
set_option maxRecDepth 100000 in
theorem fold_any (A : Option Addr) (c : Nat) (l : List R) (w : World) (h : Rgs w w.heap.size A l) (hl : l.length ≤ 100000) :
    Calls Try.prog 27 #[.slice A l.length c] w (RetR (foldL l) w) := by
  have HC := Lib.hid (norm_any A c l w h (by omega))
  have hnl := nrm_len l
  have h3 := andL_len (nrm l) [(97, 122)]
  have h4 := andL_len (nrm l) [(65, 90)]
  simp only [List.length_singleton] at h3 h4
  have HA := Lib.hid (show ∀ (w1 : World) (B : Option Addr) (d : Nat) (x y : Int), Rgs w1 w1.heap.size B (nrm l) → Calls Try.prog 23 #[.slice B (nrm l).length d, .slice (some ⟨w1.heap.size, 0, none⟩) 1 1] (w1.alloc (.cells #[.int .i64 x, .int .i64 y] 32)) (RetR (andL (nrm l) [(x, y)]) (w1.alloc (.cells #[.int .i64 x, .int .i64 y] 32))) from fun w1 B d x y g => and_any B _ d 1 (nrm l) [(x, y)] _ (g.on ((Below.refl w1.heap.size w1).alloc (Nat.le_refl _) _)) (one_rgs w1 x y) (by omega) (by simp))
  have HS1 := Lib.hid (show ∀ (w1 : World) (B : Option Addr) (d : Nat), Rgs w1 w1.heap.size B (andL (nrm l) [(97, 122)]) → Calls Try.prog 49 #[.slice B (andL (nrm l) [(97, 122)]).length d, .int .i64 (-32)] w1 (RetR ((andL (nrm l) [(97, 122)]).map (mv (-32))) w1) from fun w1 B d g => shift_any B d _ (-32) w1 g (by omega) (by omega) (andL_V _ _))
  have HS2 := Lib.hid (show ∀ (w1 : World) (B : Option Addr) (d : Nat), Rgs w1 w1.heap.size B (andL (nrm l) [(65, 90)]) → Calls Try.prog 49 #[.slice B (andL (nrm l) [(65, 90)]).length d, .int .i64 32] w1 (RetR ((andL (nrm l) [(65, 90)]).map (mv 32)) w1) from fun w1 B d g => shift_any B d _ 32 w1 g (by omega) (by omega) (andL_V _ _))
  have hm1 : ((andL (nrm l) [(97, 122)]).map (mv (-32))).length = (andL (nrm l) [(97, 122)]).length := List.length_map ..
  have hm2 : ((andL (nrm l) [(65, 90)]).map (mv 32)).length = (andL (nrm l) [(65, 90)]).length := List.length_map ..
  have HRES := Lib.hid (show nrm (nrm l ++ ((andL (nrm l) [(97, 122)]).map (mv (-32)) ++ (andL (nrm l) [(65, 90)]).map (mv 32))) = foldL l from rfl)
  generalize foldL l = res at *
  generalize (andL (nrm l) [(97, 122)]).map (mv (-32)) = s1 at *
  generalize (andL (nrm l) [(65, 90)]).map (mv 32) = s2 at *
  have HA1 := Lib.hid (fun w1 B d g => HA.out w1 B d 97 122 g)
  have HA2 := Lib.hid (fun w1 B d g => HA.out w1 B d 65 90 g)
  clear HA
  generalize andL (nrm l) [(97, 122)] = a1 at *
  generalize andL (nrm l) [(65, 90)] = a2 at *
  generalize nrm l = m at *
  have HCC := Lib.hid (show ∀ (w1 : World) (B1 B2 B3 : Option Addr) (d1 d2 d3 : Nat), Rgs w1 w1.heap.size B1 m → Rgs w1 w1.heap.size B2 s1 → Rgs w1 w1.heap.size B3 s2 → Calls Try.prog 44 #[.slice (some ⟨w1.heap.size, 0, none⟩) 3 3] (w1.alloc (.cells #[.slice B1 m.length d1, .slice B2 s1.length d2, .slice B3 s2.length d3] 22)) (RetR (m ++ (s1 ++ s2)) (w1.alloc (.cells #[.slice B1 m.length d1, .slice B2 s1.length d2, .slice B3 s2.length d3] 22))) from fun w1 B1 B2 B3 d1 d2 d3 g1 g2 g3 => concat3_any B1 B2 B3 d1 d2 d3 m s1 s2 w1 g1 g2 g3 (by omega))
  have hcl : (m ++ (s1 ++ s2)).length ≤ 1000000 := by simp only [List.length_append]; omega
  have HNN := Lib.hid (show ∀ (w1 : World) (B : Option Addr) (d : Nat), Rgs w1 w1.heap.size B (m ++ (s1 ++ s2)) → Calls Try.prog 14 #[.slice B (m ++ (s1 ++ s2)).length d] w1 (RetR res w1) from fun w1 B d g => by rw [← HRES.out]; exact norm_any B d _ w1 g hcl)
  generalize m ++ (s1 ++ s2) = cc at *
  generalize l.length = n0 at *
  clear h hnl h3 h4 hm1 hm2 hcl HRES hl
  go_enter Try.func27, Try.ntmps27
  go_wp2_with fail
  refine HC.out.mono ?_
  rintro e w1 ⟨v1, rfl, hown1, hb1⟩
  obtain ⟨B1, d1, rfl, r1⟩ := shape_of hown1
  have R1 := Lib.hid r1
  clear r1 hown1 HC
  go_wp2_with fail
  refine (HA1.out _ _ _ R1.out).mono ?_
  rintro e w2 ⟨v2, rfl, hown2, hb2⟩
  obtain ⟨B2, d2, rfl, r2⟩ := shape_of hown2
  have R2 := Lib.hid r2
  have HB2 := Lib.hid (alloc_below hb2)
  have R12 := Lib.hid (R1.out.on HB2.out)
  clear hown2 r2 hb2 HA1
  go_wp2_with fail
  refine (HA2.out _ _ _ R12.out).mono ?_
  rintro e w3 ⟨v3, rfl, hown3, hb3⟩
  obtain ⟨B3, d3, rfl, r3⟩ := shape_of hown3
  have R3 := Lib.hid r3
  have HB3 := Lib.hid (alloc_below hb3)
  have R13 := Lib.hid (R12.out.on HB3.out)
  have R23 := Lib.hid (R2.out.on HB3.out)
  clear hown3 r3 hb3 HA2
  go_wp2_with fail
  refine (HS1.out _ _ _ R23.out).mono ?_
  rintro e w4 ⟨v4, rfl, hown4, hb4⟩
  obtain ⟨B4, d4, rfl, r4⟩ := shape_of hown4
  have R4 := Lib.hid r4
  have R14 := Lib.hid (R13.out.on hb4)
  have R34 := Lib.hid (R3.out.on hb4)
  have HB4 := Lib.hid hb4
  clear hown4 r4 hb4 HS1
  go_wp2_with fail
  refine (HS2.out _ _ _ R34.out).mono ?_
  rintro e w5 ⟨v5, rfl, hown5, hb5⟩
  obtain ⟨B5, d5, rfl, r5⟩ := shape_of hown5
  have R5 := Lib.hid r5
  have R15 := Lib.hid (R14.out.on hb5)
  have R45 := Lib.hid (R4.out.on hb5)
  have HB5 := Lib.hid hb5
  clear hown5 r5 hb5 HS2
  go_wp2_with fail
  refine (HCC.out _ _ _ _ _ _ _ R15.out R45.out R5.out).mono ?_
  rintro e w6 ⟨v6, rfl, hown6, hb6⟩
  obtain ⟨B6, d6, rfl, r6⟩ := shape_of hown6
  have R6 := Lib.hid r6
  have HB6 := Lib.hid (alloc_below hb6)
  clear hown6 r6 hb6 HCC
  go_wp2_with fail
  refine (HNN.out _ _ _ R6.out).mono ?_
  rintro e w7 ⟨v7, rfl, hown7, hb7⟩
  go_wp2_with fail
  go_ret
  have hbb := bel_trans (bel_trans (bel_trans (bel_trans (bel_trans hb1 HB2.out) HB3.out) HB4.out) HB5.out) HB6.out
  exact ⟨_, rfl, hown7.less hbb.size, bel_trans hbb hb7⟩
end Go.Proofs.Ytfjcljhodnkieaa
