/-
  The statements' own first look (wakes: what the document fixes at a few texts) answers true. Condition: the two tables of unicode/utf8 lie as their text lays them.
-/
import Derived.Test.YteabicdmgbcpaaaDoorW11
namespace Go.Proofs.YteabicdmgbcpaaaDoor
open Go.RowKit ObUtf

abbrev tA : ByteArray := { data := #[97, 195, 169] }
theorem v1 : syI tA 1 = 233 ∧ wdI tA 1 = 2 := by decide +kernel
theorem v2 : syI { data := #[128] } 0 = 1114240 ∧ wdI { data := #[128] } 0 = 1 := by decide +kernel
theorem v3 : befS tA 3 = 233 ∧ befW tA 3 = 2 := by decide +kernel
theorem v4 : isBI { data := #[97] } 1 = true := by decide +kernel
theorem v5 : bytesB 1114367 = { data := #[255] } := by decide +kernel
theorem v6 : goodB 57344 = true := by decide +kernel
theorem v7 : nextI 55295 = 57344 := by decide +kernel
theorem v8 : prevI 1114240 = 1114111 := by decide +kernel
theorem v9 : syms { data := #[255, 255] } = [1114367, 1114367] := by decide +kernel
def fJ (j : Nat) : Int := if j = 0 then 97 else 233
theorem v10 : (⟨(joinTo fJ 2).toArray⟩ : ByteArray) = tA := by decide +kernel

theorem w_at1 (w : World) (hT : Tb w) : Calls Tryd.prog 11 #[.string tA, .int .i64 1] w fun e w' => e = .returned (.tuple #[.int .i64 233, .int .i64 2]) ∧ Below w.heap.size w w' := by
  have h := at_any tA 1 w hT.1
  rwa [v1.1, v1.2] at h
theorem w_at2 (w : World) (hT : Tb w) : Calls Tryd.prog 11 #[.string { data := #[128] }, .int .i64 0] w fun e w' => e = .returned (.tuple #[.int .i64 1114240, .int .i64 1]) ∧ Below w.heap.size w w' := by
  have h := at_any { data := #[128] } 0 w hT.1
  rwa [v2.1, v2.2] at h
theorem w_bef (w : World) (hT : Tb w) : Calls Tryd.prog 13 #[.string tA, .int .i64 3] w fun e w' => e = .returned (.tuple #[.int .i64 233, .int .i64 2]) ∧ Below w.heap.size w w' := by
  have h := before_any tA 3 w (by decide) hT
  rwa [v3.1, v3.2] at h
theorem w_is (w : World) (hT : Tb w) : Calls Tryd.prog 15 #[.string { data := #[97] }, .int .i64 1] w fun e w' => e = .returned (.bool true) ∧ Below w.heap.size w w' := by
  have h := is_any { data := #[97] } 1 w (by decide) hT
  rwa [v4] at h
theorem w_bytes (w : World) : Calls Tryd.prog 25 #[.int .i64 1114367] w fun e w' => e = .returned (.string { data := #[255] }) ∧ Below w.heap.size w w' := by
  have h := bytes_any 1114367 w
  rwa [v5] at h
theorem w_good (w : World) : Calls Tryd.prog 23 #[.int .i64 57344] w fun e w' => e = .returned (.bool true) ∧ w = w' := by
  have h := good_any 57344 w
  rwa [v6] at h
theorem w_next (w : World) : Calls Tryd.prog 27 #[.int .i64 55295] w fun e w' => e = .returned (.int .i64 57344) ∧ w = w' := by
  have h := next_any 55295 w
  rwa [v7] at h
theorem w_prev (w : World) : Calls Tryd.prog 29 #[.int .i64 1114240] w fun e w' => e = .returned (.int .i64 1114111) ∧ w = w' := by
  have h := prev_any 1114240 w
  rwa [v8] at h
theorem w_all (w : World) (hT : Tb w) : Calls Tryd.prog 19 #[.string { data := #[255, 255] }] w fun e w' => (∃ g cap, e = .returned (.slice (some ⟨g, 0, none⟩) 2 cap)) ∧ Below w.heap.size w w' := by
  have h := all_any { data := #[255, 255] } w (by decide) hT
  rw [v9] at h
  refine h.mono ?_
  rintro e w' ⟨v, rfl, hown, hb⟩
  obtain ⟨g, cap, rfl, _⟩ := own_shape hown (by decide)
  exact ⟨⟨g, cap, rfl⟩, hb⟩
theorem w_join (w : World) : Calls Tryd.prog 21 #[.slice (some ⟨w.heap.size, 0, none⟩) 2 2] (w.alloc (.cells #[.int .i64 97, .int .i64 233] 3)) fun e w' => e = .returned (.string tA) ∧ Below w.heap.size w w' := by
  have h := join_any (some ⟨w.heap.size, 0, none⟩) 2 2 fJ (w.alloc (.cells #[.int .i64 97, .int .i64 233] 3)) (fun _ => ⟨w.heap.size, 0, rfl, by simp, fun j hj => by
    rw [World.cell?_alloc_at _ _ _ _ rfl]
    rcases (show j = 0 ∨ j = 1 by omega) with rfl | rfl <;> rfl⟩) (by decide)
  rw [v10] at h
  refine h.mono ?_
  rintro e w' ⟨he, hb⟩
  exact ⟨he, ((Below.refl _ _).alloc (Nat.le_refl _) _).trans (hb.mono (by simp))⟩
set_option maxHeartbeats 1000000 in
set_option maxRecDepth 100000 in
theorem wakes_any (w : World) (hT : Tb w) : Calls Tryd.prog 9 #[] w fun e w' => e = .returned (.bool true) ∧ Below w.heap.size w w' := by
  have HT := Lib.hid hT; clear hT
  go_enter Tryd.func9, Tryd.ntmps9
  go_wp2_with fail
  refine (w_at1 _ HT.out).mono ?_
  rintro e w1 ⟨rfl, hb1⟩
  have T1 := Lib.hid (HT.out.below hb1)
  go_wp2_with fail
  refine (w_at2 _ T1.out).mono ?_
  rintro e w2 ⟨rfl, hb2⟩
  have T2 := Lib.hid (T1.out.below hb2)
  go_wp2_with fail
  refine (w_bef _ T2.out).mono ?_
  rintro e w3 ⟨rfl, hb3⟩
  have T3 := Lib.hid (T2.out.below hb3)
  go_wp2_with fail
  refine (w_is _ T3.out).mono ?_
  rintro e w4 ⟨rfl, hb4⟩
  have T4 := Lib.hid (T3.out.below hb4)
  go_wp2_with fail
  refine (w_bytes _).mono ?_
  rintro e w5 ⟨rfl, hb5⟩
  have T5 := Lib.hid (T4.out.below hb5)
  go_wp2_with fail
  refine (w_good _).mono ?_
  rintro e w6 ⟨rfl, rfl⟩
  go_wp2_with fail
  refine (w_next _).mono ?_
  rintro e w6 ⟨rfl, rfl⟩
  go_wp2_with fail
  refine (w_prev _).mono ?_
  rintro e w6 ⟨rfl, rfl⟩
  go_wp2_with fail
  refine (w_all _ T5.out).mono ?_
  rintro e w6 ⟨⟨g, cap, rfl⟩, hb6⟩
  go_wp2_with fail
  refine (w_join _).mono ?_
  rintro e w7 ⟨rfl, hb7⟩
  go_wp2
  go_ret
  exact ⟨rfl, bel_trans (bel_trans (bel_trans (bel_trans (bel_trans (bel_trans hb1 hb2) hb3) hb4) hb5) hb6) hb7⟩
end Go.Proofs.YteabicdmgbcpaaaDoor
