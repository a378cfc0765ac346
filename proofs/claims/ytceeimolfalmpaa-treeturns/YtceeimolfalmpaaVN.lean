/-
  Two nodes held against each other as the statements do it (EqNode). Condition: at most 1000000 ranges in each set.
-/
import Derived.Test.YtceeimolfalmpaaVB
import Derived.Test.YtceeimolfalmpaaTM
namespace Go.Proofs.Ytceeimolfalmpaa
open Go.RowKit ObSets ObTree

set_option maxHeartbeats 8000000 in
set_option maxRecDepth 100000 in
theorem eqnode_any (x y : Nd) (As Bs : Option Addr) (ks js : Nat) (w : World) (hx : S.Rgs w w.heap.size As x.set) (hy : S.Rgs w w.heap.size Bs y.set) (hl : x.set.length ≤ 1000000) (hl2 : y.set.length ≤ 1000000) :
    Calls Try.prog 16 #[nv x (.slice As x.set.length ks), nv y (.slice Bs y.set.length js)] w (RetB w (x = y)) := by
  obtain ⟨kd, a, b, set, mn, mx, nn⟩ := x
  obtain ⟨kd2, a2, b2, set2, mn2, mx2, nn2⟩ := y
  dsimp only at hx hy hl hl2
  have HEQ := Lib.hid (fun (W : World) (hW : Below w.heap.size w W) => S.eqset_any As Bs ks js set set2 W (hx.on hW) (hy.on hW) hl hl2)
  have HB := Lib.hid (((Below.refl w.heap.size w).alloc (Nat.le_refl _) (.cells #[.int .i64 kd, .int .i64 a, .int .i64 b, .slice As set.length ks, .int .i64 mn, .int .i64 mx, .int .i64 nn] 35)).alloc (by simp) (.cells #[.int .i64 kd2, .int .i64 a2, .int .i64 b2, .slice Bs set2.length js, .int .i64 mn2, .int .i64 mx2, .int .i64 nn2] 35))
  obtain ⟨m, hm⟩ : ∃ m, set.length = m := ⟨_, rfl⟩
  obtain ⟨m2, hm2⟩ : ∃ m2, set2.length = m2 := ⟨_, rfl⟩
  rw [hm, hm2] at HB HEQ ⊢
  clear hx hy hl hl2 hm hm2
  by_cases h0 : kd = kd2
  · subst h0
    by_cases h1 : a = a2
    · subst h1
      by_cases h2 : b = b2
      · subst h2
        by_cases h3 : mn = mn2
        · subst h3
          by_cases h4 : mx = mx2
          · subst h4
            by_cases h5 : nn = nn2
            · subst h5
              by_cases hs : set = set2
              · have HS := Lib.hid hs
                have hq : decide (set = set2) = true := decide_eq_true hs
                clear hs
                have HF := Lib.hid (show (⟨kd, a, b, set, mn, mx, nn⟩ : Nd) = ⟨kd, a, b, set2, mn, mx, nn⟩ by rw [HS.out])
                go_enter Try.func16, Try.ntmps16
                go_wp2_with fail
                refine (HEQ.out _ HB.out).mono ?_
                rintro e w2 ⟨rfl, hb2⟩
                rw [hq]
                have HB2 := Lib.hid (HB.out.trans (hb2.mono HB.out.size))
                obtain ⟨⟨f0, f1, f2, f3, f4, f5, f6⟩, _⟩ := blk7 (keepL (keepL (heap_new w (.cells #[.int .i64 kd, .int .i64 a, .int .i64 b, .slice As m ks, .int .i64 mn, .int .i64 mx, .int .i64 nn] 35)) ((Below.refl _ _).alloc (Nat.le_refl _) (.cells #[.int .i64 kd, .int .i64 a, .int .i64 b, .slice Bs m2 js, .int .i64 mn, .int .i64 mx, .int .i64 nn] 35))) hb2)
                obtain ⟨⟨g0, g1, g2, g3, g4, g5, g6⟩, _⟩ := blk7 (keepL (heap_new (w.alloc (.cells #[.int .i64 kd, .int .i64 a, .int .i64 b, .slice As m ks, .int .i64 mn, .int .i64 mx, .int .i64 nn] 35)) (.cells #[.int .i64 kd, .int .i64 a, .int .i64 b, .slice Bs m2 js, .int .i64 mn, .int .i64 mx, .int .i64 nn] 35)) hb2)
                simp only [World.size_alloc] at g0 g1 g2 g3 g4 g5 g6
                clear hb2
                go_wp2_with fail
                refine bodyPost_ret (v := .bool true) ?_ ?_ ?_
                · exact results_tmp (fn := Try.f16) (t := 4) rfl _ _ _
                · rfl
                exact ⟨true, rfl, iff_of_true rfl HF.out, HB2.out⟩
              · have hq : decide (set = set2) = false := decide_eq_false hs
                have HF := Lib.hid (show (⟨kd, a, b, set, mn, mx, nn⟩ : Nd) ≠ ⟨kd, a, b, set2, mn, mx, nn⟩ from fun h => hs (congrArg Nd.set h))
                clear hs
                go_enter Try.func16, Try.ntmps16
                go_wp2_with fail
                refine (HEQ.out _ HB.out).mono ?_
                rintro e w2 ⟨rfl, hb2⟩
                rw [hq]
                have HB2 := Lib.hid (HB.out.trans (hb2.mono HB.out.size))
                obtain ⟨⟨f0, f1, f2, f3, f4, f5, f6⟩, _⟩ := blk7 (keepL (keepL (heap_new w (.cells #[.int .i64 kd, .int .i64 a, .int .i64 b, .slice As m ks, .int .i64 mn, .int .i64 mx, .int .i64 nn] 35)) ((Below.refl _ _).alloc (Nat.le_refl _) (.cells #[.int .i64 kd, .int .i64 a, .int .i64 b, .slice Bs m2 js, .int .i64 mn, .int .i64 mx, .int .i64 nn] 35))) hb2)
                obtain ⟨⟨g0, g1, g2, g3, g4, g5, g6⟩, _⟩ := blk7 (keepL (heap_new (w.alloc (.cells #[.int .i64 kd, .int .i64 a, .int .i64 b, .slice As m ks, .int .i64 mn, .int .i64 mx, .int .i64 nn] 35)) (.cells #[.int .i64 kd, .int .i64 a, .int .i64 b, .slice Bs m2 js, .int .i64 mn, .int .i64 mx, .int .i64 nn] 35)) hb2)
                simp only [World.size_alloc] at g0 g1 g2 g3 g4 g5 g6
                clear hb2
                go_wp2_with fail
                refine bodyPost_ret (v := .bool false) ?_ ?_ ?_
                · exact results_tmp (fn := Try.f16) (t := 4) rfl _ _ _
                · rfl
                exact ⟨false, rfl, iff_of_false Bool.noConfusion HF.out, HB2.out⟩
            · have e5 : (nn == nn2) = false := beq_eq_false_iff_ne.2 h5
              have HF := Lib.hid (show (⟨kd, a, b, set, mn, mx, nn⟩ : Nd) ≠ ⟨kd, a, b, set2, mn, mx, nn2⟩ from fun h => h5 (congrArg Nd.n h))
              clear h5
              go_enter Try.func16, Try.ntmps16
              go_wp2_with fail
              go_ret
              exact ⟨false, rfl, iff_of_false Bool.noConfusion HF.out, HB.out⟩
          · have e4 : (mx == mx2) = false := beq_eq_false_iff_ne.2 h4
            have HF := Lib.hid (show (⟨kd, a, b, set, mn, mx, nn⟩ : Nd) ≠ ⟨kd, a, b, set2, mn, mx2, nn2⟩ from fun h => h4 (congrArg Nd.mx h))
            clear h4
            go_enter Try.func16, Try.ntmps16
            go_wp2_with fail
            go_ret
            exact ⟨false, rfl, iff_of_false Bool.noConfusion HF.out, HB.out⟩
        · have e3 : (mn == mn2) = false := beq_eq_false_iff_ne.2 h3
          have HF := Lib.hid (show (⟨kd, a, b, set, mn, mx, nn⟩ : Nd) ≠ ⟨kd, a, b, set2, mn2, mx2, nn2⟩ from fun h => h3 (congrArg Nd.mn h))
          clear h3
          go_enter Try.func16, Try.ntmps16
          go_wp2_with fail
          go_ret
          exact ⟨false, rfl, iff_of_false Bool.noConfusion HF.out, HB.out⟩
      · have e2 : (b == b2) = false := beq_eq_false_iff_ne.2 h2
        have HF := Lib.hid (show (⟨kd, a, b, set, mn, mx, nn⟩ : Nd) ≠ ⟨kd, a, b2, set2, mn2, mx2, nn2⟩ from fun h => h2 (congrArg Nd.b h))
        clear h2
        go_enter Try.func16, Try.ntmps16
        go_wp2_with fail
        go_ret
        exact ⟨false, rfl, iff_of_false Bool.noConfusion HF.out, HB.out⟩
    · have e1 : (a == a2) = false := beq_eq_false_iff_ne.2 h1
      have HF := Lib.hid (show (⟨kd, a, b, set, mn, mx, nn⟩ : Nd) ≠ ⟨kd, a2, b2, set2, mn2, mx2, nn2⟩ from fun h => h1 (congrArg Nd.a h))
      clear h1
      go_enter Try.func16, Try.ntmps16
      go_wp2_with fail
      go_ret
      exact ⟨false, rfl, iff_of_false Bool.noConfusion HF.out, HB.out⟩
  · have e0 : (kd == kd2) = false := beq_eq_false_iff_ne.2 h0
    have HF := Lib.hid (show (⟨kd, a, b, set, mn, mx, nn⟩ : Nd) ≠ ⟨kd2, a2, b2, set2, mn2, mx2, nn2⟩ from fun h => h0 (congrArg Nd.kind h))
    clear h0
    go_enter Try.func16, Try.ntmps16
    go_wp2_with fail
    go_ret
    exact ⟨false, rfl, iff_of_false Bool.noConfusion HF.out, HB.out⟩
end Go.Proofs.Ytceeimolfalmpaa
