/-
  What Prev of a cursor answers and leaves; what Is of a buffer answers. Conditions: those of the buffer's invariant; for Prev: the cursor stands at a boundary; the two tables of unicode/utf8 lie as their text lays them.
-/
import Derived.Test.YtdpjcbljeklhmaaDoorC2
namespace Go.Proofs.YtdpjcbljeklhmaaDoor
open Go.RowKit ObGap ObUtf

section
variable {w : World} {F : Nat → Prop} {b mx : Nat} {s : Bs} {p c at' n : Nat}
set_option maxHeartbeats 1000000 in
set_option maxRecDepth 100000 in
theorem prev_none (hB : Bu w F b mx s p) (hC : Cu w c b at' n) (hat : at' = 0) : Calls Tryd.prog 18 #[ptr c] w fun e w' => e = .returned (.tuple #[.int .i64 0, .bool false]) ∧ Below w.heap.size w w' := by
  have HB := Lib.hid (fun W (hb : Below w.heap.size w W) => bbyte_bu (hB.on hb) (-1))
  rw [byt_out (.inl (by omega))] at HB
  have HC := Lib.hid (fun W (hb : Below w.heap.size w W) => hC.two hb)
  have w1 : IntKind.i64.wrap ((at' : Int) - 1) = -1 := by rw [hat]; rfl
  clear hB hC hat
  go_enter Tryd.func18, Tryd.ntmps18
  go_wp2_with fail
  go_region_held3 (fun W => W.cell? ⟨c, 0, none⟩ = some (ptr b) ∧ W.cell? ⟨c, 1, none⟩ = some (.int .i64 (at' : Int))) (first | exact HC.out _ (Below.refl _ _).drew | exact HC.out _ (undrew hb1) | fail) (first
    | (go_at_call 35; refine (HB.out _ (Below.refl _ _).drew).mono ?_; rintro e w1 ⟨rfl, hb1⟩))
  all_goals (
    go_wp2_with (go_at_call 36; refine (tell_none _ _ (by omega) _ _).mono ?_; rintro e w2 ⟨rfl, rfl⟩)
    go_ret2
    exact ⟨rfl, undrew hb1⟩)
set_option maxHeartbeats 1000000 in
set_option maxRecDepth 100000 in
theorem prev_some (hB : Bu w F b mx s p) (hC : Cu w c b at' n) (hT : U.Tb w) (h0 : 0 < at') (hat : at' ≤ s.length) (hI : IsB (ba s) at') (hn : n ≤ 1099511627776) :
    Calls Tryd.prog 18 #[ptr c] w fun e w' => e = .returned (.tuple #[.int .i64 (sy (ba s) (at' - U.pw (ba s) at')), .bool true]) ∧ Cu w' c b (at' - U.pw (ba s) at') (n + 1) ∧ Ex c c w w' := by
  have HB := Lib.hid (fun W (hb : Below w.heap.size w W) => bbyte_bu (hB.on hb) ((at' - 1 : Nat) : Int))
  rw [byt_in (s := s) (n := at' - 1) (by omega)] at HB
  have HC := Lib.hid (fun W (hb : Below w.heap.size w W) => hC.two hb)
  have HX := Lib.hid (fun W (hb : Below w.heap.size w W) => hC.on hb)
  have hl := hB.lens.1
  have hw := U.pw_wd hI h0
  have ws1 : IntKind.i64.wrap ((at' : Int) - 1) = ((at' - 1 : Nat) : Int) := by rw [show (at' : Int) - 1 = ((at' - 1 : Nat) : Int) by omega]; exact IntWalk.i64_in _ (by omega)
  by_cases hx : bt (ba s) (at' - 1) < 128
  · obtain ⟨e1, e2⟩ := prev_low hat h0 hI hx
    rw [e1, e2]
    have d0 : decide (bt (ba s) (at' - 1) < 128) = true := by simp [hx]
    generalize bt (ba s) (at' - 1) = x at *
    have h11 : (at' : Int) + -1 = ((at' - 1 : Nat) : Int) := by omega
    generalize at' - 1 = a1 at *
    have H11 := Lib.hid h11
    clear hB hC e1 e2 hw hI hT h11
    go_enter Tryd.func18, Tryd.ntmps18
    go_wp2_with fail
    go_region_held3 (fun W => W.cell? ⟨c, 0, none⟩ = some (ptr b) ∧ W.cell? ⟨c, 1, none⟩ = some (.int .i64 (at' : Int))) (first | exact HC.out _ (Below.refl _ _).drew | exact HC.out _ (undrew hb1) | fail) (first
      | (go_at_call 35; refine (HB.out _ (Below.refl _ _).drew).mono ?_; rintro e w1 ⟨rfl, hb1⟩))
    all_goals (
      go_wp2_with (go_at_call 36; refine (tell_some (HX.out _ (undrew hb1)) _ _ (by omega) a1 H11.out (by have := H11.out; omega) hn).mono ?_; rintro e w2 ⟨rfl, hc2, hx2⟩)
      go_ret2
      exact ⟨rfl, hc2, (Ex.of (undrew hb1)).trans hx2⟩)
  · have d0 : decide (bt (ba s) (at' - 1) < 128) = false := decide_eq_false (by omega)
    have hpw := prev_win hat h0 hI
    have hs := (sy_range (s := ba s) (i := at' - U.pw (ba s) at') (by rw [ba_size]; omega)).1
    obtain ⟨v, hv⟩ : ∃ v, v = ba (win s (at' - 4) at') := ⟨_, rfl⟩
    have hvz : v.size = at' - (at' - 4) := by rw [hv, ba_size, win_len]; omega
    rw [← hv] at hpw
    have HWn := Lib.hid (fun W (hb : Below w.heap.size w W) => window_ba (hB.on hb) ((at' : Int) - 4) (at' - 4) at' (by omega) (by omega) v hv)
    have HA := Lib.hid (fun W (hb : Below w.heap.size w W) => U.before_any v ((at' - (at' - 4) : Nat) : Int) W (by rw [hvz]; unfold maxLen; omega) (hT.below hb))
    rw [hpw.1, hpw.2] at HA
    clear hv
    have w4 : IntKind.i64.wrap ((at' : Int) - 4) = (at' : Int) - 4 := IntWalk.i64_in _ (by omega)
    have hk : (at' : Int) + -(U.pw (ba s) at' : Int) = ((at' - U.pw (ba s) at' : Nat) : Int) := by omega
    have wn : IntKind.i64.wrap (-(U.pw (ba s) at' : Int)) = -(U.pw (ba s) at' : Int) := IntWalk.i64_in _ (by omega)
    have hk4 : at' - U.pw (ba s) at' ≤ 1099511627776 := by omega
    generalize bt (ba s) (at' - 1) = x at *
    generalize sy (ba s) (at' - U.pw (ba s) at') = y at *
    generalize at' - U.pw (ba s) at' = k at *
    generalize U.pw (ba s) at' = d at *
    generalize at' - (at' - 4) = m at *
    generalize at' - 1 = a1 at *
    have HK := Lib.hid hk
    clear hB hC hpw hT hI hw hk
    go_enter Tryd.func18, Tryd.ntmps18
    go_wp2_with fail
    go_region_held3 (fun W => W.cell? ⟨c, 0, none⟩ = some (ptr b) ∧ W.cell? ⟨c, 1, none⟩ = some (.int .i64 (at' : Int))) (first | exact HC.out _ (Below.refl _ _).drew | exact HC.out _ (undrew hb1) | fail) (first
      | (go_at_call 35; refine (HB.out _ (Below.refl _ _).drew).mono ?_; rintro e w1 ⟨rfl, hb1⟩))
    all_goals (
      go_wp2_with fail
      go_region_held3 (fun W => W.cell? ⟨c, 0, none⟩ = some (ptr b) ∧ W.cell? ⟨c, 1, none⟩ = some (.int .i64 (at' : Int))) (first | exact HC.out _ (undrew hb1).drew | exact HC.out _ (bel_trans (undrew hb1) (undrew hb3)) | fail) (first
        | (go_at_call 38; refine (HWn.out _ (undrew hb1).drew).mono ?_; rintro e w3 ⟨rfl, hb3⟩)))
    all_goals (
      go_wp2_with (first
        | (go_at_call 40; refine (HA.out _ (bel_trans (undrew hb1) (undrew hb3))).mono ?_; rintro e w4 ⟨rfl, hb4⟩)
        | (go_at_call 36; refine (tell_some (HX.out _ (bel_trans (bel_trans (undrew hb1) (undrew hb3)) hb4)) _ _ (by omega) k HK.out hk4 hn).mono ?_; rintro e w5 ⟨rfl, hc2, hx2⟩))
      go_ret2
      exact ⟨rfl, hc2, (Ex.of (bel_trans (bel_trans (undrew hb1) (undrew hb3)) hb4)).trans hx2⟩)
set_option maxHeartbeats 1000000 in
set_option maxRecDepth 100000 in
theorem is_bu (hB : Bu w F b mx s p) (hT : U.Tb w) (i : Int) : Calls Tryd.prog 26 #[ptr b, .int .i64 i] w fun e w' => e = .returned (.bool (U.isBI (ba s) i)) ∧ Below w.heap.size w w' := by
  have HL := Lib.hid (blen_bu hB)
  have hl := hB.lens.1
  by_cases h0 : i < 0
  · have hv : U.isBI (ba s) i = false := by unfold U.isBI; rw [decide_eq_false (by omega)]; rfl
    rw [hv]
    have d0 : decide (i < 0) = true := by simp [h0]
    clear hB hv
    go_enter Tryd.func26, Tryd.ntmps26
    go_wp2_with fail
    go_ret
    exact ⟨rfl, Below.refl _ _⟩
  · have d0 : decide (i < 0) = false := decide_eq_false h0
    by_cases h1 : (s.length : Int) < i
    · have hv : U.isBI (ba s) i = false := by
        unfold U.isBI U.locB
        rw [decide_eq_false (p := _ ∧ _) (fun h => by have := h.1; rw [ba_size] at this; omega)]
        simp
      rw [hv]
      have d1 : decide ((s.length : Int) < i) = true := by simp [h1]
      clear hB hv
      go_enter Tryd.func26, Tryd.ntmps26
      go_wp2_with (go_at_call 30; refine HL.out.mono ?_; rintro e w1 ⟨rfl, rfl⟩)
      go_ret
      exact ⟨rfl, Below.refl _ _⟩
    · have d1 : decide ((s.length : Int) < i) = false := decide_eq_false h1
      obtain ⟨k, rfl⟩ : ∃ k : Nat, i = k := ⟨i.toNat, by omega⟩
      have hk : k ≤ s.length := by omega
      have hv := is_win (s := s) (n := k) hk
      rw [← hv]
      obtain ⟨v, hv⟩ : ∃ v, v = ba (win s (k - 3) (k + 3)) := ⟨_, rfl⟩
      have hvz : v.size = min (k + 3) s.length - (k - 3) := by rw [hv, ba_size, win_len]
      rw [← hv]
      have HWn := Lib.hid (window_ba hB ((k - 3 : Nat) : Int) (k - 3) (k + 3) (by omega) (by omega) v hv)
      have HA := Lib.hid (fun W (hb : Below w.heap.size w W) => U.is_any v ((k - (k - 3) : Nat) : Int) W (by rw [hvz]; unfold maxLen; omega) (hT.below hb))
      have m1 : max ((k : Int) - 3) 0 = ((k - 3 : Nat) : Int) := by omega
      have w1 : IntKind.i64.wrap ((k : Int) - 3) = (k : Int) - 3 := IntWalk.i64_in _ (by omega)
      have w2 : IntKind.i64.wrap ((k : Int) + 3) = ((k + 3 : Nat) : Int) := by rw [show (k : Int) + 3 = ((k + 3 : Nat) : Int) by omega]; exact IntWalk.i64_in _ (by omega)
      have w3 : IntKind.i64.wrap ((k : Int) - ((k - 3 : Nat) : Int)) = ((k - (k - 3) : Nat) : Int) := by rw [show (k : Int) - ((k - 3 : Nat) : Int) = ((k - (k - 3) : Nat) : Int) by omega]; exact IntWalk.i64_in _ (by omega)
      clear hB hv hT hvz h0 h1
      generalize k - (k - 3) = r at *
      generalize k - 3 = q at *
      generalize k + 3 = u at *
      go_enter Tryd.func26, Tryd.ntmps26
      go_wp2_with (first
        | (go_at_call 30; refine HL.out.mono ?_; rintro e w1 ⟨rfl, rfl⟩)
        | (go_at_call 38; refine HWn.out.mono ?_; rintro e w3 ⟨rfl, hb3⟩)
        | (go_at_call 42; refine (HA.out _ hb3).mono ?_; rintro e w4 ⟨rfl, hb4⟩))
      go_ret
      exact ⟨rfl, bel_trans hb3 hb4⟩
end
set_option maxHeartbeats 400000 in
theorem is_nil (i : Int) (w : World) : Calls Tryd.prog 26 #[.pointer none, .int .i64 i] w fun e w' => e = .returned (.bool false) ∧ w = w' := by
  go_enter Tryd.func26, Tryd.ntmps26
  go_wp2_with fail
  go_ret
  exact ⟨rfl, rfl⟩
end Go.Proofs.YtdpjcbljeklhmaaDoor
