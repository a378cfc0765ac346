/-
  The statement on a class of any two symbols (LexRanges) answers true for all numbers. Condition: the two tables of unicode/utf8 lie as their text lays them.
-/
import Derived.Test.YtekpliookdihlaaDoorV2
import Derived.Deep.Cut
import Derived.Deep.RegionHeld3
namespace Go.Proofs.YtekpliookdihlaaDoor
open Go.RowKit ObUtf ObSets ObLex

section
variable {lo hi : Int} (h1 : U.goodB lo = true) (h2 : U.goodB hi = true)
include h1 h2
theorem rg_text (h : lo ≤ hi) : toks (({ data := #[91] } : ByteArray) ++ eb lo ++ { data := #[45] } ++ eb hi ++ { data := #[93] }) 0 = .ok [⟨1, 0, [(lo, hi)], 0, 0⟩] := by
  rw [← rg_toks h1 h2 h]
  unfold rg
  simp only [ByteArray.append_assoc]
  rfl
theorem not_text (h : lo ≤ hi) : toks (({ data := #[91, 94] } : ByteArray) ++ eb lo ++ { data := #[45] } ++ eb hi ++ { data := #[93] }) 0 = .ok [⟨1, 0, notL [(lo, hi)], 0, 0⟩] := by
  rw [← not_toks h1 h2 h, show ({ data := #[91, 94] } : ByteArray) = o91 ++ o94 by rfl]
  unfold rg
  simp only [ByteArray.append_assoc]
  rfl
theorem bad_text (h : hi < lo) : toks (({ data := #[120, 91] } : ByteArray) ++ eb lo ++ { data := #[45] } ++ eb hi ++ { data := #[93] }) 0 = .error (4, 2) := by
  rw [← bad_toks h1 h2 h, show ({ data := #[120, 91] } : ByteArray) = o120 ++ o91 by rfl]
  unfold rg
  simp only [ByteArray.append_assoc]
  rfl
end
theorem three_ways {p1 p2 p3 : Bool} (h1 : p1 = true → p2 = true → False) (h2 : p1 = false → p2 = false → p3 = false) : (p1 = true ∧ p2 = false) ∨ (p1 = false ∧ p2 = true) ∨ (p1 = false ∧ p2 = false ∧ p3 = false) := by
  cases p1 <;> cases p2
  · exact .inr (.inr ⟨rfl, rfl, h2 rfl rfl⟩)
  · exact .inr (.inl ⟨rfl, rfl⟩)
  · exact .inl ⟨rfl, rfl⟩
  · exact (h1 rfl rfl).elim
theorem s10_below {A B C : Prop} {w W : World} (h : (A ∧ B ∧ C) ∧ Below w.heap.size w W) : Below w.heap.size w W := h.2
set_option maxHeartbeats 4000000 in
set_option maxRecDepth 100000 in
theorem ranges_walk (a b x : Int) (w : World) (hT : U.Tb w) :
    Calls Tryd.prog 5 #[.int .i64 a, .int .i64 b, .int .i64 x] w fun e w' => e = .returned (.bool true) ∧ Below w.heap.size w w' := by
  have HT := Lib.hid hT; clear hT
  have WK := Lib.hid (fun W (h : U.Tb W) => wakes_any W h)
  have hq := fun (a b : Int) (w : World) => eqf a b w
  have hgt := Tryd.eqGuardType32
  have GA := Lib.hid (U.rgood_any a w)
  have GB := Lib.hid (U.rgood_any b w)
  have WA := Lib.hid (within26 a w)
  have WB := Lib.hid (within26 b w)
  go_enter Tryd.func5, Tryd.ntmps5
  go_wp2_with fail
  refine GA.out.mono ?_
  rintro e w1 ⟨rfl, rfl⟩
  go_upto_if 17 with fail
  go_cut [0] from 16 (fun v wc => ∃ a' : Int, v = .int .i64 a' ∧ U.goodB a' = true ∧ w = wc)
  case first =>
    cases hg : U.goodB a with
    | true =>
      have hg' := Lib.hid hg
      go_wp2_with fail
      go_meet
      exact ⟨a, rfl, hg'.out, rfl⟩
    | false =>
      have hg' := Lib.hid hg
      go_wp2_with fail
      refine WA.out.mono ?_
      rintro e w1 ⟨rfl, rfl⟩
      go_wp2_with fail
      go_meet
      refine ⟨97 + a % 26, rfl, ?_, rfl⟩
      unfold U.goodB
      exact decide_eq_true (by omega)
  case rest =>
    obtain ⟨a', rfl, ga, rfl⟩ := hcut
    clear GA WA
    go_wp2_with fail
    refine GB.out.mono ?_
    rintro e w1 ⟨rfl, rfl⟩
    go_upto_if 23 with fail
    go_cut [1] from 22 (fun v wc => ∃ b' : Int, v = .int .i64 b' ∧ U.goodB b' = true ∧ w = wc)
    case first =>
      cases hg : U.goodB b with
      | true =>
        have hg' := Lib.hid hg
        go_wp2_with fail
        go_meet
        exact ⟨b, rfl, hg'.out, rfl⟩
      | false =>
        have hg' := Lib.hid hg
        go_wp2_with fail
        refine WB.out.mono ?_
        rintro e w1 ⟨rfl, rfl⟩
        go_wp2_with fail
        go_meet
        refine ⟨97 + b % 26, rfl, ?_, rfl⟩
        unfold U.goodB
        exact decide_eq_true (by omega)
    case rest =>
      obtain ⟨b', rfl, gb, rfl⟩ := hcut
      clear GB WB
      go_wp2_with fail
      have gl : U.goodB (min a' b') = true := by rw [Int.min_def]; split <;> assumption
      have gh : U.goodB (max a' b') = true := by rw [Int.max_def]; split <;> assumption
      have hle : min a' b' ≤ max a' b' := by omega
      generalize min a' b' = lo at *
      generalize max a' b' = hi at *
      have s1 := eb_size lo
      have s2 := eb_size hi
      have K1 := Lib.hid (fun W h => tok_ok (rg_text gl gh hle) W h (by simp only [ByteArray.size_append]; have e1 : (⟨#[91]⟩ : ByteArray).size = 1 := rfl; have e2 : (⟨#[45]⟩ : ByteArray).size = 1 := rfl; have e3 : (⟨#[93]⟩ : ByteArray).size = 1 := rfl; omega))
      have K2 := Lib.hid (fun W h => tok_ok (not_text gl gh hle) W h (by simp only [ByteArray.size_append]; have e1 : (⟨#[91, 94]⟩ : ByteArray).size = 2 := rfl; have e2 : (⟨#[45]⟩ : ByteArray).size = 1 := rfl; have e3 : (⟨#[93]⟩ : ByteArray).size = 1 := rfl; omega))
      have K3 := Lib.hid (fun (hlt : lo < hi) W h => tok_err (bad_text gh gl hlt) W h (by simp only [ByteArray.size_append]; have e1 : (⟨#[120, 91]⟩ : ByteArray).size = 2 := rfl; have e2 : (⟨#[45]⟩ : ByteArray).size = 1 := rfl; have e3 : (⟨#[93]⟩ : ByteArray).size = 1 := rfl; omega))
      have EL := Lib.hid (fun W => eb_any lo W)
      have EH := Lib.hid (fun W => eb_any hi W)
      have NH := Lib.hid (not_has lo hi x)
      have HLE := Lib.hid hle
      clear gl gh hle ga gb
      generalize eb lo = tl at *
      generalize eb hi = th at *
      refine (EL.out _).mono ?_
      rintro e w1 ⟨rfl, hb1⟩
      go_wp2_with fail
      refine (EH.out _).mono ?_
      rintro e w2 ⟨rfl, hb2⟩
      have T2 := Lib.hid ((HT.out.below hb1).below hb2)
      have B2 := Lib.hid (bel_trans hb1 hb2)
      clear hb1 hb2
      go_wp2_with fail
      refine (K1.out _ T2.out).mono ?_
      rintro e w3 ⟨A, k, rfl, htk, hb3⟩
      have ba := (Below.refl w3.heap.size w3).alloc (Nat.le_refl _) (.cells #[.int .i64 0, .int .i64 0] 32)
      have R3 := Lib.hid (htk.reads.below ba)
      have F3 := Lib.hid (heap_new w3 (.cells #[.int .i64 0, .int .i64 0] 32))
      have T3 := Lib.hid ((T2.out.below hb3).below ba)
      have B3 := Lib.hid (bel_trans (bel_trans B2.out hb3) ba)
      clear htk hb3 ba T2 B2
      go_upto_region 7 with fail
      generalize hc3 : w3.heap.size = c3 at *
      generalize w3.alloc (.cells #[.int .i64 0, .int .i64 0] 32) = W3 at *
      obtain ⟨f0, f1, _, _⟩ := blk2 F3.out
      obtain ⟨bl, ol, rfl, hltl, hc⟩ := R3.out (by simp)
      obtain ⟨S0, q0, x0, x1, x2, x3, x4, xr⟩ := hc 0 _ rfl
      simp only [Nat.zero_mul, Nat.add_zero, List.length_singleton] at x0 x1 x2 x3 x4
      clear hc x1 x3 x4 f1
      have ba := (Below.refl W3.heap.size W3).alloc (Nat.le_refl _) (.cells #[.int .i64 lo, .int .i64 hi] 41)
      obtain ⟨An, kn, e1, _, _, rn, _⟩ := (ow_lit1 W3 lo hi).shape
      injection e1 with e1 e2 e3
      subst e1 e3
      have heq := S.eqset_any S0 _ q0 1 [(lo, hi)] [(lo, hi)] _ (xr.on ba) rn (by simp) (by simp)
      rw [show decide ([(lo, hi)] = [(lo, hi)]) = true from decide_eq_true rfl] at heq
      have HEQ := Lib.hid heq
      have XR := Lib.hid xr
      clear heq e2 rn xr
      go_wp2_with fail
      refine HEQ.out.mono ?_
      rintro e w4 ⟨rfl, hb4⟩
      have D4 := Lib.hid (bel_trans ba hb4)
      have T4 := Lib.hid (T3.out.below D4.out)
      clear hb4 ba
      go_wp2_with fail
      refine (EL.out _).mono ?_
      rintro e w5 ⟨rfl, hb5⟩
      have D5 := Lib.hid (bel_trans D4.out hb5)
      have T5 := Lib.hid (T4.out.below hb5)
      clear hb5
      go_wp2_with fail
      refine (EH.out _).mono ?_
      rintro e w6 ⟨rfl, hb6⟩
      have D6 := Lib.hid (bel_trans D5.out hb6)
      have T6 := Lib.hid (T5.out.below hb6)
      clear hb6
      go_wp2_with fail
      refine (K2.out _ T6.out).mono ?_
      rintro e w7 ⟨A7, k7, rfl, htk, hb7⟩
      have ba := (Below.refl w7.heap.size w7).alloc (Nat.le_refl _) (.cells #[.int .i64 0, .int .i64 0] 32)
      have R7 := Lib.hid (htk.reads.below ba)
      have F7 := Lib.hid (heap_new w7 (.cells #[.int .i64 0, .int .i64 0] 32))
      have T7 := Lib.hid ((T6.out.below hb7).below ba)
      have D7 := Lib.hid (bel_trans (bel_trans D6.out hb7) ba)
      have RL := Lib.hid (R3.out.below D7.out)
      clear htk hb7 ba T3 T4 T5 T6 D4 D5 D6
      go_upto_region 10 with fail
      generalize hc7 : w7.heap.size = c7 at *
      generalize w7.alloc (.cells #[.int .i64 0, .int .i64 0] 32) = W7 at *
      obtain ⟨g0, _, _, _⟩ := blk2 F7.out
      obtain ⟨bm, om, rfl, hltm, hc⟩ := R7.out (by simp)
      obtain ⟨S1, q1, _, _, y2, _, _, yr⟩ := hc 0 _ rfl
      simp only [Nat.zero_mul, Nat.add_zero] at y2
      clear hc
      obtain ⟨bl', ol', e1, hltl7, hc⟩ := RL.out (by simp)
      injection e1 with e1
      injection e1 with e1 e2 _
      subst e1 e2
      have x2' : W7.cell? ⟨bl, ol + 2, none⟩ = some (.slice S0 1 q0) := (D7.out.cell (p := ⟨bl, ol + 2, none⟩) hltl).trans x2
      have xr7 := XR.out.on D7.out
      clear hc hltl7
      have hnl : (notL [(lo, hi)]).length ≤ 2 := Nat.le_trans (notL_len _) (Nat.le_refl 2)
      have HM := Lib.hid (fun W (hW : Below W7.heap.size W7 W) => S.rhas_any S1 q1 (notL [(lo, hi)]) x W (yr.on hW) (by omega))
      have HL := Lib.hid (fun W (hW : Below W7.heap.size W7 W) => S.rhas_any S0 q0 [(lo, hi)] x W (xr7.on hW) (by simp))
      have SF := Lib.hid (fun W (hW : Below W7.heap.size W7 W) => (show (W.cell? ⟨c7, 0, none⟩ = some (.int .i64 0) ∧ W.cell? ⟨bm, om + 2, none⟩ = some (.slice S1 (notL [(lo, hi)]).length q1) ∧ W.cell? ⟨bl, ol + 2, none⟩ = some (.slice S0 1 q0)) ∧ Below W7.heap.size W7 W from ⟨⟨(hW.cell (p := ⟨c7, 0, none⟩) (lt_of_heap F7.out)).trans g0, (hW.cell (p := ⟨bm, om + 2, none⟩) hltm).trans y2, (hW.cell (p := ⟨bl, ol + 2, none⟩) (Nat.lt_of_lt_of_le hltl D7.out.size)).trans x2'⟩, hW⟩))
      simp only [List.length_singleton] at HL
      have GX := Lib.hid (fun W => U.rgood_any x W)
      have hHm : has (notL [(lo, hi)]) x = true → has [(lo, hi)] x = true → False := fun h1 h2 => by
        have hx : U.goodB x = true := (has_iff.1 h1).1
        have := NH.out hx
        rw [h1, h2] at this; cases this
      have hHn : has (notL [(lo, hi)]) x = false → has [(lo, hi)] x = false → U.goodB x = false := fun h1 h2 => by
        cases hx : U.goodB x with
        | false => rfl
        | true => have := NH.out hx; rw [h1, h2] at this; cases this
      generalize (notL [(lo, hi)]).length = nm at *
      generalize has (notL [(lo, hi)]) x = p1 at *
      generalize has [(lo, hi)] x = p2 at *
      generalize U.goodB x = p3 at *
      have H1 := Lib.hid hHm; have H2 := Lib.hid hHn
      clear hHm hHn NH yr xr7 x2 y2 x2' g0 f0 x0 hnl
      have HW7 := Lib.hid (Below.refl W7.heap.size W7)
      go_cut [110] from 111 (fun v wc => v = .bool false ∧ Below W7.heap.size W7 wc)
      case first =>
        rcases three_ways H1.out H2.out with ⟨rfl, rfl⟩ | ⟨rfl, rfl⟩ | ⟨rfl, rfl, rfl⟩
        · clear H1 H2
          refine wp_region_held_drew (S := fun W => (W.cell? ⟨c7, 0, none⟩ = some (.int .i64 0) ∧ W.cell? ⟨bm, om + 2, none⟩ = some (.slice S1 nm q1) ∧ W.cell? ⟨bl, ol + 2, none⟩ = some (.slice S0 1 q0)) ∧ Below W7.heap.size W7 W) (by kernel_rfl) (SF.out _ (Below.refl W7.heap.size W7).drew) (fun hHeld => ?_)
          refine wpAnyH_take (i := 0) (oi := ⟨some 84, _, _, _, _, _⟩) (v := ?_) rfl (by kernel_rfl) (by kernel_rfl) (by kernel_rfl) (fun _ _ _ h => h) (Or.inl ⟨by rfl, ?_⟩) (by assumption) ?_
          rotate_left 1
          · (intro w9 hSw; (try dsimp only at hSw); go_simp; try with_reducible rfl)
          simp only [Act.put, List.setIfInBounds_toArray, List.set_cons_zero, List.set_cons_succ]
          refine wpAnyH_take (i := 1) (oi := ⟨some 85, _, _, _, _, _⟩) (v := ?_) rfl (by kernel_rfl) (by kernel_rfl) (by kernel_rfl) (fun _ _ _ h => h) (Or.inl ⟨by rfl, ?_⟩) (by assumption) ?_
          rotate_left 1
          · (intro w9 hSw; (try dsimp only at hSw); go_simp; try with_reducible rfl)
          simp only [Act.put, List.setIfInBounds_toArray, List.set_cons_zero, List.set_cons_succ]
          refine wpAnyH_take (i := 2) (oi := ⟨some 86, _, _, _, _, _⟩) (v := ?_) rfl (by kernel_rfl) (by kernel_rfl) (by kernel_rfl) (fun _ _ _ h => h) (Or.inl ⟨by rfl, ?_⟩) (by assumption) ?_
          rotate_left 1
          · (intro w9 hSw; (try dsimp only at hSw); go_simp; try with_reducible rfl)
          simp only [Act.put, List.setIfInBounds_toArray, List.set_cons_zero, List.set_cons_succ]
          refine wpAnyH_take (i := 3) (oi := ⟨some 87, _, _, _, _, _⟩) (v := ?_) rfl (by kernel_rfl) (by kernel_rfl) (by kernel_rfl) (fun _ _ _ h => h) (Or.inl ⟨by rfl, ?_⟩) (by assumption) ?_
          rotate_left 1
          · (intro w9 hSw; (try dsimp only at hSw); go_simp; try with_reducible rfl)
          simp only [Act.put, List.setIfInBounds_toArray, List.set_cons_zero, List.set_cons_succ]
          refine wpAnyH_take (i := 4) (oi := ⟨some 88, _, _, _, _, _⟩) (v := ?_) rfl (by kernel_rfl) (by kernel_rfl) (by kernel_rfl) (fun _ _ _ h => h) (Or.inl ⟨by rfl, ?_⟩) (by assumption) ?_
          rotate_left 1
          · (intro w9 hSw; (try dsimp only at hSw); go_simp; try with_reducible rfl)
          simp only [Act.put, List.setIfInBounds_toArray, List.set_cons_zero, List.set_cons_succ]
          refine wpAnyH_take (i := 5) (oi := ⟨some 89, _, _, _, _, _⟩) (v := ?_) rfl (by kernel_rfl) (by kernel_rfl) (by kernel_rfl) (fun _ _ _ h => h) (Or.inl ⟨by rfl, ?_⟩) (by assumption) ?_
          rotate_left 1
          · (intro w9 hSw; (try dsimp only at hSw); go_simp; try with_reducible rfl)
          simp only [Act.put, List.setIfInBounds_toArray, List.set_cons_zero, List.set_cons_succ]
          refine wpAnyH_take (i := 6) (oi := ⟨some 90, _, _, _, _, _⟩) (v := ?_) rfl (by kernel_rfl) (by kernel_rfl) (by kernel_rfl) (fun _ _ _ h => h) (Or.inl ⟨by rfl, ?_⟩) (by assumption) ?_
          rotate_left 1
          · (intro w9 hSw; (try dsimp only at hSw); go_simp; try with_reducible rfl)
          simp only [Act.put, List.setIfInBounds_toArray, List.set_cons_zero, List.set_cons_succ]
          refine wpAnyH_take (i := 7) (oi := ⟨some 91, _, _, _, _, _⟩) (v := ?_) rfl (by kernel_rfl) (by kernel_rfl) (by kernel_rfl) (fun _ _ _ h => h) (Or.inl ⟨by rfl, ?_⟩) (by assumption) ?_
          rotate_left 1
          · (intro w9 hSw; (try dsimp only at hSw); go_simp; try with_reducible rfl)
          simp only [Act.put, List.setIfInBounds_toArray, List.set_cons_zero, List.set_cons_succ]
          refine wpAnyH_take (i := 8) (oi := ⟨some 92, _, _, _, _, _⟩) (v := ?_) rfl (by kernel_rfl) (by kernel_rfl) (by kernel_rfl) (fun _ _ _ h => h) (Or.inl ⟨by rfl, ?_⟩) (by assumption) ?_
          rotate_left 1
          · (intro w9 hSw; (try dsimp only at hSw); go_simp; try with_reducible rfl)
          simp only [Act.put, List.setIfInBounds_toArray, List.set_cons_zero, List.set_cons_succ]
          refine wpAnyH_take (i := 9) (oi := ⟨some 93, _, _, _, _, _⟩) (v := ?_) rfl (by kernel_rfl) (by kernel_rfl) (by kernel_rfl) (fun _ _ _ h => h) (Or.inl ⟨by rfl, ?_⟩) (by assumption) ?_
          rotate_left 1
          · (intro w9 hSw; (try dsimp only at hSw); go_simp; try with_reducible rfl)
          simp only [Act.put, List.setIfInBounds_toArray, List.set_cons_zero, List.set_cons_succ]
          refine wpAnyH_take (i := 10) (oi := ⟨some 94, _, _, _, _, _⟩) (v := ?_) rfl (by kernel_rfl) (by kernel_rfl) (by kernel_rfl) (fun _ _ _ h => h) (Or.inl ⟨by rfl, ?_⟩) (by assumption) ?_
          rotate_left 1
          · (intro w9 hSw; (try dsimp only at hSw); go_simp; try with_reducible rfl)
          simp only [Act.put, List.setIfInBounds_toArray, List.set_cons_zero, List.set_cons_succ]
          refine wpAnyH_take (i := 11) (oi := ⟨some 95, _, _, _, _, _⟩) (v := ?_) rfl (by kernel_rfl) (by kernel_rfl) (by kernel_rfl) (fun _ _ _ h => h) (Or.inl ⟨by rfl, ?_⟩) (by assumption) ?_
          rotate_left 1
          · (intro w9 hSw; (try dsimp only at hSw); go_simp; try with_reducible rfl)
          simp only [Act.put, List.setIfInBounds_toArray, List.set_cons_zero, List.set_cons_succ]
          refine wpAnyH_take (i := 12) (oi := ⟨some 96, _, _, _, _, _⟩) (v := ?_) rfl (by kernel_rfl) (by kernel_rfl) (by kernel_rfl) (fun _ _ _ h => h) (Or.inl ⟨by rfl, ?_⟩) (by assumption) ?_
          rotate_left 1
          · (intro w9 hSw; (try dsimp only at hSw); go_simp; try with_reducible rfl)
          simp only [Act.put, List.setIfInBounds_toArray, List.set_cons_zero, List.set_cons_succ]
          refine wpAnyH_take (i := 13) (oi := ⟨some 97, _, _, _, _, _⟩) (v := ?_) rfl (by kernel_rfl) (by kernel_rfl) (by kernel_rfl) (fun _ _ _ h => h) (Or.inl ⟨by rfl, ?_⟩) (by assumption) ?_
          rotate_left 1
          · (intro w9 hSw; (try dsimp only at hSw); go_simp; try with_reducible rfl)
          simp only [Act.put, List.setIfInBounds_toArray, List.set_cons_zero, List.set_cons_succ]
          refine wpAnyH_take (i := 15) (oi := ⟨some 99, _, _, _, _, _⟩) (v := ?_) rfl (by kernel_rfl) (by kernel_rfl) (by kernel_rfl) (fun _ _ _ h => h) (Or.inl ⟨by rfl, ?_⟩) (by assumption) ?_
          rotate_left 1
          · (intro w9 hSw; (try dsimp only at hSw); go_simp; try with_reducible rfl)
          simp only [Act.put, List.setIfInBounds_toArray, List.set_cons_zero, List.set_cons_succ]
          refine wpAnyH_take (i := 16) (oi := ⟨some 100, _, _, _, _, _⟩) (v := ?_) rfl (by kernel_rfl) (by kernel_rfl) (by kernel_rfl) (fun _ _ _ h => h) (Or.inl ⟨by rfl, ?_⟩) (by assumption) ?_
          rotate_left 1
          · (intro w9 hSw; (try dsimp only at hSw); go_simp; try with_reducible rfl)
          simp only [Act.put, List.setIfInBounds_toArray, List.set_cons_zero, List.set_cons_succ]
          refine wpAnyH_take (i := 17) (oi := ⟨some 101, _, _, _, _, _⟩) (v := ?_) rfl (by kernel_rfl) (by kernel_rfl) (by kernel_rfl) (fun _ _ _ h => h) (Or.inl ⟨by rfl, ?_⟩) (by assumption) ?_
          rotate_left 1
          · (intro w9 hSw; (try dsimp only at hSw); go_simp; try with_reducible rfl)
          simp only [Act.put, List.setIfInBounds_toArray, List.set_cons_zero, List.set_cons_succ]
          refine wpAnyH_take (i := 18) (oi := ⟨some 102, _, _, _, _, _⟩) (v := ?_) rfl (by kernel_rfl) (by kernel_rfl) (by kernel_rfl) (fun _ _ _ h => h) (Or.inl ⟨by rfl, ?_⟩) (by assumption) ?_
          rotate_left 1
          · (intro w9 hSw; (try dsimp only at hSw); go_simp; try with_reducible rfl)
          simp only [Act.put, List.setIfInBounds_toArray, List.set_cons_zero, List.set_cons_succ]
          refine wpAnyH_take (i := 19) (oi := ⟨some 103, _, _, _, _, _⟩) (v := ?_) rfl (by kernel_rfl) (by kernel_rfl) (by kernel_rfl) (fun _ _ _ h => h) (Or.inl ⟨by rfl, ?_⟩) (by assumption) ?_
          rotate_left 1
          · (intro w9 hSw; (try dsimp only at hSw); go_simp; try with_reducible rfl)
          simp only [Act.put, List.setIfInBounds_toArray, List.set_cons_zero, List.set_cons_succ]
          refine wpAnyH_ready (rs := [14]) (by kernel_rfl) (by simp) ?_
          refine AllReadyH.cons (o := ⟨some 98, _, _, _, _, _⟩) rfl (fun K hK => ?_) ?_
          rotate_left 1
          · exact AllReadyH.nil
          go_simp
          go_at_call 16
          refine (HM.out _ (Below.refl W7.heap.size W7).drew).mono ?_
          rintro e w8 ⟨rfl, hb⟩
          have w8B : Below W7.heap.size W7 w8 := bel_trans (Below.refl W7.heap.size W7).drew hb
          clear hb
          refine hK.out _ _ (SF.out _ w8B) (fun hHeld => ?_)
          clear hK K
          try simp only [Act.put, List.setIfInBounds_toArray, List.set_cons_zero, List.set_cons_succ]
          refine wpAnyH_ready (rs := [20]) (by kernel_rfl) (by simp) ?_
          refine AllReadyH.cons (o := ⟨some 104, _, _, _, _, _⟩) rfl (fun K hK => ?_) ?_
          rotate_left 1
          · exact AllReadyH.nil
          go_simp
          go_at_call 16
          refine (HL.out _ w8B).mono ?_
          rintro e w9 ⟨rfl, hb⟩
          have w9B : Below W7.heap.size W7 w9 := bel_trans w8B hb
          clear hb
          refine hK.out _ _ (SF.out _ w9B) (fun hHeld => ?_)
          clear hK K
          try simp only [Act.put, List.setIfInBounds_toArray, List.set_cons_zero, List.set_cons_succ]
          refine wpAnyH_take (i := 21) (oi := ⟨some 105, _, _, _, _, _⟩) (v := ?_) rfl (by kernel_rfl) (by kernel_rfl) (by kernel_rfl) (fun _ _ _ h => h) (Or.inl ⟨by rfl, ?_⟩) (by assumption) ?_
          rotate_left 1
          · (intro w9 hSw; (try dsimp only at hSw); go_simp; try with_reducible rfl)
          simp only [Act.put, List.setIfInBounds_toArray, List.set_cons_zero, List.set_cons_succ]
          refine wpAnyH_take (i := 22) (oi := ⟨some 106, _, _, _, _, _⟩) (v := ?_) rfl (by kernel_rfl) (by kernel_rfl) (by kernel_rfl) (fun _ _ _ h => h) (Or.inl ⟨by rfl, ?_⟩) (by assumption) ?_
          rotate_left 1
          · (intro w9 hSw; (try dsimp only at hSw); go_simp; try with_reducible rfl)
          simp only [Act.put, List.setIfInBounds_toArray, List.set_cons_zero, List.set_cons_succ]
          refine wpAnyH_ready (rs := [23]) (by kernel_rfl) (by simp) ?_
          refine AllReadyH.cons (o := ⟨some 107, _, _, _, _, _⟩) rfl (fun K hK => ?_) ?_
          rotate_left 1
          · exact AllReadyH.nil
          go_simp
          refine hK.out _ _ hHeld (fun hHeld => ?_)
          clear hK K
          try simp only [Act.put, List.setIfInBounds_toArray, List.set_cons_zero, List.set_cons_succ]
          refine wpAnyH_ready (rs := [24]) (by kernel_rfl) (by simp) ?_
          refine AllReadyH.cons (o := ⟨some 108, _, _, _, _, _⟩) rfl (fun K hK => ?_) ?_
          rotate_left 1
          · exact AllReadyH.nil
          go_simp
          refine hK.out _ _ hHeld (fun hHeld => ?_)
          clear hK K
          try simp only [Act.put, List.setIfInBounds_toArray, List.set_cons_zero, List.set_cons_succ]
          refine wpAnyH_take (i := 25) (oi := ⟨some 109, _, _, _, _, _⟩) (v := ?_) rfl (by kernel_rfl) (by kernel_rfl) (by kernel_rfl) (fun _ _ _ h => h) (Or.inl ⟨by rfl, ?_⟩) (by assumption) ?_
          rotate_left 1
          · (intro w9 hSw; (try dsimp only at hSw); go_simp; try with_reducible rfl)
          simp only [Act.put, List.setIfInBounds_toArray, List.set_cons_zero, List.set_cons_succ]
          refine wpAnyH_take (i := 26) (oi := ⟨some 110, _, _, _, _, _⟩) (v := ?_) rfl (by kernel_rfl) (by kernel_rfl) (by kernel_rfl) (fun _ _ _ h => h) (Or.inl ⟨by rfl, ?_⟩) (by assumption) ?_
          rotate_left 1
          · (intro w9 hSw; (try dsimp only at hSw); go_simp; try with_reducible rfl)
          simp only [Act.put, List.setIfInBounds_toArray, List.set_cons_zero, List.set_cons_succ]
          refine wpAnyH_done (by kernel_rfl) ?_ _
          have hbl := s10_below hHeld
          go_wp2_with fail
          go_meet
          exact ⟨rfl, hbl⟩
        · clear H1 H2
          refine wp_region_held_drew (S := fun W => (W.cell? ⟨c7, 0, none⟩ = some (.int .i64 0) ∧ W.cell? ⟨bm, om + 2, none⟩ = some (.slice S1 nm q1) ∧ W.cell? ⟨bl, ol + 2, none⟩ = some (.slice S0 1 q0)) ∧ Below W7.heap.size W7 W) (by kernel_rfl) (SF.out _ (Below.refl W7.heap.size W7).drew) (fun hHeld => ?_)
          refine wpAnyH_take (i := 0) (oi := ⟨some 84, _, _, _, _, _⟩) (v := ?_) rfl (by kernel_rfl) (by kernel_rfl) (by kernel_rfl) (fun _ _ _ h => h) (Or.inl ⟨by rfl, ?_⟩) (by assumption) ?_
          rotate_left 1
          · (intro w9 hSw; (try dsimp only at hSw); go_simp; try with_reducible rfl)
          simp only [Act.put, List.setIfInBounds_toArray, List.set_cons_zero, List.set_cons_succ]
          refine wpAnyH_take (i := 1) (oi := ⟨some 85, _, _, _, _, _⟩) (v := ?_) rfl (by kernel_rfl) (by kernel_rfl) (by kernel_rfl) (fun _ _ _ h => h) (Or.inl ⟨by rfl, ?_⟩) (by assumption) ?_
          rotate_left 1
          · (intro w9 hSw; (try dsimp only at hSw); go_simp; try with_reducible rfl)
          simp only [Act.put, List.setIfInBounds_toArray, List.set_cons_zero, List.set_cons_succ]
          refine wpAnyH_take (i := 2) (oi := ⟨some 86, _, _, _, _, _⟩) (v := ?_) rfl (by kernel_rfl) (by kernel_rfl) (by kernel_rfl) (fun _ _ _ h => h) (Or.inl ⟨by rfl, ?_⟩) (by assumption) ?_
          rotate_left 1
          · (intro w9 hSw; (try dsimp only at hSw); go_simp; try with_reducible rfl)
          simp only [Act.put, List.setIfInBounds_toArray, List.set_cons_zero, List.set_cons_succ]
          refine wpAnyH_take (i := 3) (oi := ⟨some 87, _, _, _, _, _⟩) (v := ?_) rfl (by kernel_rfl) (by kernel_rfl) (by kernel_rfl) (fun _ _ _ h => h) (Or.inl ⟨by rfl, ?_⟩) (by assumption) ?_
          rotate_left 1
          · (intro w9 hSw; (try dsimp only at hSw); go_simp; try with_reducible rfl)
          simp only [Act.put, List.setIfInBounds_toArray, List.set_cons_zero, List.set_cons_succ]
          refine wpAnyH_take (i := 4) (oi := ⟨some 88, _, _, _, _, _⟩) (v := ?_) rfl (by kernel_rfl) (by kernel_rfl) (by kernel_rfl) (fun _ _ _ h => h) (Or.inl ⟨by rfl, ?_⟩) (by assumption) ?_
          rotate_left 1
          · (intro w9 hSw; (try dsimp only at hSw); go_simp; try with_reducible rfl)
          simp only [Act.put, List.setIfInBounds_toArray, List.set_cons_zero, List.set_cons_succ]
          refine wpAnyH_take (i := 5) (oi := ⟨some 89, _, _, _, _, _⟩) (v := ?_) rfl (by kernel_rfl) (by kernel_rfl) (by kernel_rfl) (fun _ _ _ h => h) (Or.inl ⟨by rfl, ?_⟩) (by assumption) ?_
          rotate_left 1
          · (intro w9 hSw; (try dsimp only at hSw); go_simp; try with_reducible rfl)
          simp only [Act.put, List.setIfInBounds_toArray, List.set_cons_zero, List.set_cons_succ]
          refine wpAnyH_take (i := 6) (oi := ⟨some 90, _, _, _, _, _⟩) (v := ?_) rfl (by kernel_rfl) (by kernel_rfl) (by kernel_rfl) (fun _ _ _ h => h) (Or.inl ⟨by rfl, ?_⟩) (by assumption) ?_
          rotate_left 1
          · (intro w9 hSw; (try dsimp only at hSw); go_simp; try with_reducible rfl)
          simp only [Act.put, List.setIfInBounds_toArray, List.set_cons_zero, List.set_cons_succ]
          refine wpAnyH_take (i := 7) (oi := ⟨some 91, _, _, _, _, _⟩) (v := ?_) rfl (by kernel_rfl) (by kernel_rfl) (by kernel_rfl) (fun _ _ _ h => h) (Or.inl ⟨by rfl, ?_⟩) (by assumption) ?_
          rotate_left 1
          · (intro w9 hSw; (try dsimp only at hSw); go_simp; try with_reducible rfl)
          simp only [Act.put, List.setIfInBounds_toArray, List.set_cons_zero, List.set_cons_succ]
          refine wpAnyH_take (i := 8) (oi := ⟨some 92, _, _, _, _, _⟩) (v := ?_) rfl (by kernel_rfl) (by kernel_rfl) (by kernel_rfl) (fun _ _ _ h => h) (Or.inl ⟨by rfl, ?_⟩) (by assumption) ?_
          rotate_left 1
          · (intro w9 hSw; (try dsimp only at hSw); go_simp; try with_reducible rfl)
          simp only [Act.put, List.setIfInBounds_toArray, List.set_cons_zero, List.set_cons_succ]
          refine wpAnyH_take (i := 9) (oi := ⟨some 93, _, _, _, _, _⟩) (v := ?_) rfl (by kernel_rfl) (by kernel_rfl) (by kernel_rfl) (fun _ _ _ h => h) (Or.inl ⟨by rfl, ?_⟩) (by assumption) ?_
          rotate_left 1
          · (intro w9 hSw; (try dsimp only at hSw); go_simp; try with_reducible rfl)
          simp only [Act.put, List.setIfInBounds_toArray, List.set_cons_zero, List.set_cons_succ]
          refine wpAnyH_take (i := 10) (oi := ⟨some 94, _, _, _, _, _⟩) (v := ?_) rfl (by kernel_rfl) (by kernel_rfl) (by kernel_rfl) (fun _ _ _ h => h) (Or.inl ⟨by rfl, ?_⟩) (by assumption) ?_
          rotate_left 1
          · (intro w9 hSw; (try dsimp only at hSw); go_simp; try with_reducible rfl)
          simp only [Act.put, List.setIfInBounds_toArray, List.set_cons_zero, List.set_cons_succ]
          refine wpAnyH_take (i := 11) (oi := ⟨some 95, _, _, _, _, _⟩) (v := ?_) rfl (by kernel_rfl) (by kernel_rfl) (by kernel_rfl) (fun _ _ _ h => h) (Or.inl ⟨by rfl, ?_⟩) (by assumption) ?_
          rotate_left 1
          · (intro w9 hSw; (try dsimp only at hSw); go_simp; try with_reducible rfl)
          simp only [Act.put, List.setIfInBounds_toArray, List.set_cons_zero, List.set_cons_succ]
          refine wpAnyH_take (i := 12) (oi := ⟨some 96, _, _, _, _, _⟩) (v := ?_) rfl (by kernel_rfl) (by kernel_rfl) (by kernel_rfl) (fun _ _ _ h => h) (Or.inl ⟨by rfl, ?_⟩) (by assumption) ?_
          rotate_left 1
          · (intro w9 hSw; (try dsimp only at hSw); go_simp; try with_reducible rfl)
          simp only [Act.put, List.setIfInBounds_toArray, List.set_cons_zero, List.set_cons_succ]
          refine wpAnyH_take (i := 13) (oi := ⟨some 97, _, _, _, _, _⟩) (v := ?_) rfl (by kernel_rfl) (by kernel_rfl) (by kernel_rfl) (fun _ _ _ h => h) (Or.inl ⟨by rfl, ?_⟩) (by assumption) ?_
          rotate_left 1
          · (intro w9 hSw; (try dsimp only at hSw); go_simp; try with_reducible rfl)
          simp only [Act.put, List.setIfInBounds_toArray, List.set_cons_zero, List.set_cons_succ]
          refine wpAnyH_take (i := 15) (oi := ⟨some 99, _, _, _, _, _⟩) (v := ?_) rfl (by kernel_rfl) (by kernel_rfl) (by kernel_rfl) (fun _ _ _ h => h) (Or.inl ⟨by rfl, ?_⟩) (by assumption) ?_
          rotate_left 1
          · (intro w9 hSw; (try dsimp only at hSw); go_simp; try with_reducible rfl)
          simp only [Act.put, List.setIfInBounds_toArray, List.set_cons_zero, List.set_cons_succ]
          refine wpAnyH_take (i := 16) (oi := ⟨some 100, _, _, _, _, _⟩) (v := ?_) rfl (by kernel_rfl) (by kernel_rfl) (by kernel_rfl) (fun _ _ _ h => h) (Or.inl ⟨by rfl, ?_⟩) (by assumption) ?_
          rotate_left 1
          · (intro w9 hSw; (try dsimp only at hSw); go_simp; try with_reducible rfl)
          simp only [Act.put, List.setIfInBounds_toArray, List.set_cons_zero, List.set_cons_succ]
          refine wpAnyH_take (i := 17) (oi := ⟨some 101, _, _, _, _, _⟩) (v := ?_) rfl (by kernel_rfl) (by kernel_rfl) (by kernel_rfl) (fun _ _ _ h => h) (Or.inl ⟨by rfl, ?_⟩) (by assumption) ?_
          rotate_left 1
          · (intro w9 hSw; (try dsimp only at hSw); go_simp; try with_reducible rfl)
          simp only [Act.put, List.setIfInBounds_toArray, List.set_cons_zero, List.set_cons_succ]
          refine wpAnyH_take (i := 18) (oi := ⟨some 102, _, _, _, _, _⟩) (v := ?_) rfl (by kernel_rfl) (by kernel_rfl) (by kernel_rfl) (fun _ _ _ h => h) (Or.inl ⟨by rfl, ?_⟩) (by assumption) ?_
          rotate_left 1
          · (intro w9 hSw; (try dsimp only at hSw); go_simp; try with_reducible rfl)
          simp only [Act.put, List.setIfInBounds_toArray, List.set_cons_zero, List.set_cons_succ]
          refine wpAnyH_take (i := 19) (oi := ⟨some 103, _, _, _, _, _⟩) (v := ?_) rfl (by kernel_rfl) (by kernel_rfl) (by kernel_rfl) (fun _ _ _ h => h) (Or.inl ⟨by rfl, ?_⟩) (by assumption) ?_
          rotate_left 1
          · (intro w9 hSw; (try dsimp only at hSw); go_simp; try with_reducible rfl)
          simp only [Act.put, List.setIfInBounds_toArray, List.set_cons_zero, List.set_cons_succ]
          refine wpAnyH_ready (rs := [14]) (by kernel_rfl) (by simp) ?_
          refine AllReadyH.cons (o := ⟨some 98, _, _, _, _, _⟩) rfl (fun K hK => ?_) ?_
          rotate_left 1
          · exact AllReadyH.nil
          go_simp
          go_at_call 16
          refine (HM.out _ (Below.refl W7.heap.size W7).drew).mono ?_
          rintro e w8 ⟨rfl, hb⟩
          have w8B : Below W7.heap.size W7 w8 := bel_trans (Below.refl W7.heap.size W7).drew hb
          clear hb
          refine hK.out _ _ (SF.out _ w8B) (fun hHeld => ?_)
          clear hK K
          try simp only [Act.put, List.setIfInBounds_toArray, List.set_cons_zero, List.set_cons_succ]
          refine wpAnyH_ready (rs := [20]) (by kernel_rfl) (by simp) ?_
          refine AllReadyH.cons (o := ⟨some 104, _, _, _, _, _⟩) rfl (fun K hK => ?_) ?_
          rotate_left 1
          · exact AllReadyH.nil
          go_simp
          go_at_call 16
          refine (HL.out _ w8B).mono ?_
          rintro e w9 ⟨rfl, hb⟩
          have w9B : Below W7.heap.size W7 w9 := bel_trans w8B hb
          clear hb
          refine hK.out _ _ (SF.out _ w9B) (fun hHeld => ?_)
          clear hK K
          try simp only [Act.put, List.setIfInBounds_toArray, List.set_cons_zero, List.set_cons_succ]
          refine wpAnyH_take (i := 21) (oi := ⟨some 105, _, _, _, _, _⟩) (v := ?_) rfl (by kernel_rfl) (by kernel_rfl) (by kernel_rfl) (fun _ _ _ h => h) (Or.inl ⟨by rfl, ?_⟩) (by assumption) ?_
          rotate_left 1
          · (intro w9 hSw; (try dsimp only at hSw); go_simp; try with_reducible rfl)
          simp only [Act.put, List.setIfInBounds_toArray, List.set_cons_zero, List.set_cons_succ]
          refine wpAnyH_take (i := 22) (oi := ⟨some 106, _, _, _, _, _⟩) (v := ?_) rfl (by kernel_rfl) (by kernel_rfl) (by kernel_rfl) (fun _ _ _ h => h) (Or.inl ⟨by rfl, ?_⟩) (by assumption) ?_
          rotate_left 1
          · (intro w9 hSw; (try dsimp only at hSw); go_simp; try with_reducible rfl)
          simp only [Act.put, List.setIfInBounds_toArray, List.set_cons_zero, List.set_cons_succ]
          refine wpAnyH_ready (rs := [23]) (by kernel_rfl) (by simp) ?_
          refine AllReadyH.cons (o := ⟨some 107, _, _, _, _, _⟩) rfl (fun K hK => ?_) ?_
          rotate_left 1
          · exact AllReadyH.nil
          go_simp
          refine hK.out _ _ hHeld (fun hHeld => ?_)
          clear hK K
          try simp only [Act.put, List.setIfInBounds_toArray, List.set_cons_zero, List.set_cons_succ]
          refine wpAnyH_ready (rs := [24]) (by kernel_rfl) (by simp) ?_
          refine AllReadyH.cons (o := ⟨some 108, _, _, _, _, _⟩) rfl (fun K hK => ?_) ?_
          rotate_left 1
          · exact AllReadyH.nil
          go_simp
          refine hK.out _ _ hHeld (fun hHeld => ?_)
          clear hK K
          try simp only [Act.put, List.setIfInBounds_toArray, List.set_cons_zero, List.set_cons_succ]
          refine wpAnyH_take (i := 25) (oi := ⟨some 109, _, _, _, _, _⟩) (v := ?_) rfl (by kernel_rfl) (by kernel_rfl) (by kernel_rfl) (fun _ _ _ h => h) (Or.inl ⟨by rfl, ?_⟩) (by assumption) ?_
          rotate_left 1
          · (intro w9 hSw; (try dsimp only at hSw); go_simp; try with_reducible rfl)
          simp only [Act.put, List.setIfInBounds_toArray, List.set_cons_zero, List.set_cons_succ]
          refine wpAnyH_take (i := 26) (oi := ⟨some 110, _, _, _, _, _⟩) (v := ?_) rfl (by kernel_rfl) (by kernel_rfl) (by kernel_rfl) (fun _ _ _ h => h) (Or.inl ⟨by rfl, ?_⟩) (by assumption) ?_
          rotate_left 1
          · (intro w9 hSw; (try dsimp only at hSw); go_simp; try with_reducible rfl)
          simp only [Act.put, List.setIfInBounds_toArray, List.set_cons_zero, List.set_cons_succ]
          refine wpAnyH_done (by kernel_rfl) ?_ _
          have hbl := s10_below hHeld
          go_wp2_with fail
          go_meet
          exact ⟨rfl, hbl⟩
        · clear H1 H2
          go_region_held3 (fun W => (W.cell? ⟨c7, 0, none⟩ = some (.int .i64 0) ∧ W.cell? ⟨bm, om + 2, none⟩ = some (.slice S1 nm q1) ∧ W.cell? ⟨bl, ol + 2, none⟩ = some (.slice S0 1 q0)) ∧ Below W7.heap.size W7 W)
            (first | assumption | exact SF.out _ (Below.refl _ _).drew | exact SF.out _ (bel_trans (s10_below (by assumption)) (by assumption)) | fail)
            (first | (go_at_call 16; (first | (with_reducible refine (HM.out _ (s10_below (by assumption))).mono ?_) | (with_reducible refine (HL.out _ (s10_below (by assumption))).mono ?_)); rintro e w8 ⟨rfl, hb8⟩) | (go_at_call 11; refine (GX.out _).mono ?_; rintro e w9 ⟨rfl, rfl⟩) | fail)
          have hbl := s10_below (by assumption)
          go_wp2_with fail
          go_meet
          exact ⟨rfl, hbl⟩
      case rest =>
        obtain ⟨rfl, hbc⟩ := hcut
        have B8 := Lib.hid (bel_trans B3.out (bel_trans D7.out hbc))
        have T8 := Lib.hid (T7.out.below hbc)
        clear hbc
        by_cases heq : lo = hi
        · subst heq
          go_wp2_with fail
          refine (WK.out _ T8.out).mono ?_
          rintro e w9 ⟨rfl, hb9⟩
          go_wp2_with fail
          go_ret
          exact ⟨rfl, bel_trans B8.out hb9⟩
        · have hne : (lo == hi) = false := beq_eq_false_iff_ne.2 heq
          have hlt : lo < hi := by have := HLE.out; omega
          have K := Lib.hid (K3.out hlt)
          clear K3 hlt
          go_wp2_with fail
          refine (EH.out _).mono ?_
          rintro e w9 ⟨rfl, hb9⟩
          have T9 := Lib.hid (T8.out.below hb9)
          have B9 := Lib.hid (bel_trans B8.out hb9)
          clear hb9
          go_wp2_with fail
          refine (EL.out _).mono ?_
          rintro e w10 ⟨rfl, hb10⟩
          have T10 := Lib.hid (T9.out.below hb10)
          have B10 := Lib.hid (bel_trans B9.out hb10)
          clear hb10
          go_wp2_with fail
          refine (K.out _ T10.out).mono ?_
          rintro e w11 ⟨rfl, hb11⟩
          have ba := (Below.refl w11.heap.size w11).alloc (Nat.le_refl _) (.cells #[.int .i64 4, .int .i64 2] 32)
          have T11 := Lib.hid ((T10.out.below hb11).below ba)
          have B11 := Lib.hid (bel_trans (bel_trans B10.out hb11) ba)
          obtain ⟨h0, h1, _, _⟩ := blk2 (heap_new w11 (.cells #[.int .i64 4, .int .i64 2] 32))
          clear hb11 ba
          go_wp2_with fail
          refine (WK.out _ T11.out).mono ?_
          rintro e w12 ⟨rfl, hb12⟩
          go_wp2_with fail
          go_ret
          exact ⟨rfl, bel_trans B11.out hb12⟩
end Go.Proofs.YtekpliookdihlaaDoor
