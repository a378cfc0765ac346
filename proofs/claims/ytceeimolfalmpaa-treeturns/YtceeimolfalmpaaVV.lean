/-
  What the document fixes of trees (wakes): the statements' own first look comes out true. No conditions.
-/
import Derived.Test.YtceeimolfalmpaaVU
namespace Go.Proofs.Ytceeimolfalmpaa
open Go.RowKit ObSets ObTree ObTree.Tree

theorem idx2_W (la lb : List R) : idx 2 (flat 0 (tW (setN la) (setN lb))) 4 = [0, 1] := by rw [tW_flat]; simp [idx]
theorem idx8_W (la lb : List R) : (idx 8 (flat 0 (tW (setN la) (setN lb))) 4).length = 1 := by rw [tW_flat]; simp [idx]
theorem RetB.yes {w w' : World} {P : Prop} {e : Ending} (h : RetB w P e w') (hp : P) : RetD w true e w' := by
  obtain ⟨q, rfl, hq, hb⟩ := h
  exact ⟨by rw [hq.2 hp], hb⟩
theorem RetB.no {w w' : World} {P : Prop} {e : Ending} (h : RetB w P e w') (hp : ¬ P) : RetD w false e w' := by
  obtain ⟨q, rfl, hq, hb⟩ := h
  refine ⟨?_, hb⟩
  cases q with
  | false => rfl
  | true => exact absurd (hq.1 rfl) hp
theorem RetF.at {w w' : World} {L : List Nd} {i v : Int} {e : Ending} (h : RetF w L i e w') (hv : FirstIs L i v) : RetN1 w v e w' := by
  obtain ⟨u, rfl, hu, hb⟩ := h
  exact ⟨by rw [hu.uniq hv], hb⟩
set_option maxHeartbeats 8000000 in
set_option maxRecDepth 100000 in
theorem wakes_any (w : World) : Calls Try.prog 11 #[] w (RetD w true) := by
  obtain ⟨x, hx⟩ : ∃ x, setN [(97, 97)] = x := ⟨_, rfl⟩
  obtain ⟨y, hy⟩ : ∃ y, setN [(98, 98)] = y := ⟨_, rfl⟩
  have hxo : LeafOk x := by rw [← hx]; exact setN_ok _ (by simp)
  have hyo : LeafOk y := by rw [← hy]; exact setN_ok _ (by simp)
  have H1 := Lib.hid (fun W => one_any 97 W)
  have H2 := Lib.hid (fun W => one_any 98 W)
  rw [hx] at H1
  rw [hy] at H2
  have HI2 := Lib.hid (show idx 2 (flat 0 (tW x y)) 4 = [0, 1] by rw [← hx, ← hy]; exact idx2_W _ _)
  have HI8 := Lib.hid (show (idx 8 (flat 0 (tW x y)) 4).length = 1 by rw [← hx, ← hy]; exact idx8_W _ _)
  clear hx hy
  have HXO := Lib.hid hxo; have HYO := Lib.hid hyo
  clear hxo hyo
  go_enter Try.func11, Try.ntmps11
  go_wp2_with fail
  refine (H1.out _).mono ?_
  rintro e w1 ⟨A1, c1, rfl, hN1, hA1, hb1⟩
  have HN1 := Lib.hid hN1; have HA1 := Lib.hid hA1; have HB1 := Lib.hid hb1
  clear hN1 hA1 hb1
  go_wp2_with fail
  refine (H2.out _).mono ?_
  rintro e w2 ⟨A2, c2, rfl, hN2, hA2, hb2⟩
  have HB2 := Lib.hid (HB1.out.trans (hb2.mono HB1.out.size))
  have hWB := ((Below.refl w2.heap.size w2).alloc (Nat.le_refl _) (.cells #[.slice A1 1 c1] 24)).alloc (by simp) (.cells #[.slice A2 1 c2] 24)
  have hz3 : ((w2.alloc (.cells #[.slice A1 1 c1] 24)).alloc (.cells #[.slice A2 1 c2] 24)).heap.size = w2.heap.size + 2 := by simp
  have HN13 := Lib.hid ((HN1.out.below hb2).below hWB)
  have HN23 := Lib.hid (hN2.below hWB)
  have HA2 := Lib.hid hA2
  have HB3 := Lib.hid (HB2.out.trans (hWB.mono HB2.out.size))
  have g1 := keepL (heap_new w2 (.cells #[.slice A1 1 c1] 24)) ((Below.refl _ _).alloc (Nat.le_refl _) (.cells #[.slice A2 1 c2] 24))
  obtain ⟨b1, _⟩ := obj29 g1
  have HG1 := Lib.hid g1
  clear hN2 hA2 hb2 hWB g1
  have HTW := Lib.hid (show ([x] : List Nd) ++ (([y] : List Nd).map (sh 1) ++ [⟨6, ((1 : Nat) : Int) - 1, ((1 : Nat) : Int) + ((1 : Nat) : Int) - 1, [], 0, 0, 0⟩]) = [x, y, ⟨6, 0, 1, [], 0, 0, 0⟩] by simp [sh_none HYO.out.1])
  have HKY := Lib.hid (show ∀ (j : Nat) z, ([y] : List Nd)[j]? = some z → ∀ k ∈ kids z, 0 ≤ k ∧ k < 100000 from fun j z hz k hk => by
    cases j with
    | zero => simp at hz; subst hz; rw [HYO.out.1] at hk; cases hk
    | succ j => simp at hz)
  have H20 := Lib.hid (two_any 6 A1 A2 1 c1 1 c2 [x] [y] _ HN13.out HA1.out rfl HN23.out HA2.out rfl (Nat.le_refl _) (Nat.le_refl _) (by omega) (by omega) HKY.out)
  rw [HTW.out] at H20
  go_wp2_with fail
  refine H20.out.mono ?_
  rintro e w4 ⟨A3, c3, rfl, hN3, hA3, hb4⟩
  have HB4 := Lib.hid (HB3.out.trans (hb4.mono HB3.out.size))
  have HG4 := Lib.hid (keepL HG1.out hb4)
  have HN14 := Lib.hid (HN13.out.below hb4)
  have H21 := Lib.hid (about_any ⟨8, 0, 0, [], 0, 0, 1⟩ none 0 A3 3 c3 [x, y, ⟨6, 0, 1, [], 0, 0, 0⟩] w4 S.Rgs.nil hN3 (fun h => by have := (hA3 h).1; cases this) rfl (by omega) (by omega))
  have HTT := Lib.hid (show ([x, y, ⟨6, 0, 1, [], 0, 0, 0⟩] : List Nd) ++ [({ (⟨8, 0, 0, [], 0, 0, 1⟩ : Nd) with a := ((3 : Nat) : Int) - 1 } : Nd)] = flat 0 (tW x y) by rw [tW_flat]; rfl)
  rw [HTT.out] at H21
  dsimp only [List.length_nil] at H21
  clear hN3 hA3 hb4 b1
  go_wp2_with fail
  refine H21.out.mono ?_
  rintro e w5 ⟨A4, c4, rfl, hN4, hA4, hb5⟩
  have hl4 : (flat 0 (tW x y)).length = 4 := by rw [tW_flat]; rfl
  rw [hl4]
  have HL4 := Lib.hid hl4
  clear hl4
  have hWB := (Below.refl w5.heap.size w5).alloc (Nat.le_refl _) (.cells #[.slice A4 4 c4] 24)
  have HB5 := Lib.hid ((HB4.out.trans (hb5.mono HB4.out.size)).trans (hWB.mono (by have := HB4.out.size; have := hb5.size; omega)))
  obtain ⟨b5, _⟩ := obj29 (keepL (keepL HG4.out hb5) hWB)
  have HN45 := Lib.hid (hN4.below hWB)
  have HN15 := Lib.hid ((HN14.out.below hb5).below hWB)
  have HG5 := Lib.hid (heap_new w5 (.cells #[.slice A4 4 c4] 24))
  have H22 := Lib.hid (about_any ⟨8, 0, 0, [], 0, 0, 2⟩ none 0 A1 1 c1 [x] (w5.alloc (.cells #[.slice A4 4 c4] 24)) S.Rgs.nil HN15.out HA1.out rfl (by omega) (by omega))
  have HUU := Lib.hid (show ([x] : List Nd) ++ [({ (⟨8, 0, 0, [], 0, 0, 2⟩ : Nd) with a := ((1 : Nat) : Int) - 1 } : Nd)] = flat 0 (uW x) by rw [uW_flat]; rfl)
  rw [HUU.out] at H22
  dsimp only [List.length_nil] at H22
  clear hN4 hb5 hWB
  go_wp2_with fail
  refine H22.out.mono ?_
  rintro e w6 ⟨A5, c5, rfl, hN5, hA5, hb6⟩
  have hl5 : (flat 0 (uW x)).length = 2 := by rw [uW_flat]; rfl
  rw [hl5]
  have HL5 := Lib.hid hl5
  clear hl5
  have hWB := (Below.refl w6.heap.size w6).alloc (Nat.le_refl _) (.cells #[.slice A5 2 c5] 24)
  have HB6 := Lib.hid ((HB5.out.trans (hb6.mono HB5.out.size)).trans (hWB.mono (by have := HB5.out.size; have := hb6.size; omega)))
  have HNT := Lib.hid ((HN45.out.below hb6).below hWB)
  have HNU := Lib.hid (hN5.below hWB)
  have hg3 := keepL (keepL HG5.out hb6) hWB
  have hg4 := heap_new w6 (.cells #[.slice A5 2 c5] 24)
  have hz6 : (w6.alloc (.cells #[.slice A5 2 c5] 24)).heap.size = w6.heap.size + 1 := by simp
  have hw65 : w5.heap.size < w6.heap.size := by have := hb6.size; simp at this; omega
  have HSF := Lib.hid (show ∀ W, Below (w6.alloc (.cells #[.slice A5 2 c5] 24)).heap.size (w6.alloc (.cells #[.slice A5 2 c5] 24)) W → (W.cell? ⟨w5.heap.size, 0, none⟩ = some (.slice A4 4 c4) ∧ W.cell? ⟨w6.heap.size, 0, none⟩ = some (.slice A5 2 c5)) from fun W hW => ⟨(hW.cell (p := ⟨w5.heap.size, 0, none⟩) (by show w5.heap.size < (w6.alloc _).heap.size; rw [hz6]; omega)).trans (blk1 hg3), (hW.cell (p := ⟨w6.heap.size, 0, none⟩) (by show w6.heap.size < (w6.alloc _).heap.size; rw [hz6]; omega)).trans (blk1 hg4)⟩)
  clear hN5 hA5 hb6 hWB hg3 hg4 b5
  have HBW := Lib.hid (Below.refl (w6.alloc (.cells #[.slice A5 2 c5] 24)).heap.size (w6.alloc (.cells #[.slice A5 2 c5] 24)))
  have HTS := Lib.hid (show ∀ z ∈ flat 0 (tW x y), z.set.length ≤ 1000000 from fun z hz => by
    rw [tW_flat] at hz
    simp only [List.mem_cons, List.not_mem_nil, or_false] at hz
    rcases hz with rfl | rfl | rfl | rfl
    · have := HXO.out.2.2; omega
    · have := HYO.out.2.2; omega
    · simp
    · simp)
  have HUS := Lib.hid (show ∀ z ∈ flat 0 (uW x), z.set.length ≤ 1000000 from fun z hz => by
    rw [uW_flat] at hz
    simp only [List.mem_cons, List.not_mem_nil, or_false] at hz
    rcases hz with rfl | rfl
    · have := HXO.out.2.2; omega
    · simp)
  have HGT := Lib.hid (tW_good HXO.out HYO.out)
  have HFT := Lib.hid (tW_first HXO.out HYO.out)
  have R1 := Lib.hid (fun W (hW : Below (w6.alloc (.cells #[.slice A5 2 c5] 24)).heap.size (w6.alloc (.cells #[.slice A5 2 c5] 24)) W) => (tsound_any A4 4 c4 _ W (HNT.out.below hW) HL4.out (by omega) HTS.out).mono fun _ _ h => RetB.yes h HGT.out.1)
  have R2 := Lib.hid (fun W (hW : Below (w6.alloc (.cells #[.slice A5 2 c5] 24)).heap.size (w6.alloc (.cells #[.slice A5 2 c5] 24)) W) => (tgood_any A4 4 c4 _ W (HNT.out.below hW) HL4.out (by omega) HTS.out).mono fun _ _ h => RetB.yes h HGT.out)
  have R3 := Lib.hid (fun W (hW : Below (w6.alloc (.cells #[.slice A5 2 c5] 24)).heap.size (w6.alloc (.cells #[.slice A5 2 c5] 24)) W) => (tsound_any A5 2 c5 _ W (HNU.out.below hW) HL5.out (by omega) HUS.out).mono fun _ _ h => RetB.yes h (uW_sound HXO.out))
  have R4 := Lib.hid (fun W (hW : Below (w6.alloc (.cells #[.slice A5 2 c5] 24)).heap.size (w6.alloc (.cells #[.slice A5 2 c5] 24)) W) => (tgood_any A5 2 c5 _ W (HNU.out.below hW) HL5.out (by omega) HUS.out).mono fun _ _ h => RetB.no h (uW_bad HXO.out))
  have R5 := Lib.hid (fun W => (tsound_any none 0 0 [] W (fun h => absurd rfl h) rfl (by omega) (by simp)).mono fun _ _ h => RetB.no h (fun h => by have := h.1; simp at this))
  have R6 := Lib.hid (fun W (hW : Below (w6.alloc (.cells #[.slice A5 2 c5] 24)).heap.size (w6.alloc (.cells #[.slice A5 2 c5] 24)) W) => tcaps_any A4 4 c4 _ W (HNT.out.below hW) HL4.out (by omega))
  rw [HI8.out] at R6
  have R7 := Lib.hid (fun W (hW : Below (w6.alloc (.cells #[.slice A5 2 c5] 24)).heap.size (w6.alloc (.cells #[.slice A5 2 c5] 24)) W) => tleaves_any A4 4 c4 _ W (HNT.out.below hW) HL4.out (by omega))
  rw [HI2.out] at R7
  have R8 := Lib.hid (fun W (hW : Below (w6.alloc (.cells #[.slice A5 2 c5] 24)).heap.size (w6.alloc (.cells #[.slice A5 2 c5] 24)) W) => (tfirst_any A4 4 c4 _ 2 W (HNT.out.below hW) HL4.out (by omega) HTS.out).mono fun _ _ h => RetF.at (v := 0) h ⟨fun _ => HFT.out.1.symm, fun h => absurd ⟨HGT.out, by omega, by rw [HL4.out]; omega⟩ h⟩)
  have R9 := Lib.hid (fun W (hW : Below (w6.alloc (.cells #[.slice A5 2 c5] 24)).heap.size (w6.alloc (.cells #[.slice A5 2 c5] 24)) W) => (tfirst_any A4 4 c4 _ 1 W (HNT.out.below hW) HL4.out (by omega) HTS.out).mono fun _ _ h => RetF.at (v := 1) h ⟨fun _ => HFT.out.2.symm, fun h => absurd ⟨HGT.out, by omega, by rw [HL4.out]; omega⟩ h⟩)
  have R10 := Lib.hid (fun W (hW : Below (w6.alloc (.cells #[.slice A5 2 c5] 24)).heap.size (w6.alloc (.cells #[.slice A5 2 c5] 24)) W) => (tfirst_any A4 4 c4 _ 9 W (HNT.out.below hW) HL4.out (by omega) HTS.out).mono fun _ _ h => RetF.at (v := -1) h ⟨(fun h => by have := h.2.2; rw [HL4.out] at this; omega), fun _ => rfl⟩)
  have R11 := Lib.hid (fun W (hW : Below (w6.alloc (.cells #[.slice A5 2 c5] 24)).heap.size (w6.alloc (.cells #[.slice A5 2 c5] 24)) W) => (tsame_any A4 A4 4 c4 4 c4 _ _ W (HNT.out.below hW) HL4.out (HNT.out.below hW) HL4.out (by omega) HTS.out HTS.out).mono fun _ _ h => RetB.yes h rfl)
  have R12 := Lib.hid (fun W (hW : Below (w6.alloc (.cells #[.slice A5 2 c5] 24)).heap.size (w6.alloc (.cells #[.slice A5 2 c5] 24)) W) => (tsame_any A4 A5 4 c4 2 c5 _ _ W (HNT.out.below hW) HL4.out (HNU.out.below hW) HL5.out (by omega) HTS.out HUS.out).mono fun _ _ h => RetB.no h (fun e => by have := congrArg List.length e; rw [HL4.out, HL5.out] at this; omega))
  clear HTS HUS HGT HFT HI2 HI8 HNT HNU HL4 HL5 H1 H2 H20 H21 H22
  obtain ⟨k3, k4⟩ := HSF.out _ HBW.out
  go_wp2_with fail
  refine (R1.out _ HBW.out).mono ?_
  rintro e v1 ⟨rfl, hb1⟩
  have K1 := Lib.hid (S.bel_trans HBW.out hb1)
  clear hb1 k3 k4
  obtain ⟨k3, k4⟩ := HSF.out _ K1.out
  go_wp2_with fail
  refine (R2.out _ K1.out).mono ?_
  rintro e v2 ⟨rfl, hb2⟩
  have K2 := Lib.hid (S.bel_trans K1.out hb2)
  clear hb2 k3 k4
  obtain ⟨k3, k4⟩ := HSF.out _ K2.out
  go_wp2_with fail
  refine (R3.out _ K2.out).mono ?_
  rintro e v3 ⟨rfl, hb3⟩
  have K3 := Lib.hid (S.bel_trans K2.out hb3)
  clear hb3 k3 k4
  obtain ⟨k3, k4⟩ := HSF.out _ K3.out
  go_wp2_with fail
  refine (R4.out _ K3.out).mono ?_
  rintro e v4 ⟨rfl, hb4⟩
  have K4 := Lib.hid (S.bel_trans K3.out hb4)
  clear hb4 k3 k4
  obtain ⟨k3, k4⟩ := HSF.out _ K4.out
  go_wp2_with fail
  refine (R5.out _).mono ?_
  rintro e v5 ⟨rfl, hb5⟩
  have K5 := Lib.hid (S.bel_trans K4.out hb5)
  clear hb5 k3 k4
  obtain ⟨k3, k4⟩ := HSF.out _ K5.out
  go_wp2_with fail
  refine (R6.out _ K5.out).mono ?_
  rintro e v6 ⟨rfl, hb6⟩
  have K6 := Lib.hid (S.bel_trans K5.out hb6)
  clear hb6 k3 k4
  obtain ⟨k3, k4⟩ := HSF.out _ K6.out
  go_wp2_with fail
  refine (R7.out _ K6.out).mono ?_
  rintro e v7 ⟨u7, rfl, ho7, hb7⟩
  have K7 := Lib.hid (S.bel_trans K6.out hb7)
  have hWL := (Below.refl v7.heap.size v7).alloc (Nat.le_refl _) (.cells #[.int .i64 0, .int .i64 1] 3)
  have K7b := Lib.hid (S.bel_trans K7.out hWL)
  have HE := Lib.hid (eqints_true u7 (.slice (some ⟨v7.heap.size, 0, none⟩) 2 2) [0, 1] (v7.alloc (.cells #[.int .i64 0, .int .i64 1] 3)) ((IntsAt.own ho7).below hWL) (IntsAt.own (zs := [0, 1]) (row2 (B := v7.heap.size) rfl (Nat.le_refl _) 0 1)) (by simp))
  clear ho7 hb7 hWL k3 k4
  obtain ⟨k3, k4⟩ := HSF.out _ K7b.out
  go_wp2_with fail
  refine HE.out.mono ?_
  rintro e v7c ⟨rfl, hb7⟩
  have K7c := Lib.hid (S.bel_trans K7b.out hb7)
  clear hb7 k3 k4
  obtain ⟨k3, k4⟩ := HSF.out _ K7c.out
  go_wp2_with fail
  refine (R8.out _ K7c.out).mono ?_
  rintro e v8 ⟨rfl, hb8⟩
  have K8 := Lib.hid (S.bel_trans K7c.out hb8)
  clear hb8 k3 k4
  obtain ⟨k3, k4⟩ := HSF.out _ K8.out
  go_wp2_with fail
  refine (R9.out _ K8.out).mono ?_
  rintro e v9 ⟨rfl, hb9⟩
  have K9 := Lib.hid (S.bel_trans K8.out hb9)
  clear hb9 k3 k4
  obtain ⟨k3, k4⟩ := HSF.out _ K9.out
  go_wp2_with fail
  refine (R10.out _ K9.out).mono ?_
  rintro e v10 ⟨rfl, hb10⟩
  have K10 := Lib.hid (S.bel_trans K9.out hb10)
  clear hb10 k3 k4
  obtain ⟨k3, k4⟩ := HSF.out _ K10.out
  go_wp2_with fail
  refine (R11.out _ K10.out).mono ?_
  rintro e v11 ⟨rfl, hb11⟩
  have K11 := Lib.hid (S.bel_trans K10.out hb11)
  clear hb11 k3 k4
  obtain ⟨k3, k4⟩ := HSF.out _ K11.out
  go_wp2_with fail
  refine (R12.out _ K11.out).mono ?_
  rintro e v12 ⟨rfl, hb12⟩
  have K12 := Lib.hid (S.bel_trans K11.out hb12)
  clear hb12 k3 k4
  obtain ⟨k3, k4⟩ := HSF.out _ K12.out
  go_wp2_with fail
  go_ret
  exact ⟨rfl, HB6.out.trans (K12.out.mono HB6.out.size)⟩
end Go.Proofs.Ytceeimolfalmpaa
