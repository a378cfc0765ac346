/-
  The statement that a fault's place is the first one that offends (ParseLeast) answers true for every two texts. Condition: the two tables of unicode/utf8 lie as their text lays them.
-/
import Derived.Test.YtceeimolfalmpaaGreatDoorPM
import Derived.Test.YtceeimolfalmpaaGreatDoorTells
namespace Go.Proofs.YtceeimolfalmpaaGreatDoor.T
open Go.RowKit ObUtf ObSets ObTree ObParse
open Go.Proofs.YtceeimolfalmpaaGreatDoor (tv fv fo Tr Tk FlOf RetO rwords2_any)

theorem eqf2 (a b c d : Int) (w : World) : (Op.equalIn 10000 34 (fv a b) (fv c d)).run Tryz.prog w = .ok (a == c && b == d) w := by
  have u3 := Tryz.underlying3
  have u30 := Tryz.underlying32
  have a3 := Tryz.isAgg3
  have a30 := Tryz.isAgg32
  have z3 := Tryz.sizeOf3
  have z30 := Tryz.sizeOf32
  have hS : Tryz.prog.underlying 34 = some (.struct (Tryz.prog.fieldsOf 34)) := by kernel_rfl
  have hp : Tryz.prog.stoodInHeld 34 = false := by kernel_rfl
  rw [show (10000 : Nat) = 9999 + 1 from rfl, run_equalIn_agg w 9999 34 _ _ hS hp]
  simp only [Program.fieldsOf, Tryz.underlying34]
  go_simp
  by_cases h1 : a = c <;> by_cases h2 : b = d <;> simp [h1, h2]
/-- What Parse hands back, by the texts' words. -/
def RetPq (s : ByteArray) (w : World) (e : Ending) (w' : World) : Prop :=
  ∃ W x a A n c E q L, ObLex.Ahead s W ∧ FlOf (ObLex.toks s 0) x a ∧ outc W x a s.size = (L, E, q) ∧ Below w.heap.size w w' ∧ e = .returned (.tuple #[.agg #[.slice A n c], fv E q])
theorem po_pq {s : ByteArray} {w : World} {e : Ending} {w' : World} (h : RetPo s w e w') : RetPq s w e w' := by
  obtain ⟨W, x, a, A, c, h1, h2, h3, h4, _⟩ := h
  obtain ⟨⟨L, E, q⟩, ho⟩ : ∃ o, outc W x a s.size = o := ⟨_, rfl⟩
  rw [ho] at h4
  exact ⟨W, x, a, A, _, c, E, q, L, h1, h2, ho, h3, h4⟩
set_option maxHeartbeats 8000000 in
set_option maxRecDepth 100000 in
theorem pleast_walk (s t : ByteArray) (w : World) (hT : U.Tb w) : Calls Tryz.prog 7 #[.string s, .string t] w fun e w' => e = .returned (.bool true) ∧ Below w.heap.size w w' := by
  have HT := Lib.hid hT; clear hT
  have HC1 := Lib.hid (fun W => U.cut_any s 60 W (by decide))
  have HC2 := Lib.hid (fun W => U.cut_any t 60 W (by decide))
  have hs1 : (U.cutB s (60 : Int).toNat).size ≤ 60 := U.cutB_size s _
  have hs2 : (U.cutB t (60 : Int).toNat).size ≤ 60 := U.cutB_size t _
  generalize U.cutB s (60 : Int).toNat = r at *
  generalize U.cutB t (60 : Int).toNat = v at *
  have HPA := Lib.hid (fun (u : ByteArray) (W : World) (hW : U.Tb W) (hu : u.size ≤ 1000) => (parse_any u W hW hu).mono fun e w' h => po_pq (ps_po h))
  have HPW := Lib.hid (fun (W : World) => rwords2_any r W (by omega))
  go_enter Tryz.func7, Tryz.ntmps7
  go_wp2_with fail
  refine (HC1.out w).mono ?_
  rintro e w1 ⟨rfl, rfl⟩
  go_wp2_with fail
  refine (HC2.out _).mono ?_
  rintro e w1 ⟨rfl, rfl⟩
  go_wp2_with fail
  refine (HPA.out r _ HT.out (by omega)).mono ?_
  rintro e w1 ⟨W, x, a, A, n, c, E, q, L, hA, hF, hO, hb1, rfl⟩
  have hleast := least hA hF
  rw [hO] at hleast
  dsimp only at hleast
  obtain ⟨hz, hnz⟩ := hleast
  have k0 := keepL (heap_new w1 (.cells #[.slice A n c] 29)) ((Below.refl _ _).alloc (Nat.le_refl _) (.cells #[.int .i64 E, .int .i64 q] 34))
  have k1 := heap_new (w1.alloc (.cells #[.slice A n c] 29)) (.cells #[.int .i64 E, .int .i64 q] 34)
  rw [World.size_alloc] at k1
  have ba1 := ((Below.refl w1.heap.size w1).alloc (Nat.le_refl _) (.cells #[.slice A n c] 29)).alloc (by simp) (.cells #[.int .i64 E, .int .i64 q] 34)
  have HB1 := Lib.hid (S.bel_trans hb1 ba1)
  have HK1 := Lib.hid k1
  have HA := Lib.hid hA; have HF := Lib.hid hF
  have hz1 := lt_of_heap k1
  clear k0 hb1 ba1 hA hF hO
  by_cases hE : E = 0
  · have hq0 := hz hE
    subst hE hq0
    clear hz hnz
    obtain ⟨e0, e1, _⟩ := blk2 k1
    clear k1
    have HW := Lib.hid (wakes9_any _ (HT.out.below HB1.out))
    go_wp2_with fail
    refine HW.out.mono ?_
    rintro e w3 ⟨rfl, hb3⟩
    go_wp2_with fail
    go_ret
    exact ⟨rfl, S.bel_trans HB1.out hb3⟩
  · obtain ⟨⟨qn, hqn, hqs⟩, F, hFP, hFs, hon⟩ := hnz hE
    have HON := Lib.hid hon
    have hE2 : (E == 0) = false := beq_eq_false_iff_ne.2 hE
    subst hqn
    have hqlt : (qn : Int) ≤ (r.size : Int) := by omega
    have dn : decide ((qn : Int) < 0) = false := decide_eq_false (by omega)
    have dq : decide (r.size < qn) = false := decide_eq_false (by omega)
    clear hz hnz hon
    obtain ⟨e0, e1, _⟩ := blk2 k1
    clear k1
    go_wp2_with fail
    refine Calls.mono (HPW.out _) ?_
    rintro e w2 ⟨A2, l2, k2, x2, a2, rfl, hk2, hb2, hA2, hF2⟩
    have e3 := ObLex.Ahead.one HA.out hA2
    subst e3
    obtain ⟨rfl, rfl⟩ := flof_one HF.out hF2
    obtain ⟨m, hm⟩ : ∃ m, W.length = m := ⟨_, rfl⟩
    have HTR := Lib.hid (Tk.reads hk2)
    have HM := Lib.hid hm
    rw [hm]
    have ba2 := (Below.refl w2.heap.size w2).alloc (Nat.le_refl _) (.cells #[.int .i64 x, .int .i64 a] 34)
    have HB2 := Lib.hid (S.bel_trans HB1.out (S.bel_trans hb2 ba2))
    have kk1 := keepL (keepL HK1.out hb2) ba2
    obtain ⟨e0', e1', _⟩ := blk2 kk1
    obtain ⟨j0, j1, _⟩ := blk2 (heap_new w2 (.cells #[.int .i64 x, .int .i64 a] 34))
    have HTR2 := Lib.hid (HTR.out.below ba2)
    have hzz := lt_of_heap kk1
    clear hk2 hb2 hA2 hF2 ba2 hm e0 e1 kk1
    have hgt := Tryz.eqGuardType34
    have hqq := eqf2 E (qn : Int) x a
    generalize w1.heap.size + 1 = g1 at *
    clear HK1 HTR
    -- where the fault's own place is taken
    by_cases hcond : x ≠ 0 ∧ E = x ∧ (qn : Int) = a
    · obtain ⟨hx0, hEx, hqa⟩ := hcond
      rw [fromP_l ⟨hx0, hEx, hqa⟩] at hFP
      have hb : (E == x && (qn : Int) == a) = true := by simp [hEx, hqa]
      rw [hb] at hqq
      have hxn : (x != 0) = true := by simpa using hx0
      clear hEx hqa hx0 hb
      cases hl : W.getLast? with
      | none =>
        rw [lastP_no hl] at hFP
        have hm0 : m = 0 := by
          rw [List.getLast?_eq_none_iff] at hl
          rw [← HM.out, hl]; rfl
        have hF0 : F = 0 := by omega
        subst hm0 hF0
        clear hFP hl HTR2
        go_wp2_with fail
        have HU : r.extract 0 0 ++ ((⟨#[97]⟩ : ByteArray) ++ v) = (⟨#[97]⟩ : ByteArray) ++ v := by simp
        refine (HPA.out _ _ (HT.out.below HB2.out) (by rw [← HU, size_cat, size_cat]; have := (ObLex.pre_extract r (q := 0) (by omega)).2; have h97 : (⟨#[97]⟩ : ByteArray).size = 1 := rfl; omega)).mono ?_
        rintro e w3 ⟨W', x', a', A', n', c', E', q', L', hA', hF', hO', hb3, rfl⟩
        have hfin := HON.out v W' x' a' (by rw [HU]; exact hA') (by rw [HU]; exact hF')
        rw [HU, hO'] at hfin
        dsimp only at hfin
        obtain ⟨ba3, _, kz⟩ := two_new w3 A' n' c' E' q'
        obtain ⟨z0, z1, _⟩ := blk2 kz
        have HB3 := Lib.hid (S.bel_trans HB2.out (S.bel_trans hb3 ba3))
        clear hA' hF' hO' hb3 ba3 kz HU
        by_cases hE' : E' = 0
        · subst hE'
          clear hfin
          go_wp2_with fail
          refine (wakes9_any _ (HT.out.below HB3.out)).mono ?_
          rintro e w4 ⟨rfl, hb4⟩
          go_wp2_with fail
          go_ret
          exact ⟨rfl, S.bel_trans HB3.out hb4⟩
        · have e' : (E' == 0) = false := beq_eq_false_iff_ne.2 hE'
          have hge : ((0 : Nat) : Int) ≤ q' := hfin.resolve_left hE'
          have hge2 : decide (((0 : Nat) : Int) ≤ q') = true := decide_eq_true hge
          clear hfin hE'
          go_wp2_with fail
          refine (wakes9_any _ (HT.out.below HB3.out)).mono ?_
          rintro e w4 ⟨rfl, hb4⟩
          go_wp2_with fail
          go_ret
          exact ⟨rfl, S.bel_trans HB3.out hb4⟩
      | some tl =>
        rw [lastP_so hl] at hFP
        have hlast : W[W.length - 1]? = some tl := by rw [← hl, List.getLast?_eq_getElem?]
        rw [HM.out] at hlast
        have hm1 : 0 < m := by
          have := (List.getElem?_eq_some_iff.1 hlast).1
          rw [HM.out] at this
          omega
        obtain ⟨k, rfl⟩ : ∃ k, m = k + 1 := ⟨m - 1, by omega⟩
        have hlast2 : W[k]? = some tl := hlast
        obtain ⟨b, off, rfl, _, hcs⟩ := HTR2.out (by intro h; rw [h] at hlast2; simp at hlast2)
        obtain ⟨As, ks, _, c1, _, _, _, _⟩ := hcs k tl hlast2
        rw [hFP] at c1
        have ew : IntKind.i64.wrap ((k : Int) + 1 - 1) = (k : Int) := by rw [show (k : Int) + 1 - 1 = k by omega]; exact IntWalk.i64_in _ (by have := HM.out; have := HA.out.good.1; omega)
        have ew2 : IntKind.i64.wrap (((k + 1 : Nat) : Int) - 1) = (k : Int) := by rw [show ((k + 1 : Nat) : Int) - 1 = k by omega]; exact IntWalk.i64_in _ (by have := HM.out; have := HA.out.good.1; omega)
        have ew3 : IntKind.i64.wrap (k : Int) = (k : Int) := IntWalk.i64_in _ (by have := HM.out; have := HA.out.good.1; omega)
        have hk0 : (0 : Int) < (k : Int) + 1 := by omega
        have hkl : (k : Int) < (k : Int) + 1 := by omega
        have hFl : (F : Int) ≤ (r.size : Int) := by omega
        have hxs : (r.extract 0 F).size ≤ 60 := by have := (ObLex.pre_extract r (q := F) hFs).2; omega
        clear hFP hl HTR2 hlast hlast2 hcs
        go_wp2_with fail
        have HU : r.extract 0 F ++ ((⟨#[97]⟩ : ByteArray) ++ v) = r.extract 0 F ++ (⟨#[97]⟩ : ByteArray) ++ v := by rw [ByteArray.append_assoc]
        refine (HPA.out _ _ (HT.out.below HB2.out) (by rw [← HU, size_cat, size_cat]; have := (ObLex.pre_extract r (q := F) (by omega)).2; have h97 : (⟨#[97]⟩ : ByteArray).size = 1 := rfl; omega)).mono ?_
        rintro e w3 ⟨W', x', a', A', n', c', E', q', L', hA', hF', hO', hb3, rfl⟩
        have hfin := HON.out v W' x' a' (by rw [HU]; exact hA') (by rw [HU]; exact hF')
        rw [HU, hO'] at hfin
        dsimp only at hfin
        obtain ⟨ba3, _, kz⟩ := two_new w3 A' n' c' E' q'
        obtain ⟨z0, z1, _⟩ := blk2 kz
        have HB3 := Lib.hid (S.bel_trans HB2.out (S.bel_trans hb3 ba3))
        clear hA' hF' hO' hb3 ba3 kz HU
        by_cases hE' : E' = 0
        · subst hE'
          clear hfin
          go_wp2_with fail
          refine (wakes9_any _ (HT.out.below HB3.out)).mono ?_
          rintro e w4 ⟨rfl, hb4⟩
          go_wp2_with fail
          go_ret
          exact ⟨rfl, S.bel_trans HB3.out hb4⟩
        · have e' : (E' == 0) = false := beq_eq_false_iff_ne.2 hE'
          have hge : ((F : Nat) : Int) ≤ q' := hfin.resolve_left hE'
          have hge2 : decide (((F : Nat) : Int) ≤ q') = true := decide_eq_true hge
          clear hfin hE'
          go_wp2_with fail
          refine (wakes9_any _ (HT.out.below HB3.out)).mono ?_
          rintro e w4 ⟨rfl, hb4⟩
          go_wp2_with fail
          go_ret
          exact ⟨rfl, S.bel_trans HB3.out hb4⟩
    · rw [fromP_q hcond] at hFP
      have hFq : F = qn := by omega
      subst hFq
      have hFl : (F : Int) ≤ (r.size : Int) := by omega
      have hxs : (r.extract 0 F).size ≤ 60 := by have := (ObLex.pre_extract r (q := F) hFs).2; omega
      clear hFP HTR2
      by_cases hx0 : x = 0
      · have hxn : (x != 0) = false := by simpa using hx0
        clear hcond hx0 hqq
        go_wp2_with fail
        have HU : r.extract 0 F ++ ((⟨#[97]⟩ : ByteArray) ++ v) = r.extract 0 F ++ (⟨#[97]⟩ : ByteArray) ++ v := by rw [ByteArray.append_assoc]
        refine (HPA.out _ _ (HT.out.below HB2.out) (by rw [← HU, size_cat, size_cat]; have := (ObLex.pre_extract r (q := F) (by omega)).2; have h97 : (⟨#[97]⟩ : ByteArray).size = 1 := rfl; omega)).mono ?_
        rintro e w3 ⟨W', x', a', A', n', c', E', q', L', hA', hF', hO', hb3, rfl⟩
        have hfin := HON.out v W' x' a' (by rw [HU]; exact hA') (by rw [HU]; exact hF')
        rw [HU, hO'] at hfin
        dsimp only at hfin
        obtain ⟨ba3, _, kz⟩ := two_new w3 A' n' c' E' q'
        obtain ⟨z0, z1, _⟩ := blk2 kz
        have HB3 := Lib.hid (S.bel_trans HB2.out (S.bel_trans hb3 ba3))
        clear hA' hF' hO' hb3 ba3 kz HU
        by_cases hE' : E' = 0
        · subst hE'
          clear hfin
          go_wp2_with fail
          refine (wakes9_any _ (HT.out.below HB3.out)).mono ?_
          rintro e w4 ⟨rfl, hb4⟩
          go_wp2_with fail
          go_ret
          exact ⟨rfl, S.bel_trans HB3.out hb4⟩
        · have e' : (E' == 0) = false := beq_eq_false_iff_ne.2 hE'
          have hge : ((F : Nat) : Int) ≤ q' := hfin.resolve_left hE'
          have hge2 : decide (((F : Nat) : Int) ≤ q') = true := decide_eq_true hge
          clear hfin hE'
          go_wp2_with fail
          refine (wakes9_any _ (HT.out.below HB3.out)).mono ?_
          rintro e w4 ⟨rfl, hb4⟩
          go_wp2_with fail
          go_ret
          exact ⟨rfl, S.bel_trans HB3.out hb4⟩
      · have hxn : (x != 0) = true := by simpa using hx0
        have hb : (E == x && (F : Int) == a) = false := by
          rw [Bool.and_eq_false_iff]
          by_cases h1 : E = x
          · right; exact beq_eq_false_iff_ne.2 (fun h2 => hcond ⟨hx0, h1, h2⟩)
          · left; exact beq_eq_false_iff_ne.2 h1
        rw [hb] at hqq
        clear hcond hx0 hb
        go_wp2_with fail
        have HU : r.extract 0 F ++ ((⟨#[97]⟩ : ByteArray) ++ v) = r.extract 0 F ++ (⟨#[97]⟩ : ByteArray) ++ v := by rw [ByteArray.append_assoc]
        refine (HPA.out _ _ (HT.out.below HB2.out) (by rw [← HU, size_cat, size_cat]; have := (ObLex.pre_extract r (q := F) (by omega)).2; have h97 : (⟨#[97]⟩ : ByteArray).size = 1 := rfl; omega)).mono ?_
        rintro e w3 ⟨W', x', a', A', n', c', E', q', L', hA', hF', hO', hb3, rfl⟩
        have hfin := HON.out v W' x' a' (by rw [HU]; exact hA') (by rw [HU]; exact hF')
        rw [HU, hO'] at hfin
        dsimp only at hfin
        obtain ⟨ba3, _, kz⟩ := two_new w3 A' n' c' E' q'
        obtain ⟨z0, z1, _⟩ := blk2 kz
        have HB3 := Lib.hid (S.bel_trans HB2.out (S.bel_trans hb3 ba3))
        clear hA' hF' hO' hb3 ba3 kz HU
        by_cases hE' : E' = 0
        · subst hE'
          clear hfin
          go_wp2_with fail
          refine (wakes9_any _ (HT.out.below HB3.out)).mono ?_
          rintro e w4 ⟨rfl, hb4⟩
          go_wp2_with fail
          go_ret
          exact ⟨rfl, S.bel_trans HB3.out hb4⟩
        · have e' : (E' == 0) = false := beq_eq_false_iff_ne.2 hE'
          have hge : ((F : Nat) : Int) ≤ q' := hfin.resolve_left hE'
          have hge2 : decide (((F : Nat) : Int) ≤ q') = true := decide_eq_true hge
          clear hfin hE'
          go_wp2_with fail
          refine (wakes9_any _ (HT.out.below HB3.out)).mono ?_
          rintro e w4 ⟨rfl, hb4⟩
          go_wp2_with fail
          go_ret
          exact ⟨rfl, S.bel_trans HB3.out hb4⟩
end Go.Proofs.YtceeimolfalmpaaGreatDoor.T
