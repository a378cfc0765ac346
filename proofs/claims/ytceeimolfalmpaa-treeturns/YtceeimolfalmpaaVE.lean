/-
  Whether a row of nodes is a tree (Sound), of the program: the walk. Conditions: at most 20000 nodes, each with at most 1000000 ranges.
-/
import Derived.Test.YtceeimolfalmpaaVD
namespace Go.Proofs.Ytceeimolfalmpaa
open Go.RowKit ObSets ObTree

/-- The kids, as kidsOf hands them back. -/
theorem kidV_see (x : Nd) : ∃ (p q : Int) (kl : Nat), kidV x = (p, q, (kl : Int)) ∧ (kids x).length = kl ∧ kl ≤ 2 ∧ (1 ≤ kl → (kids x)[0]? = some p) ∧ (2 ≤ kl → (kids x)[1]? = some q) := by
  by_cases h2 : x.kind = 5 ∨ x.kind = 6
  · refine ⟨x.a, x.b, 2, ?_, ?_, Nat.le_refl _, fun _ => ?_, fun _ => ?_⟩
    · unfold kidV; rw [if_pos h2]; rfl
    all_goals rw [kids_two h2]
    all_goals rfl
  · by_cases h1 : x.kind = 7 ∨ x.kind = 8 ∨ x.kind = 9
    · refine ⟨x.a, 0, 1, ?_, ?_, by omega, fun _ => ?_, fun h => by omega⟩
      · unfold kidV; rw [if_neg h2, if_pos h1]; rfl
      all_goals rw [kids_one h1]
      all_goals rfl
    · have h0 : kids x = [] := by unfold kids; rw [if_neg h2, if_neg h1]
      refine ⟨0, 0, 0, ?_, ?_, by omega, fun h => by omega, fun h => by omega⟩
      · unfold kidV; rw [if_neg h2, if_neg h1]; rfl
      · rw [h0]; rfl
theorem slice2 (g k : Nat) (hk : k ≤ 2) (w : World) : (Instr.sliceAt 63 (.pointer (some ⟨g, 0, none⟩)) none (some (.int .i64 (k : Int))) none).run Try.prog w = .ok (.slice (some ⟨g, 0, none⟩) k 2) w := by
  have u63 := Try.underlying63
  have u3 := Try.underlying3
  have z3 := Try.sizeOf3
  have z63 := Try.sizeOf63
  rcases (show k = 0 ∨ k = 1 ∨ k = 2 by omega) with rfl | rfl | rfl
  all_goals go_simp
theorem two_cell {w : World} {g : Nat} {a b : Value} {t : TypeId} (h : w.heap[g]? = some (.cells #[a, b] t)) : w.cell? ⟨g, 0, none⟩ = some a ∧ w.cell? ⟨g, 1, none⟩ = some b := ⟨by simp [World.cell?, h], by simp [World.cell?, h]⟩
set_option maxHeartbeats 4000000 in
set_option maxRecDepth 100000 in
theorem tsound_any (A : Option Addr) (n c : Nat) (L : List Nd) (w : World) (hN : Nr w A L) (hn : L.length = n) (hnb : n ≤ 20000) (hs : ∀ x ∈ L, x.set.length ≤ 1000000) :
    Calls Try.prog 22 #[tr A n c] w (RetB w (SoundL L)) := by
  have HN := Lib.hid hN; have HLN := Lib.hid hn; have HS := Lib.hid hs
  clear hN hn hs
  have ha0 := (Below.refl w.heap.size w).alloc (Nat.le_refl _) (.cells #[.slice A n c] 24)
  have hz : (w.alloc (.cells #[.slice A n c] 24)).heap.size = w.heap.size + 1 := by simp
  have hGA := heap_new w (.cells #[.slice A n c] 24)
  go_enter Try.func22, Try.ntmps22
  go_upto_region 1 with fail
  generalize w.alloc (.cells #[.slice A n c] 24) = W0 at *
  obtain ⟨a0, _⟩ := obj29 hGA
  obtain ⟨W1, hrun, hown, hg1⟩ := make_bools n w.heap.size W0 hnb (by omega)
  have HB1 := Lib.hid (ha0.trans (below_grown hg1 (by omega) (fun k hk => by cases hk)))
  have HO1 := Lib.hid (keepG hGA hg1 (fun k hk => by cases hk))
  obtain ⟨g, hg⟩ : ∃ g, W0.heap.size = g := ⟨_, rfl⟩
  rw [hg] at hrun hown
  have hgl := hown.lt g rfl
  have HOWN := Lib.hid hown
  have hgw : w.heap.size < g := by omega
  obtain ⟨o1, _⟩ := obj29 HO1.out
  clear hown hg1 ha0 hGA hg
  go_wp2_with fail
  go_loopw [4, 21] (fun tq ti wr => ∃ i : Nat, ti = .int .i64 (i : Int) ∧ i ≤ n ∧ tq = .int .i64 ((n : Int) - (totK L i : Int)) ∧ Hid (SoundTo L i) ∧ Hid (∀ m : Nat, m < n → uses (L.take i) (m : Int) ≤ 1) ∧ Hid (wr.ownsRow w.heap.size 4 1 (.slice (some ⟨g, 0, none⟩) n n) n (bools (rowK L n i []))) ∧ Hid (W1.grownBy wr (some g))) (fun _ ti _ => n - (intOf ti).toNat)
  case atStart => exact ⟨0, rfl, Nat.zero_le _, congrArg (Value.int .i64) (by simp [totK]), Lib.hid (fun i x h => absurd h (Nat.not_lt_zero _)), Lib.hid (fun m _ => by simp [uses]), Lib.hid (by rw [rowK_zero]; exact HOWN.out), Lib.hid (World.grownBy.refl _ _)⟩
  case round =>
    obtain ⟨i, rfl, hi, rfl, HT, HU, HR, HG⟩ := hrel
    have hgs := HG.out.size
    have HB2 := Lib.hid (HB1.out.trans (below_grown HG.out HB1.out.size (fun k hk => by injection hk with hk; omega)))
    have htl := totK_le L i
    obtain ⟨tk, htk⟩ : ∃ tk, totK L i = tk := ⟨_, rfl⟩
    have HTK := Lib.hid htk
    rw [htk] at htl ⊢
    clear htk
    by_cases hin : i < n
    · have d1 : decide (i < n) = true := decide_eq_true hin
      have hin' : (i : Int) < (n : Int) := by omega
      obtain ⟨x, hx⟩ : ∃ x, L[i]? = some x := ⟨_, List.getElem?_eq_getElem (by rw [HLN.out]; exact hin)⟩
      obtain ⟨bb, off, rfl, hbl, hnd⟩ := nr_at HN.out hx
      obtain ⟨As, ks, ⟨c0, c1, c2, c3, c4, c5, c6⟩, hrg⟩ := hnd.below hbl HB2.out
      obtain ⟨sl, hsl⟩ : ∃ sl, x.set.length = sl := ⟨_, rfl⟩
      have HFN := Lib.hid (fun (W : World) (hW : Below wr.heap.size wr W) => fits_any x As ks W (hrg.on hW) (HS.out x (List.mem_of_getElem? hx)))
      rw [hsl] at c3 HFN
      have HX := Lib.hid hx
      have HND := Lib.hid hnd
      have hBX := heap_new wr (.cells #[.int .i64 x.kind, .int .i64 x.a, .int .i64 x.b, .slice As sl ks, .int .i64 x.mn, .int .i64 x.mx, .int .i64 x.n] 35)
      have hbx := (Below.refl wr.heap.size wr).alloc (Nat.le_refl _) (.cells #[.int .i64 x.kind, .int .i64 x.a, .int .i64 x.b, .slice As sl ks, .int .i64 x.mn, .int .i64 x.mx, .int .i64 x.n] 35)
      have HBX := Lib.hid hBX; have Hbx := Lib.hid hbx
      clear hnd hx hrg hsl hBX hbx
      go_wp2_with fail
      refine (HFN.out _ Hbx.out).mono ?_
      rintro e w2 ⟨q, rfl, hq, hb2⟩
      have HB3 := Lib.hid ((HB2.out.trans (Hbx.out.mono HB2.out.size)).trans (hb2.mono (by have := HB2.out.size; simp; omega)))
      have HR2 := Lib.hid (S.own_below HR.out (Hbx.out.trans (hb2.mono Hbx.out.size)))
      have HG2 := Lib.hid (grown_trans HG.out (below_grownBy (r := none) (Hbx.out.trans (hb2.mono Hbx.out.size))) (fun k hk => by cases hk))
      have HX2 := Lib.hid (keepL HBX.out hb2)
      obtain ⟨⟨f0, f1, f2, f3, f4, f5, f6⟩, _⟩ := blk7 HX2.out
      have hw2 := hb2.size
      simp only [World.size_alloc] at hw2
      clear c0 c1 c2 c3 c4 c5 c6 hb2
      cases q with
      | false =>
        have HNO := Lib.hid (show ¬ SoundL L by
          intro h
          have := hq.2 (h.2.1 i x (by rw [HLN.out]; exact hin) HX.out).1
          cases this)
        clear hq
        go_wp2_with fail
        go_ret
        exact ⟨false, rfl, iff_of_false Bool.noConfusion HNO.out, HB3.out⟩
      | true =>
        have HFX := Lib.hid (hq.1 rfl)
        clear hq
        obtain ⟨p, q, kl, hkv, hkl, hkl2, hp0, hp1⟩ := kidV_see x
        have HKO := Lib.hid (fun (W : World) => kidsof_any x (.slice As sl ks) ⟨_, _, _, rfl⟩ W)
        rw [hkv] at HKO
        have HKL := Lib.hid hkl; have HP0 := Lib.hid hp0; have HP1 := Lib.hid hp1
        clear hkv hkl hp0 hp1
        go_wp2_with fail
        refine (HKO.out _).mono ?_
        rintro e w3 ⟨rfl, hb3⟩
        have HR3 := Lib.hid (S.own_below HR2.out (hb3.trans ((Below.refl w2.heap.size w3).alloc hb3.size (.cells #[.int .i64 p, .int .i64 q] 63))))
        have HG3 := Lib.hid (grown_trans HG2.out (below_grownBy (r := none) (hb3.trans ((Below.refl w2.heap.size w3).alloc hb3.size (.cells #[.int .i64 p, .int .i64 q] 63)))) (fun k hk => by cases hk))
        have HK3 := Lib.hid (heap_new w3 (.cells #[.int .i64 p, .int .i64 q] 63))
        have hw3 := hb3.size
        clear hb3 f0 f1 f2 f3 f4 f5 f6
        have hsl2 := slice2 w3.heap.size kl hkl2
        go_wp2_with fail
        have hz4 : (w3.alloc (.cells #[.int .i64 p, .int .i64 q] 63)).heap.size = w3.heap.size + 1 := by simp
        generalize w3.alloc (.cells #[.int .i64 p, .int .i64 q] 63) = w4 at *
        obtain ⟨gk, hgk⟩ : ∃ gk, w3.heap.size = gk := ⟨_, rfl⟩
        rw [hgk] at HK3 hz4 hw3 ⊢
        have HC := Lib.hid (show ∀ (j : Nat) (z : Int), (kids x)[j]? = some z → w4.cell? ⟨gk, j, none⟩ = some (.int .i64 z) from fun j z hz => by
          have hj : j < kl := by rw [← HKL.out]; exact (List.getElem?_eq_some_iff.1 hz).1
          obtain ⟨t0, t1⟩ := two_cell HK3.out
          rcases (show j = 0 ∨ j = 1 by omega) with rfl | rfl
          · rw [HP0.out (by omega)] at hz; injection hz with hz; rw [← hz]; exact t0
          · rw [HP1.out (by omega)] at hz; injection hz with hz; rw [← hz]; exact t1)
        clear hsl2 hgk
        go_loopw [4, 37] (fun tq tj wq => ∃ j : Nat, tj = .int .i64 (j : Int) ∧ j ≤ kl ∧ tq = .int .i64 ((n : Int) - (tk : Int) - (j : Int)) ∧ Hid (∀ k ∈ (kids x).take j, 0 ≤ k ∧ k < (i : Int)) ∧ Hid (∀ m : Nat, m < n → uses (L.take i) (m : Int) + ((kids x).take j).count (m : Int) ≤ 1) ∧ Hid (wq.ownsRow w.heap.size 4 1 (.slice (some ⟨g, 0, none⟩) n n) n (bools (rowK L n i ((kids x).take j)))) ∧ Hid (w4.grownBy wq (some g))) (fun _ tj _ => kl - (intOf tj).toNat)
        case atStart => exact ⟨0, rfl, Nat.zero_le _, congrArg (Value.int .i64) (by omega), Lib.hid (by simp), Lib.hid (fun m hm => by simpa using HU.out m hm), HR3, Lib.hid (World.grownBy.refl _ _)⟩
        case round =>
          obtain ⟨j, rfl, hj, rfl, HI, HV, HQ, HGQ⟩ := hrel
          have hgq := HGQ.out.size
          have HB4 := Lib.hid (HB1.out.trans (below_grown (grown_trans HG3.out HGQ.out (fun k hk => .inl hk)) HB1.out.size (fun k hk => by injection hk with hk; omega)))
          by_cases hjk : j < kl
          · have e1 : decide (j < kl) = true := decide_eq_true hjk
            have hjk' : (j : Int) < (kl : Int) := by omega
            obtain ⟨z, hz⟩ : ∃ z, (kids x)[j]? = some z := ⟨_, List.getElem?_eq_getElem (by rw [HKL.out]; exact hjk)⟩
            have y4 := HGQ.out.cell (HC.out j z hz) (fun e => by injection e with e; simp at e; omega)
            have hzm := List.mem_of_getElem? hz
            have hzt : (kids x).take (j + 1) = (kids x).take j ++ [z] := by rw [List.take_add_one, hz]; rfl
            by_cases hbad : z < 0 ∨ (i : Int) ≤ z
            · have HNO := Lib.hid (show ¬ SoundL L by
                intro h
                have := (h.2.1 i x (by rw [HLN.out]; exact hin) HX.out).2 z hzm
                omega)
              clear hz hzm hzt
              by_cases hz0 : z < 0
              · have e3 : decide (z < 0) = true := decide_eq_true hz0
                go_wp2_with fail
                go_ret
                exact ⟨false, rfl, iff_of_false Bool.noConfusion HNO.out, HB4.out⟩
              · have e3 : decide (z < 0) = false := decide_eq_false hz0
                have e4 : decide ((i : Int) ≤ z) = true := decide_eq_true (by omega)
                go_wp2_with fail
                go_ret
                exact ⟨false, rfl, iff_of_false Bool.noConfusion HNO.out, HB4.out⟩
            · obtain ⟨zn, rfl⟩ := Int.eq_ofNat_of_zero_le (show 0 ≤ z by omega)
              have hzi : zn < i := by omega
              have hzn : (zn : Int) < (n : Int) := by omega
              have e3 : decide ((zn : Int) < 0) = false := decide_eq_false (by omega)
              have e4 : decide (i ≤ zn) = false := decide_eq_false (by omega)
              obtain ⟨p1, p2, _, p4⟩ := own_cellV HQ.out (rowK_get L n i ((kids x).take j) (show zn < n by omega))
              by_cases hu0 : 0 < uses (L.take i) (zn : Int) + ((kids x).take j).count (zn : Int)
              · rw [decide_eq_true hu0] at p1
                have HNO := Lib.hid (show ¬ SoundL L by
                  intro h
                  have h1 := h.2.2 zn (by rw [HLN.out]; omega)
                  have h2 := uses_more HX.out (zn : Int)
                  have h3 : ((kids x).take (j + 1)).count (zn : Int) ≤ (kids x).count (zn : Int) := (List.take_sublist _ _).count_le _
                  rw [hzt, List.count_append, List.count_cons_self, List.count_nil] at h3
                  omega)
                clear hz hzm hzt hu0 hbad
                go_wp2_with fail
                go_ret
                exact ⟨false, rfl, iff_of_false Bool.noConfusion HNO.out, HB4.out⟩
              · rw [decide_eq_false hu0] at p1
                have hp := own_put HQ.out zn (.bool true)
                rw [rowK_set L n i _ zn, ← hzt] at hp
                have HP := Lib.hid hp
                have HI2 := Lib.hid (show ∀ k ∈ (kids x).take (j + 1), 0 ≤ k ∧ k < (i : Int) from fun k hk => by
                  rw [hzt, List.mem_append, List.mem_singleton] at hk
                  rcases hk with hk | rfl
                  · exact HI.out k hk
                  · omega)
                have HV2 := Lib.hid (show ∀ m : Nat, m < n → uses (L.take i) (m : Int) + ((kids x).take (j + 1)).count (m : Int) ≤ 1 from fun m hm => by
                  rw [hzt, List.count_append]
                  by_cases hmz : m = zn
                  · subst hmz
                    rw [List.count_cons_self, List.count_nil]; omega
                  · rw [List.count_cons_of_ne (by simpa using fun e => hmz (by omega)), List.count_nil]
                    have := HV.out m hm; omega)
                clear hz hzm hzt hp hu0 hbad
                go_wp2_with fail
                go_roundw
                case rel => exact ⟨j + 1, congrArg (Value.int .i64) (by omega), hjk, congrArg (Value.int .i64) (by omega), HI2, HV2, HP, Lib.hid (grown_trans HGQ.out (grown_set0 wr g zn _) (fun k hk => .inl hk))⟩
                case measure => simp [intOf]; omega
          · have e1 : decide (j < kl) = false := decide_eq_false hjk
            obtain rfl : j = kl := by omega
            have hall : (kids x).take j = kids x := List.take_of_length_le (by rw [HKL.out]; exact Nat.le_refl _)
            have hq := HQ.out
            rw [hall, rowK_next L n i HX.out] at hq
            have HQ2 := Lib.hid hq
            have HTN := Lib.hid (show SoundTo L (i + 1) from fun k y hk hy => by
              by_cases hki : k < i
              · exact HT.out k y hki hy
              · obtain rfl : k = i := by omega
                rw [HX.out] at hy
                injection hy with hy
                subst hy
                have := HI.out
                rw [hall] at this
                exact ⟨HFX.out, this⟩)
            have HU2 := Lib.hid (show ∀ m : Nat, m < n → uses (L.take (i + 1)) (m : Int) ≤ 1 from fun m hm => by
              have := HV.out m hm
              rw [hall] at this
              rw [List.take_add_one, HX.out, Option.toList_some, uses_append, uses_one]
              exact this)
            have HTK2 := Lib.hid (show totK L (i + 1) = tk + j by rw [totK_next HX.out, HTK.out, HKL.out])
            clear hq hall
            go_wp2_with fail
            go_roundw
            case rel => exact ⟨i + 1, congrArg (Value.int .i64) (by omega), hin, congrArg (Value.int .i64) (by rw [HTK2.out]; omega), HTN, HU2, HQ2, Lib.hid (grown_trans HG3.out HGQ.out (fun k hk => .inl hk))⟩
            case measure => simp [intOf]; omega
    · have d1 : decide (i < n) = false := decide_eq_false hin
      obtain rfl : i = n := by omega
      have HYES := Lib.hid (roots_sound HLN.out HT.out (fun m hm => by have := HU.out m hm; rw [List.take_of_length_le (by rw [HLN.out]; exact Nat.le_refl _)] at this; exact this))
      rw [HTK.out] at HYES
      by_cases h1 : (i : Int) - (tk : Int) = 1
      · have e1 : ((i : Int) - (tk : Int) == 1) = true := by simpa using h1
        have HYS := Lib.hid (HYES.out.1 h1)
        clear h1 HYES
        go_wp2_with fail
        go_ret
        exact ⟨true, rfl, iff_of_true rfl HYS.out, HB2.out⟩
      · have e1 : ((i : Int) - (tk : Int) == 1) = false := beq_eq_false_iff_ne.2 h1
        have HNO := Lib.hid (fun h => h1 (HYES.out.2 h))
        clear h1 HYES
        go_wp2_with fail
        go_ret
        exact ⟨false, rfl, iff_of_false Bool.noConfusion HNO.out, HB2.out⟩
end Go.Proofs.Ytceeimolfalmpaa
