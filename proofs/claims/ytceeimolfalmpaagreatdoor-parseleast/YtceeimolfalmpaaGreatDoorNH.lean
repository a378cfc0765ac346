/-
  What the page's own Parse answers. Conditions: the text has at most 1000 bytes.
-/
import Derived.Test.YtceeimolfalmpaaGreatDoorNY
import Derived.Test.YtceeimolfalmpaaGreatDoorPY
import Derived.Test.YtceeimolfalmpaaGreatDoorPI
import Derived.Test.YtceeimolfalmpaaGreatDoorPJ
namespace Go.Proofs.YtceeimolfalmpaaGreatDoor.T
open Go.RowKit ObUtf ObSets ObTree ObParse
open Go.Proofs.YtceeimolfalmpaaGreatDoor (tv fv fo Tr Tk FlOf RetO rwords2_any)

theorem nb_ret {w : World} {b r0 r1 : Nat} {v : Value} {L : List Nd} (h : Nb w b v L) (h0 : w.heap[r0]? = some (.cells #[.slice none 0 0] 29)) (h1 : w.heap[r1]? = some fo) (hr : r0 ≠ r1) (l0 : r0 < b) (l1 : r1 < b) (u : Value) : Nb (((w.setCell ⟨r0, 0, none⟩ u).setCell ⟨r1, 0, none⟩ (.int .i64 0)).setCell ⟨r1, 1, none⟩ (.int .i64 0)) b v L := by
  obtain ⟨t0, _⟩ := blk1a h0
  obtain ⟨f0, f1, _, _⟩ := blk2 h1
  have n0 : ∀ k, (⟨r0, 0, none⟩ : Addr) ≠ ⟨r1, k, none⟩ := fun k e => hr (by injection e)
  have m0 := keep1 (v := u) t0 f0 (fun e => absurd e (n0 0))
  have m1 := keep1 (v := u) t0 f1 (fun e => absurd e (n0 1))
  have m2 := keep1 (v := .int .i64 0) m0 m1 (fun e => by injection e with _ e; cases e)
  have key : ∀ (q : Addr) (z : Int), w.cell? q = some (.int .i64 z) → (((w.setCell ⟨r0, 0, none⟩ u).setCell ⟨r1, 0, none⟩ (.int .i64 0)).setCell ⟨r1, 1, none⟩ (.int .i64 0)).cell? q = some (.int .i64 z) := fun q z hq => by
    have k0 := keep1 (v := u) t0 hq (fun e => by subst e; rw [t0] at hq; cases hq)
    have k1 := keep1 (v := .int .i64 0) m0 k0 (fun e => by subst e; rw [m0] at k0; injection k0 with k0; exact k0.symm)
    exact keep1 (v := .int .i64 0) m2 k1 (fun e => by subst e; rw [m2] at k1; injection k1 with k1; exact k1.symm)
  obtain ⟨M, e, hown, hob, hs⟩ := h
  have ho0 : v.ownBlock ≠ some r0 := fun e => by have := hob _ e; omega
  have ho1 : v.ownBlock ≠ some r1 := fun e => by have := hob _ e; omega
  refine ⟨M, e, ownsRow_setCell_other (ownsRow_setCell_other (ownsRow_setCell_other hown ho0 _) ho1 _) ho1 _, hob, fun p hp => ?_⟩
  obtain ⟨As, ks, e2, hrg, hf⟩ := hs p hp
  refine ⟨As, ks, e2, fun hn => ?_, hf⟩
  obtain ⟨c, off, e3, hb, hc⟩ := hrg hn
  exact ⟨c, off, e3, by simpa [World.setCell] using hb, fun j r hj => ⟨key _ _ (hc j r hj).1, key _ _ (hc j r hj).2⟩⟩
theorem Nb.reads {w : World} {b n k : Nat} {A : Option Addr} {l : List Nd} (h : Nb w b (.slice A n k) l) : Nr w A l := by
  intro hne
  obtain ⟨L, rfl, h2, _, h3⟩ := h
  rcases h2.2 with ⟨_, hn⟩ | ⟨g, cap, cur, hv, hbg, hg, rest⟩
  · exact absurd (by rw [List.eq_nil_of_length_eq_zero hn]; rfl) hne
  · injection hv with hv1 hv2 hv3
    subst hv1
    refine ⟨g, 0, rfl, lt_of_heap hg, fun j x hx => ?_⟩
    rw [List.getElem?_map] at hx
    cases hp : L[j]? with
    | none => rw [hp] at hx; cases hx
    | some p =>
      rw [hp] at hx
      simp at hx
      subst hx
      obtain ⟨c0, c1, c2, c3, c4, c5, c6⟩ := cellsN_at L j p hp
      have hc := World.ownsRow.cells h2 (g := g) rfl
      have e : ∀ k, (⟨g, 0, none⟩ : Addr).add k = ⟨g, 0 + k, none⟩ := fun k => by unfold Addr.add; split <;> simp_all
      obtain ⟨As, ks, es, hr, _⟩ := h3 p (List.mem_of_getElem? hp)
      have d0 := hc _ _ c0; have d1 := hc _ _ c1; have d2 := hc _ _ c2; have d3 := hc _ _ c3; have d4 := hc _ _ c4; have d5 := hc _ _ c5; have d6 := hc _ _ c6
      rw [e] at d0 d1 d2 d3 d4 d5 d6
      rw [es] at d3
      exact ⟨As, ks, ⟨d0, d1, d2, d3, d4, d5, d6⟩, hr⟩
/-- What the page's own Parse hands back. -/
def RetPr (s : ByteArray) (w : World) (e : Ending) (w' : World) : Prop :=
  ∃ W x a, ObLex.Ahead s W ∧ FlOf (ObLex.toks s 0) x a ∧ Below w.heap.size w w' ∧
    match fin W with
    | .error (some (er, q)) => e = .returned (.tuple #[tree0, fv er q])
    | .error none => e = .returned (.tuple #[tree0, if x = 0 then fv 4 (s.size : Int) else fv x a])
    | .ok s' => if x = 0 then ∃ A c, e = .returned (.tuple #[.agg #[.slice A s'.L.length c], fv 0 0]) ∧ Nr w' A s'.L else e = .returned (.tuple #[tree0, fv x a])
set_option maxHeartbeats 4000000 in
set_option maxRecDepth 100000 in
theorem rparse_any (s : ByteArray) (w : World) (hs : s.size ≤ 1000) : Calls Tryz.prog 33 #[.string s] w (RetPr s w) := by
  have HWO := Lib.hid (fun (W : World) => rwords2_any s W (by omega))
  go_enter Tryz.func33, Tryz.ntmps33
  go_wp2_with fail
  refine Calls.mono (HWO.out _) ?_
  rintro e w1 ⟨A, l, k, x, a, rfl, hk, hb, ha, hf⟩
  have hb0 : Below w.heap.size w ((w.alloc (.cells #[.slice none 0 0] 29)).alloc fo) := ((Below.refl _ w).alloc (Nat.le_refl _) _).alloc (by simp) _
  have hT0 : w1.heap[w.heap.size]? = some (.cells #[.slice none 0 0] 29) := keepL (keepL (heap_new w _) ((Below.refl _ _).alloc (Nat.le_refl _) fo)) hb
  have hF0 : w1.heap[w.heap.size + 1]? = some fo := by
    have h1 := heap_new (w.alloc (.cells #[.slice none 0 0] 29)) fo
    rw [show (w.alloc (.cells #[.slice none 0 0] 29)).heap.size = w.heap.size + 1 by simp] at h1
    exact keepL h1 hb
  have hsz : w.heap.size + 2 ≤ w1.heap.size := by have := hb.size; simp at this; omega
  have hB1 : Below w.heap.size w w1 := hb0.trans (hb.mono (by simp; omega))
  have hgood := ha.good
  have hlen : l.length ≤ 1000 := by have := hgood.1; omega
  have hfew := ha.few
  have HFEW := Lib.hid hfew
  have hset : ∀ t ∈ l, t.set.length ≤ 1000000 := fun t ht => by have := (hfew t ht).1; omega
  have HA := Lib.hid ha; have HFL := Lib.hid hf
  obtain ⟨cu, hcu⟩ : ∃ cu : Bool, cu = (x != 0) := ⟨_, rfl⟩
  obtain ⟨W2, hW2⟩ : ∃ W2, W2 = (w1.alloc (.cells #[.int .i64 x, .int .i64 a] 34)).alloc (pdO A l.length k 0 (s.size : Int) (x != 0) (.slice none 0 0) (.int .i64 0) (.int .i64 0) (.int .i64 0) (.int .i64 0)) := ⟨_, rfl⟩
  have HPT : Hid (Pt W2 (w1.heap.size + 1) A k l s.size cu ⟨0, [], 0⟩ 0) := by
    refine Lib.hid ⟨⟨none, 0, ?_, Nb.nil _ _, ?_, Nat.zero_le _⟩, Nat.zero_le _⟩
    · subst hW2 hcu
      have h1 := heap_new (w1.alloc (.cells #[.int .i64 x, .int .i64 a] 34)) (pdO A l.length k 0 (s.size : Int) (x != 0) (.slice none 0 0) (.int .i64 0) (.int .i64 0) (.int .i64 0) (.int .i64 0))
      rw [show (w1.alloc (.cells #[.int .i64 x, .int .i64 a] 34)).heap.size = w1.heap.size + 1 by simp] at h1
      exact h1
    · subst hW2
      exact wr_up ((wr_tr (Tk.reads hk) (Nat.le_refl _)).below (((Below.refl _ _).alloc (Nat.le_refl _) _).alloc (by simp) _)) (Nat.le_succ _)
  have HC2 : Hid (W2.heap[w1.heap.size]? = some (.cells #[.int .i64 x, .int .i64 a] 34)) := by
    subst hW2
    exact Lib.hid (keepL (heap_new w1 _) ((Below.refl _ _).alloc (Nat.le_refl _) _))
  have HB2 : Hid (Below w1.heap.size w1 W2) := by
    subst hW2
    exact Lib.hid (((Below.refl _ _).alloc (Nat.le_refl _) _).alloc (by simp) _)
  have HT1 := Lib.hid (keepL hT0 HB2.out)
  have HF1 := Lib.hid (keepL hF0 HB2.out)
  have HB1 := Lib.hid hB1
  have HAL := Lib.hid (palts_any (M := 2000) hset hlen (by omega) 64 0 (by omega) W2 _ HPT.out (by simp; omega))
  have hfit := fun s' a => alt_fit (alts_fit l 64) ⟨0, [], 0⟩ s' a (Nat.zero_le _)
  have HW2 := Lib.hid hW2
  generalize hn : l.length = n at *
  clear HPT hb0 hT0 hF0 hk hb hgood hfew hset HWO ha hf hB1 hW2
  go_wp2_with fail
  rw [← HW2.out]
  refine Calls.mono HAL.out ?_
  rintro e w2 ⟨hb2, hok, herr⟩
  have HT2 := Lib.hid ((hb2.block _ (by omega)).trans HT1.out)
  have HF2 := Lib.hid ((hb2.block _ (by omega)).trans HF1.out)
  have HC3 := Lib.hid ((hb2.block _ (by omega)).trans HC2.out)
  have HBW := Lib.hid ((HB1.out.trans (HB2.out.mono (by omega))).trans (hb2.mono (by omega)))
  have hs1 := lt_of_heap HC3.out
  clear hb2 HC2 HT1 HF1 HB1 HB2 HAL HW2
  cases hp : AL l 64 ⟨0, [], 0⟩ with
  | error er =>
    obtain ⟨⟨z, rfl⟩, hj⟩ := herr er hp
    have HFIN := Lib.hid (fin_err hp)
    obtain ⟨A4, c4, n4, l4, kk4, cp4, e4, f4, _, _, q3, _, _, q6, _, _⟩ := id hj
    obtain ⟨⟨_, _, _, _, _, _, _, b7, _⟩, _⟩ := blk9 q3
    have en : (e4 == 0) = false := beq_eq_false_iff_ne.2 q6
    have HJ0 := Lib.hid hj
    clear hok herr hp hj q3 q6 hfit
    go_wp2_with fail
    go_quiet (fail)
    have hd := below_drews (Below.refl w2.heap.size w2) nq
    have HJ := Lib.hid (HJ0.out.below (Nat.le_refl _) hd)
    have HTJ := Lib.hid (keepL HT2.out hd)
    have HFJ := Lib.hid (keepL HF2.out hd)
    have HCJ := Lib.hid (keepL HC3.out hd)
    have HBJ := Lib.hid (HBW.out.trans (hd.mono (HBW.out.size)))
    clear hd HT2 HF2 HC3 HBW b7 en HJ0
    generalize w2.drewN nq = wj at *
    obtain ⟨A3, c3, n3, l3, kk, cp, e3, f3, q1, q2, q3, q4, q5, q6, q7, q8⟩ := HJ.out
    obtain ⟨⟨_, _, b2, b3, _, _, _, b7, b8⟩, bf⟩ := blk9 q3
    obtain ⟨t0, t1⟩ := blk1a HTJ.out
    obtain ⟨f0, f1, f2, f3'⟩ := blk2 HFJ.out
    obtain ⟨g0, g1, g2, g3⟩ := blk2 HCJ.out
    have en : (e3 == 0) = false := beq_eq_false_iff_ne.2 q6
    have en2 : (e3 != 0) = true := by simpa using q6
    clear q1 q2 q3 q4 q5 bf
    cases er with
    | some y =>
      obtain ⟨er, q⟩ := y
      obtain ⟨rfl, rfl, tt, htt, hqt⟩ := q7 _ rfl
      obtain ⟨kq, hkq, hlq⟩ := (HFEW.out tt htt).2
      have ene : (f3 == (s.size : Int)) = false := beq_eq_false_iff_ne.2 (by dsimp only at hqt; rw [hqt, hkq]; omega)
      clear q7 q8 hqt hkq htt q6 tt
      by_cases hx : x = 0
      · have hcf : cu = false := by rw [hcu, hx]; rfl
        rw [hcf] at b3
        have HX := Lib.hid hx
        clear hx hcf hcu
        go_wp2_with fail
        go_quiet (fail)
        go_wp2_with fail
        go_region
        all_goals (
          go_wp2_with fail
          refine bodyPost_ret (v := .tuple #[tree0, fv e3 f3]) ?_ rfl ⟨l, x, a, HA.out, HFL.out, ?_, ?_⟩
          · rw [results_cc rfl]; go_simp
          · repeat' (first | with_reducible exact HBJ.out | with_reducible refine Below.drew ?_ | with_reducible refine below_drews ?_ _ | with_reducible refine Below.setCell ?_ ?_ _ | (simp; done) | (simp; omega))
          · rw [HFIN.out])
      · have hcf : cu = true := by rw [hcu]; simpa using hx
        rw [hcf] at b3
        have HX := Lib.hid hx
        clear hx hcf hcu
        go_wp2_with fail
        go_quiet (fail)
        go_wp2_with fail
        go_region
        all_goals (
          go_wp2_with fail
          refine bodyPost_ret (v := .tuple #[tree0, fv e3 f3]) ?_ rfl ⟨l, x, a, HA.out, HFL.out, ?_, ?_⟩
          · rw [results_cc rfl]; go_simp
          · repeat' (first | with_reducible exact HBJ.out | with_reducible refine Below.drew ?_ | with_reducible refine below_drews ?_ _ | with_reducible refine Below.setCell ?_ ?_ _ | (simp; done) | (simp; omega))
          · rw [HFIN.out])
    | none =>
      obtain ⟨rfl, rfl⟩ := q8 rfl
      clear q7 q8 q6
      by_cases hx : x = 0
      · have hcf : cu = false := by rw [hcu, hx]; rfl
        rw [hcf] at b3
        have HX := Lib.hid hx
        clear hx hcf hcu
        go_wp2_with fail
        go_quiet (fail)
        go_wp2_with fail
        go_region
        all_goals (
          go_wp2_with fail
          refine bodyPost_ret (v := .tuple #[tree0, fv 4 (s.size : Int)]) ?_ rfl ⟨l, x, a, HA.out, HFL.out, ?_, ?_⟩
          · rw [results_cc rfl]; go_simp
          · repeat' (first | with_reducible exact HBJ.out | with_reducible refine Below.drew ?_ | with_reducible refine below_drews ?_ _ | with_reducible refine Below.setCell ?_ ?_ _ | (simp; done) | (simp; omega))
          · rw [HFIN.out]; dsimp only; rw [if_pos HX.out])
      · have hcf : cu = true := by rw [hcu]; simpa using hx
        rw [hcf] at b3
        have HX := Lib.hid hx
        clear hx hcf hcu
        go_wp2_with fail
        go_quiet (fail)
        go_wp2_with fail
        go_region
        all_goals (
          go_wp2_with fail
          refine bodyPost_ret (v := .tuple #[tree0, fv x a]) ?_ rfl ⟨l, x, a, HA.out, HFL.out, ?_, ?_⟩
          · rw [results_cc rfl]; go_simp
          · repeat' (first | with_reducible exact HBJ.out | with_reducible refine Below.drew ?_ | with_reducible refine below_drews ?_ _ | with_reducible refine Below.setCell ?_ ?_ _ | (simp; done) | (simp; omega))
          · rw [HFIN.out]; dsimp only; rw [if_neg HX.out])
  | ok p =>
    obtain ⟨s', a'⟩ := p
    obtain ⟨_, rfl, hs⟩ := hok s' a' hp
    obtain ⟨g1, g2, g3, g4⟩ := hfit s' a' hp
    have HS := Lib.hid hs
    obtain ⟨⟨A4, c4, q1, _, _, q4⟩, _⟩ := hs
    obtain ⟨⟨b0, b1, _, _, _, _, _, b7, _⟩, _⟩ := blk9 q1
    by_cases hlt : s'.k < n
    · obtain ⟨t, ht⟩ : ∃ t, l[s'.k]? = some t := ⟨_, List.getElem?_eq_getElem (by omega)⟩
      have HFIN := Lib.hid (show fin l = .error (some (4, t.at_)) by rw [fin_cut hp (by rw [hn]; exact hlt)]; unfold at_; rw [ht])
      have HT := Lib.hid ht
      have hlt' : (s'.k : Int) < (n : Int) := by omega
      have d1 : decide (s'.k < n) = true := decide_eq_true hlt
      rw [hn] at b0
      have hz := HS.out.lt
      clear hok herr hp ht q1 q4 hfit
      go_wp2_with fail
      go_quiet (fail)
      have hd := below_drews (Below.refl w2.heap.size w2) nq
      have hs2 := HS.out.below hd
      have HFC := Lib.hid (pt_fails (m := 3000) hs2 HT.out (why := 4) (by decide) (by simp only [List.length_nil] at g3; omega))
      have HTJ0 := Lib.hid (keepL HT2.out hd)
      have HFJ0 := Lib.hid (keepL HF2.out hd)
      have HCJ0 := Lib.hid (keepL HC3.out hd)
      have HBJ0 := Lib.hid (HBW.out.trans (hd.mono (HBW.out.size)))
      clear hd hs2
      go_wp2_with fail
      refine HFC.out.mono ?_
      rintro e3 wj ⟨rfl, hj3, hb3⟩
      have HJ := Lib.hid hj3
      have HTJ := Lib.hid ((hb3.block _ (by omega)).trans HTJ0.out)
      have HFJ := Lib.hid ((hb3.block _ (by omega)).trans HFJ0.out)
      have HCJ := Lib.hid ((hb3.block _ (by omega)).trans HCJ0.out)
      have HBJ := Lib.hid (HBJ0.out.trans (hb3.mono (by omega)))
      clear hj3 hb3 HT2 HF2 HC3 HBW HTJ0 HFJ0 HCJ0 HBJ0 b0 b1 b7 HS
      obtain ⟨er, her⟩ : ∃ er : Er, er = some (4, t.at_) := ⟨_, rfl⟩
      rw [← her] at HJ HFIN
      clear her HT
      obtain ⟨A3, c3, n3, l3, kk, cp, e3, f3, q1, q2, q3, q4, q5, q6, q7, q8⟩ := HJ.out
      obtain ⟨⟨_, _, b2, b3, _, _, _, b7, b8⟩, bf⟩ := blk9 q3
      obtain ⟨t0, t1⟩ := blk1a HTJ.out
      obtain ⟨f0, f1, f2, f3'⟩ := blk2 HFJ.out
      obtain ⟨g0, g1, g2, g3⟩ := blk2 HCJ.out
      have en : (e3 == 0) = false := beq_eq_false_iff_ne.2 q6
      have en2 : (e3 != 0) = true := by simpa using q6
      clear q1 q2 q3 q4 q5 bf
      cases er with
      | some y =>
        obtain ⟨er, q⟩ := y
        obtain ⟨rfl, rfl, tt, htt, hqt⟩ := q7 _ rfl
        obtain ⟨kq, hkq, hlq⟩ := (HFEW.out tt htt).2
        have ene : (f3 == (s.size : Int)) = false := beq_eq_false_iff_ne.2 (by dsimp only at hqt; rw [hqt, hkq]; omega)
        clear q7 q8 hqt hkq htt q6 tt
        by_cases hx : x = 0
        · have hcf : cu = false := by rw [hcu, hx]; rfl
          rw [hcf] at b3
          have HX := Lib.hid hx
          clear hx hcf hcu
          go_wp2_with fail
          go_quiet (fail)
          go_wp2_with fail
          go_region
          all_goals (
            go_wp2_with fail
            refine bodyPost_ret (v := .tuple #[tree0, fv e3 f3]) ?_ rfl ⟨l, x, a, HA.out, HFL.out, ?_, ?_⟩
            · rw [results_cc rfl]; go_simp
            · repeat' (first | with_reducible exact HBJ.out | with_reducible refine Below.drew ?_ | with_reducible refine below_drews ?_ _ | with_reducible refine Below.setCell ?_ ?_ _ | (simp; done) | (simp; omega))
            · rw [HFIN.out])
        · have hcf : cu = true := by rw [hcu]; simpa using hx
          rw [hcf] at b3
          have HX := Lib.hid hx
          clear hx hcf hcu
          go_wp2_with fail
          go_quiet (fail)
          go_wp2_with fail
          go_region
          all_goals (
            go_wp2_with fail
            refine bodyPost_ret (v := .tuple #[tree0, fv e3 f3]) ?_ rfl ⟨l, x, a, HA.out, HFL.out, ?_, ?_⟩
            · rw [results_cc rfl]; go_simp
            · repeat' (first | with_reducible exact HBJ.out | with_reducible refine Below.drew ?_ | with_reducible refine below_drews ?_ _ | with_reducible refine Below.setCell ?_ ?_ _ | (simp; done) | (simp; omega))
            · rw [HFIN.out])
      | none =>
        obtain ⟨rfl, rfl⟩ := q8 rfl
        clear q7 q8 q6
        by_cases hx : x = 0
        · have hcf : cu = false := by rw [hcu, hx]; rfl
          rw [hcf] at b3
          have HX := Lib.hid hx
          clear hx hcf hcu
          go_wp2_with fail
          go_quiet (fail)
          go_wp2_with fail
          go_region
          all_goals (
            go_wp2_with fail
            refine bodyPost_ret (v := .tuple #[tree0, fv 4 (s.size : Int)]) ?_ rfl ⟨l, x, a, HA.out, HFL.out, ?_, ?_⟩
            · rw [results_cc rfl]; go_simp
            · repeat' (first | with_reducible exact HBJ.out | with_reducible refine Below.drew ?_ | with_reducible refine below_drews ?_ _ | with_reducible refine Below.setCell ?_ ?_ _ | (simp; done) | (simp; omega))
            · rw [HFIN.out]; dsimp only; rw [if_pos HX.out])
        · have hcf : cu = true := by rw [hcu]; simpa using hx
          rw [hcf] at b3
          have HX := Lib.hid hx
          clear hx hcf hcu
          go_wp2_with fail
          go_quiet (fail)
          go_wp2_with fail
          go_region
          all_goals (
            go_wp2_with fail
            refine bodyPost_ret (v := .tuple #[tree0, fv x a]) ?_ rfl ⟨l, x, a, HA.out, HFL.out, ?_, ?_⟩
            · rw [results_cc rfl]; go_simp
            · repeat' (first | with_reducible exact HBJ.out | with_reducible refine Below.drew ?_ | with_reducible refine below_drews ?_ _ | with_reducible refine Below.setCell ?_ ?_ _ | (simp; done) | (simp; omega))
            · rw [HFIN.out]; dsimp only; rw [if_neg HX.out])
    · have HFIN := Lib.hid (fin_ok hp (by rw [hn]; exact hlt))
      have d1 : decide (s'.k < n) = false := decide_eq_false hlt
      have hge : (n : Int) ≤ (s'.k : Int) := by omega
      rw [hn] at b0
      have hz := HS.out.lt
      clear hok herr hp q1 q4 hfit
      go_wp2_with fail
      go_quiet (fail)
      have hd := below_drews (Below.refl w2.heap.size w2) nq
      have HS2 := Lib.hid (HS.out.below hd)
      have HTJ := Lib.hid (keepL HT2.out hd)
      have HFJ := Lib.hid (keepL HF2.out hd)
      have HCJ := Lib.hid (keepL HC3.out hd)
      have HBJ := Lib.hid (HBW.out.trans (hd.mono (HBW.out.size)))
      clear hd HT2 HF2 HC3 HBW b0 b1 b7 HS hz
      generalize w2.drewN nq = wj at *
      obtain ⟨⟨A5, c5, q1, q2, _, _⟩, _⟩ := HS2.out
      obtain ⟨⟨_, _, b2, b3, b4, _, _, b7, b8⟩, _⟩ := blk9 q1
      obtain ⟨t0, t1⟩ := blk1a HTJ.out
      obtain ⟨f0, f1, f2, f3⟩ := blk2 HFJ.out
      obtain ⟨g0', g1', g2', g3'⟩ := blk2 HCJ.out
      have HNB := Lib.hid q2
      clear q1 q2
      by_cases hx : x = 0
      · have hcf : cu = false := by rw [hcu, hx]; rfl
        rw [hcf] at b3
        have HX := Lib.hid hx
        clear hx hcf hcu
        go_wp2_with fail
        go_quiet (fail)
        have hdj := below_drews (Below.refl wj.heap.size wj) nq
        have HNR := Lib.hid ((nb_ret (HNB.out.below hdj) (keepL HTJ.out hdj) (keepL HFJ.out hdj) (by omega) (by omega) (by omega) (.slice A5 s'.L.length c5)).reads)
        clear hdj
        go_wp2_with fail
        refine bodyPost_ret (v := .tuple #[.agg #[.slice A5 s'.L.length c5], fv 0 0]) ?_ rfl ⟨l, x, a, HA.out, HFL.out, ?_, ?_⟩
        · rw [results_cc rfl]; go_simp
        · repeat' (first | with_reducible exact HBJ.out | with_reducible refine Below.drew ?_ | with_reducible refine below_drews ?_ _ | with_reducible refine Below.setCell ?_ ?_ _ | (simp; done) | (simp; omega))
        · rw [HFIN.out]; dsimp only; rw [if_pos HX.out]; exact ⟨A5, c5, rfl, HNR.out⟩
      · have hcf : cu = true := by rw [hcu]; simpa using hx
        rw [hcf] at b3
        have HX := Lib.hid hx
        clear hx hcf hcu
        go_wp2_with fail
        go_quiet (fail)
        go_wp2_with fail
        go_region
        all_goals (
          go_wp2_with fail
          refine bodyPost_ret (v := .tuple #[tree0, fv x a]) ?_ rfl ⟨l, x, a, HA.out, HFL.out, ?_, ?_⟩
          · rw [results_cc rfl]; go_simp
          · repeat' (first | with_reducible exact HBJ.out | with_reducible refine Below.drew ?_ | with_reducible refine below_drews ?_ _ | with_reducible refine Below.setCell ?_ ?_ _ | (simp; done) | (simp; omega))
          · rw [HFIN.out]; dsimp only; rw [if_neg HX.out])
end Go.Proofs.YtceeimolfalmpaaGreatDoor.T
