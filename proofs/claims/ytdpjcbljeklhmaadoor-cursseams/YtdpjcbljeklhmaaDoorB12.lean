/-
  What drop leaves: the text without the bytes between two places, in chunks as they should be.
-/
import Derived.Test.YtdpjcbljeklhmaaDoorB11
namespace ObGap
theorem snd_le {m : Nat} {T : List Bs} (h : Snd m T) {f t : Nat} (hft : f ≤ t) : ∀ x ∈ del T f t, x.length ≤ m := by
  intro x hx
  obtain ⟨i, hi, rfl⟩ := List.mem_iff_getElem.1 hx
  rw [del_len] at hi
  have e := del_at T f t i hi
  rw [List.getElem?_eq_getElem (by rw [del_len]; exact hi)] at e
  injection e with e
  rw [e]
  have := (h.1 T[i] (List.getElem_mem hi)).2
  simp only [List.length_append, List.length_take, List.length_drop]
  omega
theorem wth_le {T : List Bs} {a b i j : Nat} (hab : a ≤ b) (hi : Wth T a i) (hj : Wth T b j) (hjn : j < T.length) : i ≤ j := by
  rcases Nat.lt_or_ge j i with h | h
  · have h1 := hj.2.2 hjn
    have h2 := hi.2.1
    have h3 := st_mono (T := T) (show j + 1 ≤ i by omega)
    omega
  · exact h
/-- Deleted and mended, the chunks are as they should be. -/
theorem drop_snd {m : Nat} {T : List Bs} {f t fi la hi : Nat} (hT : Snd m T) (hft : f < t) (ht : t ≤ T.flatten.length) (hfi : Wth T f fi) (hla : Wth T (t - 1) la) (hhi : hi = min (la + 2) T.length) :
    Snd m ((del T f t).take (fi - 1) ++ (mnd m (((del T f t).drop (fi - 1)).take (hi - (fi - 1))) ++ (del T f t).drop hi)) := by
  have hlan := hla.in_ (by omega)
  have hfl := wth_le (by omega) hfi hla hlan
  have hl1 : t ≤ st T (la + 1) := by have := hla.2.2 hlan; omega
  have e1 : (del T f t).take (fi - 1) = T.take (fi - 1) := del_low (Nat.le_trans (st_mono (by omega)) hfi.2.1) (by omega)
  have e2 : (del T f t).drop hi = T.drop hi := del_high (Nat.le_trans hl1 (st_mono (by omega))) (by omega)
  have hD := snd_le hT (Nat.le_of_lt hft)
  have hlen := del_len T f t
  have e3 : (del T f t).take fi = T.take fi := del_low hfi.2.1 (by omega)
  have e4 : (del T f t).drop (la + 1) = T.drop (la + 1) := del_high hl1 (by omega)
  generalize del T f t = D at *
  have a3 : ∀ i, i < fi → D[i]? = T[i]? := fun i hi => by
    have := congrArg (fun l => l[i]?) e3
    simpa [List.getElem?_take, hi] using this
  have a4 : ∀ i, la + 1 ≤ i → D[i]? = T[i]? := fun i hi => by
    have := congrArg (fun l => l[i - (la + 1)]?) e4
    simp only [List.getElem?_drop] at this
    rwa [show la + 1 + (i - (la + 1)) = i by omega] at this
  rw [e1, e2]
  have hRm : ∀ c ∈ (D.drop (fi - 1)).take (hi - (fi - 1)), c.length ≤ m := fun c hc => hD c (List.mem_of_mem_drop (List.mem_of_mem_take hc))
  have hA : Snd m (T.take (fi - 1)) := snd_left (B := T.drop (fi - 1)) (by rw [List.take_append_drop]; exact hT)
  have hB : Snd m (T.drop hi) := snd_right (A := T.take hi) (by rw [List.take_append_drop]; exact hT)
  -- the first one, if there are others ahead
  have hfst : 1 ≤ fi - 1 → ∃ r R', (D.drop (fi - 1)).take (hi - (fi - 1)) = r :: R' ∧ T[fi - 1]? = some r ∧ 1 ≤ r.length := fun h => by
    have hn : fi - 1 < D.length := by omega
    have e : D.drop (fi - 1) = D[fi - 1] :: D.drop (fi - 1 + 1) := List.drop_eq_getElem_cons hn
    obtain ⟨q, hq⟩ : ∃ q, hi - (fi - 1) = q + 1 := ⟨hi - (fi - 1) - 1, by omega⟩
    refine ⟨D[fi - 1], _, by rw [e, hq, List.take_succ_cons], ?_, ?_⟩
    · rw [← a3 _ (by omega), List.getElem?_eq_getElem hn]
    · have h1 := a3 (fi - 1) (by omega)
      rw [List.getElem?_eq_getElem hn] at h1
      exact (hT.1 _ (List.mem_of_getElem? h1.symm)).1
  have hlst : hi < T.length → ∃ r R', (D.drop (fi - 1)).take (hi - (fi - 1)) = R' ++ [r] ∧ T[hi - 1]? = some r ∧ 1 ≤ r.length := fun h => by
    clear hfst
    have hhi2 : hi = la + 2 := by omega
    have hn : la + 1 < D.length := by omega
    obtain ⟨q, hq⟩ : ∃ q, hi - (fi - 1) = q + 1 := ⟨hi - (fi - 1) - 1, by omega⟩
    have hn2 : q < (D.drop (fi - 1)).length := by rw [List.length_drop]; omega
    have hr : (D.drop (fi - 1))[q] = D[la + 1] := by
      rw [List.getElem_drop]
      congr 1; omega
    have h1 := a4 (la + 1) (Nat.le_refl _)
    rw [List.getElem?_eq_getElem hn] at h1
    refine ⟨D[la + 1], (D.drop (fi - 1)).take q, ?_, ?_, (hT.1 _ (List.mem_of_getElem? h1.symm)).1⟩
    · rw [hq, List.take_succ_eq_append_getElem hn2, hr]
    · rw [show hi - 1 = la + 1 by omega]; exact h1.symm
  refine snd_three hA (mnd_snd hRm) hB ?_ (fun a A' k K' eA eK => ?_) (fun k K' b B' eK eB => ?_)
  · rcases Nat.lt_or_ge 1 fi with h | h
    · obtain ⟨r, R', e, _, hr⟩ := hfst (by omega)
      obtain ⟨k, K, ek, _⟩ := mnd_head (m := m) (R := R') hr
      rw [e, ek]; exact .inl (by simp)
    · right; left
      rw [show fi - 1 = 0 by omega]; rfl
  · have hlo : 1 ≤ fi - 1 := by
      rcases Nat.eq_zero_or_pos (fi - 1) with h | h
      · rw [h] at eA; simp at eA
      · exact h
    obtain ⟨r, R', e, hr, hr1⟩ := hfst hlo
    obtain ⟨k1, K1, ek, hk1⟩ := mnd_head (m := m) (R := R') hr1
    rw [e, ek] at eK
    injection eK with eK _
    subst eK
    have hn : fi - 1 < T.length := by omega
    have h2 : T = A' ++ a :: r :: T.drop (fi - 1 + 1) := by
      have h3 := (List.take_append_drop (fi - 1) T).symm
      rw [eA, List.drop_eq_getElem_cons hn] at h3
      rw [List.getElem?_eq_getElem hn] at hr
      injection hr with hr
      rw [hr] at h3
      simpa using h3
    have h3 := hT.2
    rw [h2] at h3
    have := adj_mid h3
    omega
  · have hhin : hi < T.length := by
      rcases Nat.lt_or_ge hi T.length with h | h
      · exact h
      · rw [List.drop_of_length_le h] at eB; simp at eB
    obtain ⟨r, R', e, hr, hr1⟩ := hlst hhin
    obtain ⟨k1, K1, ek, hk1⟩ := mnd_last (m := m) (R := R') hr1
    rw [e, ek] at eK
    have eK2 := (List.append_inj' eK rfl).2
    injection eK2 with eK2 _
    subst eK2
    have hn : hi - 1 < T.length := by omega
    have h2 : T = T.take (hi - 1) ++ r :: b :: B' := by
      have h3 := (List.take_append_drop (hi - 1) T).symm
      rw [List.drop_eq_getElem_cons hn, show hi - 1 + 1 = hi by omega, eB] at h3
      rw [List.getElem?_eq_getElem hn] at hr
      injection hr with hr
      rw [hr] at h3
      exact h3
    have h3 := hT.2
    rw [h2] at h3
    have := adj_mid h3
    omega
/-- What is deleted of one chunk. -/
theorem del_one (x : Bs) (a b : Nat) (hab : a ≤ min b x.length) : delE x (a : Int) ((min b x.length - a : Nat) : Int) = 0 ∧ delS x (a : Int) ((min b x.length - a : Nat) : Int) = x.take a ++ x.drop b := by
  have ho : delB x (a : Int) ((min b x.length - a : Nat) : Int) = false := by
    unfold delB
    rw [out_not (by omega) (by omega)]
    simp only [Bool.false_or, Bool.or_eq_false_iff, decide_eq_false_iff_not]
    omega
  unfold delE delS
  rw [ho]
  refine ⟨by simp, ?_⟩
  simp only [Bool.false_eq_true, if_false, Int.toNat_natCast]
  congr 1
  rw [show a + (min b x.length - a) = min b x.length by omega]
  rcases Nat.le_total b x.length with h | h
  · rw [Nat.min_eq_left h]
  · rw [Nat.min_eq_right h, List.drop_of_length_le (Nat.le_refl _), List.drop_of_length_le h]
end ObGap
namespace Go.Proofs.YtdpjcbljeklhmaaDoor
open Go.RowKit ObGap

theorem Bu0.mono {w : World} {F G : Nat → Prop} {b mx : Nat} {s : Bs} {p : Nat} (h : Bu0 w F b mx s p) (hG : ∀ k, F k → G k) (hl : ∀ k, G k → k < w.heap.size) : Bu0 w G b mx s p := by
  obtain ⟨V, qs, U, h1, h2, _, h4⟩ := h
  exact ⟨V, qs, U, h1.mono hG, h2.mono hG, hl, h4⟩
theorem Edt0.from_ {F : Nat → Prop} {b mx : Nat} {s : Bs} {p : Nat} {w wr w' : World} {v : Value} {e : Ending} (h : Edt0 F b mx s p wr v e w') (hg : Gs F F w wr) (hF : ∀ k, F k → k < w.heap.size) : Edt0 F b mx s p w v e w' := by
  obtain ⟨h1, h2, h3⟩ := h
  have s1 := hg.size
  have s2 := h3.size
  refine ⟨h1, h2.mono (fun k hk => hk.imp id fun h => ⟨Nat.le_trans s1 h.1, h.2⟩) (fun k hk => hk.lt hF (Nat.le_trans s1 s2)), (hg.trans h3).to fun k hk => ?_⟩
  rcases hk with h | h
  · exact .inl (.inl h)
  · exact .inr h.1
theorem sub_facts {h l : Nat} (hl : l ≤ h) (hh : h ≤ 4096) : IntKind.i64.wrap ((h : Int) - (l : Int)) = ((h - l : Nat) : Int) ∧ (h : Int) - (l : Int) = ((h - l : Nat) : Int) ∧ wrap64 ((h - l : Nat) : Int) = ((h - l : Nat) : Int) ∧ IntKind.i64.wrap ((h - l : Nat) : Int) = ((h - l : Nat) : Int) :=
  ⟨(IntWalk.i64_in _ (by omega)).trans (by omega), by omega, IntWalk.wrap64_in _ ⟨by omega, by omega⟩, IntWalk.i64_in _ (by omega)⟩
theorem txs_mid (A B : List Q) (c g : Nat) (s : Bs) : txs (A ++ ⟨c, g, s⟩ :: B) = txs A ++ s :: txs B := by simp
theorem part_t {Q' : List Q} {A B : List Bs} {i : Nat} {x : Bs} (h : txs Q' = A ++ x :: B) (hA : A.length = i) : ∃ QA c g QB, Q' = QA ++ ⟨c, g, x⟩ :: QB ∧ txs QA = A ∧ txs QB = B ∧ QA.length = i := by
  have hl : i < Q'.length := by have := congrArg List.length h; simp at this; omega
  obtain ⟨QA, ⟨c, g, s⟩, QB, rfl, hQ⟩ := part_q hl
  simp only [txs, List.map_append, List.map_cons] at h
  have h2 := List.append_inj h (by simp; omega)
  obtain ⟨h3, h4⟩ := h2
  injection h4 with h4 h5
  subst h4
  exact ⟨QA, c, g, QB, rfl, h3, h5, hQ⟩
set_option maxHeartbeats 4000000 in
set_option maxRecDepth 100000 in
theorem drop_bu {w : World} {F : Nat → Prop} {b mx : Nat} {s : Bs} {p : Nat} (h : Bu w F b mx s p) (f t : Nat) (hft : f < t) (ht : t ≤ s.length) :
    Calls Tryd.prog 47 #[ptr b, .int .i64 (f : Int), .int .i64 (t : Int)] w (Edt0 F b mx (s.take f ++ s.drop t) p w (.tuple #[])) := by
  obtain ⟨V, qs, U, hX, hC, hF, hs, hsnd, hsl, hp⟩ := h
  have HW1 := Lib.hid (with_bx hX rfl f (by omega))
  have HW2 := Lib.hid (with_bx hX rfl (t - 1) (by omega))
  have e0 : (t : Int) - 1 = ((t - 1 : Nat) : Int) := by omega
  have wt : IntKind.i64.wrap ((t : Int) - 1) = ((t - 1 : Nat) : Int) := (IntWalk.i64_in _ (by omega)).trans e0
  have HX := Lib.hid hX
  have HC := Lib.hid hC
  have HS := Lib.hid hs
  have HSN := Lib.hid hsnd
  have hcl : qs.length ≤ 2097152 := by simpa using hX.cl
  obtain ⟨T, hT⟩ : ∃ T, T = txs qs := ⟨_, rfl⟩
  rw [← hT] at HX HS HSN HW1 HW2
  have HT := Lib.hid hT
  have hTl : T.length = qs.length := by rw [hT]; simp
  have htf : t ≤ T.flatten.length := by rw [HS.out]; exact ht
  have htl2 : T.flatten.length ≤ 1048576 := by rw [HS.out]; exact hsl
  obtain ⟨Av, cv, rfl, k1, k2, _, _⟩ := own_see hX.row
  rw [List.length_map] at *
  clear hX hC hs hsnd
  go_enter Tryd.func47, Tryd.ntmps47
  go_wp2_with fail
  refine HW1.out.mono ?_
  rintro e w1 ⟨fi, rfl, hfi, rfl⟩
  go_wp2_with fail
  refine HW2.out.mono ?_
  rintro e w2 ⟨la, rfl, hla, rfl⟩
  have hlan := hla.in_ (by omega)
  have hfl := wth_le (by omega) hfi hla hlan
  have HD := Lib.hid (show ∀ hi, hi = min (la + 2) T.length → Snd mx ((del T f t).take (fi - 1) ++ (mnd mx (((del T f t).drop (fi - 1)).take (hi - (fi - 1))) ++ (del T f t).drop hi)) from fun hi hhi => drop_snd HSN.out hft htf hfi hla hhi)
  have HFI := Lib.hid hfi
  have HLA := Lib.hid hla
  have hl1 : t ≤ st T (la + 1) := by have := hla.2.2 hlan; omega
  have hdl := del_len T f t
  have HLOW := Lib.hid (show ∀ i, i ≤ fi → (del T f t).take i = T.take i from fun i hi => del_low (Nat.le_trans (st_mono hi) hfi.2.1) (by omega))
  have HHIGH := Lib.hid (show (del T f t).drop (la + 1) = T.drop (la + 1) from del_high hl1 (by omega))
  have HDA := Lib.hid (fun i hi => del_at T f t i hi)
  have HDF := Lib.hid (del_flat T f t (Nat.le_of_lt hft))
  generalize del T f t = D at *
  have hfs := hfi.2.1
  have hff := hfi.2.2 (by omega)
  have hls := hla.2.1
  clear hfi hla
  go_wp2_with fail
  go_loopw [8] (fun s8 wr => ∃ (i : Nat) (Q' : List Q), s8 = .int .i64 (i : Int) ∧ fi ≤ i ∧ i ≤ la + 1 ∧ Q'.map Q.c = qs.map Q.c ∧ txs Q' = D.take i ++ T.drop i ∧ Bx wr F b mx (.slice Av qs.length cv) (qs.map Q.c) U (ends T) p ∧ Chs wr F mx Q' ∧ Gs F F w wr) (fun s8 _ => la + 1 - (intOf s8).toNat)
  case atStart => exact ⟨fi, qs, rfl, Nat.le_refl _, by omega, rfl, by rw [HLOW.out fi (Nat.le_refl _), List.take_append_drop, HT.out], HX.out, HC.out, Gs.refl _ _⟩
  case round =>
    obtain ⟨i, Q', rfl, hlo, hhi, hmc, htq, hX1, hC1, hG1⟩ := hrel
    have HX1 := Lib.hid hX1
    have HC1 := Lib.hid hC1
    have HG1 := Lib.hid hG1
    have HMC := Lib.hid hmc
    have HTQ := Lib.hid htq
    by_cases hin : i ≤ la
    · have d1 : decide (i ≤ la) = true := decide_eq_true hin
      have hiT : i < T.length := by omega
      have hsi := st_succ hiT
      have hm1 := st_mono (T := T) (show fi + 1 ≤ i + 1 by omega)
      have hm2 := st_mono (T := T) (show i ≤ la by omega)
      rw [List.drop_eq_getElem_cons hiT] at htq
      obtain ⟨QA, c, g, QB, hQ, hQA, hQB, hQl⟩ := part_t (i := i) htq (by rw [List.length_take, hdl]; omega)
      have HQ := Lib.hid hQ
      have HQA := Lib.hid hQA
      have HQB := Lib.hid hQB
      have HDI := Lib.hid (HDA.out i hiT)
      have HE := Lib.hid (show stE (ends T) i = st T i from stE_ends (by omega))
      have hci : (qs.map Q.c)[i]? = some c := by rw [← hmc, hQ]; simp [← hQl]
      rw [hQ] at hC1
      obtain ⟨fc, fg, q0, hk⟩ := hC1.at_
      simp only at fc fg hk
      have HC2 := Lib.hid hC1
      have HK := Lib.hid hk
      have hxl := hk.len
      have HP := part_bx hX1 i (by rw [ends_len]; omega) hci hk f t (by omega) (by omega) (by rw [HE.out]; omega)
      rw [HE.out] at HP
      have HP2 := Lib.hid HP
      obtain ⟨c0, c1, c2, c3, _⟩ := hX1.cells
      rcases (own_see hX1.row) with ⟨A', cp', e', _, _, _, k4⟩
      injection e' with e1 e2 e3
      subst e1
      rcases k4 with ⟨_, _, k5⟩ | ⟨r, rfl, _, k5, _, k6⟩
      · simp at k5; omega
      have m3 := k6 i (ptr c) (by rw [List.getElem?_map, hci]; rfl)
      generalize hx : T[i] = x at *
      generalize hz : st T i = z at *
      have hab : f - z ≤ min (t - z) x.length := by omega
      have HDO := Lib.hid (del_one x (f - z) (t - z) hab)
      have i1 : (i : Int) < (qs.length : Int) := by omega
      generalize hlo' : f - z = l at *
      generalize hhi' : min (t - z) x.length = h2 at *
      obtain ⟨wq, eq2, wq2, wq3⟩ := sub_facts (show l ≤ h2 from hab) (show h2 ≤ 4096 by omega)
      clear hX1 hC1 hG1 hmc htq hQ hQA hQB hk HP k6 hx hz hlo' hhi' hci e2 e3 hm1 hm2 hsi hls hff hfs
      go_wp2_with fail
      refine HP2.out.mono ?_
      rintro e w3 ⟨rfl, hb3⟩
      have HB3 := Lib.hid hb3
      have p1 := (HX1.out.on hb3).cells.2.1
      have m4 := (hb3.cell k5).trans m3
      have HDL := delete_chk (HK.out.on hb3) (l : Int) ((h2 - l : Nat) : Int)
      rw [HDO.out.1, HDO.out.2] at HDL
      have HDL2 := Lib.hid HDL
      clear hb3 HDL c0 c1 c2 c3
      go_wp2_with fail
      refine HDL2.out.mono ?_
      rintro e w4 ⟨rfl, hk4, hx4⟩
      have HX4 := Lib.hid ((HX1.out.on HB3.out).past (HK.out.on HB3.out) hx4)
      have HC4 := Lib.hid ((HC2.out.on HB3.out).set hx4 hk4)
      have HG4 := Lib.hid ((HG1.out.below_right HB3.out).trans (Gs.ex hx4 fc fg))
      clear hk4 hx4
      go_wp2_with fail
      go_roundw
      case rel =>
        refine ⟨i + 1, _, by go_num, by omega, by omega, ?_, ?_, HX4.out, HC4.out, HG4.out⟩
        · rw [← HMC.out, HQ.out]; simp
        · have hiD : i < D.length := by rw [hdl]; omega
          have h1 := HDI.out
          rw [List.getElem?_eq_getElem hiD] at h1
          injection h1 with h1
          rw [List.take_succ_eq_append_getElem hiD, h1, txs_mid, HQA.out, HQB.out, List.append_assoc]
          rfl
      case measure => simp [intOf]; omega
    · obtain rfl : i = la + 1 := by omega
      have d1 : decide (la + 1 ≤ la) = false := decide_eq_false (by omega)
      have hTD : txs Q' = D := by rw [HTQ.out, ← HHIGH.out, List.take_append_drop]
      have hQl : Q'.length = qs.length := by have := congrArg List.length hmc; simpa using this
      obtain ⟨hi, hhi2⟩ : ∃ hi, hi = min (la + 2) T.length := ⟨_, rfl⟩
      have hhn : hi ≤ qs.length ∧ la + 1 ≤ hi ∧ hi ≤ la + 2 := by omega
      have HSN2 := HD.out hi hhi2
      have m1 : max ((fi : Int) - 1) 0 = ((fi - 1 : Nat) : Int) := by omega
      have m2 : min ((la : Int) + 2) (qs.length : Int) = (hi : Int) := by omega
      obtain ⟨c0, c1, c2, c3, _⟩ := hX1.cells
      generalize hlo2 : fi - 1 = lo at *
      have hsp : Q'.take lo ++ ((Q'.drop lo).take (hi - lo) ++ Q'.drop hi) = Q' := by
        have e1 : Q'.drop hi = (Q'.drop lo).drop (hi - lo) := by rw [List.drop_drop]; congr 1; omega
        rw [e1, List.take_append_drop, List.take_append_drop]
      have t1 : txs (Q'.take lo) = D.take lo := by rw [txs, List.map_take]; exact congrArg _ hTD
      have t2 : txs ((Q'.drop lo).take (hi - lo)) = (D.drop lo).take (hi - lo) := by rw [txs, List.map_take, List.map_drop]; exact congrArg (fun l => (l.drop lo).take (hi - lo)) hTD
      have t3 : txs (Q'.drop hi) = D.drop hi := by rw [txs, List.map_drop]; exact congrArg _ hTD
      have hDD : D.take lo ++ ((D.drop lo).take (hi - lo) ++ D.drop hi) = D := by
        have e1 : D.drop hi = (D.drop lo).drop (hi - lo) := by rw [List.drop_drop]; congr 1; omega
        rw [e1, List.take_append_drop, List.take_append_drop]
      have HMB := mend_bx (A := Q'.take lo) (R := (Q'.drop lo).take (hi - lo)) (B := Q'.drop hi) (E := ends T) (lo := lo) (hi := hi) (w := wr) (F := F) (p := p)
        (by rw [hsp, hmc]; exact hX1) (by rw [hsp]; exact hC1) (by simp; omega) (by simp; omega) (by intro hn; have := congrArg List.length hn; simp at this; omega) (by rw [ends_len]; omega)
        (by rw [t1]; refine ends_same ?_ (by omega) (by rw [List.length_take, hdl]; omega); rw [HLOW.out lo (by omega), List.take_take, Nat.min_self])
        (fun k hk => Nat.lt_of_lt_of_le (hF k hk) hG1.size) (by rw [t1, t2, t3, hDD, HDF.out]; simp only [List.length_append, List.length_take, List.length_drop]; omega) (by rw [t1, t2, t3]; exact HSN2)
      rw [t1, t2, t3, hDD, HDF.out, HS.out] at HMB
      have HM := Lib.hid HMB
      clear HMB hX1 hC1 hG1 hmc htq hTD hQl hhi2 HSN2 hlo2 hsp t1 t2 t3 hDD
      go_wp2_with fail
      refine HM.out.mono ?_
      intro e w5 he
      obtain ⟨rfl, hd1, hd2⟩ := he.from_ HG1.out hF
      have HDN := Lib.hid (And.intro hd1 hd2)
      clear he hd1 hd2
      go_wp2_with fail
      go_end0
      exact ⟨rfl, HDN.out.1, HDN.out.2⟩
end Go.Proofs.YtdpjcbljeklhmaaDoor
