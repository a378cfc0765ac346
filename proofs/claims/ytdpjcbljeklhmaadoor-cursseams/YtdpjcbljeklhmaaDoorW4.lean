/-
  What the gap's shift leaves: the same text, the gap at the new place. Condition: the place is one of the text.
-/
import Derived.Test.YtdpjcbljeklhmaaDoorW3
namespace Go.Proofs.YtdpjcbljeklhmaaDoor
open Go.RowKit ObGap

theorem keepS {w W : World} {c g : Nat} {L : Bs} {K p r : Nat} (h : Ck w c g L K p r) (e : W.heap[c]? = w.heap[c]?) :
    W.cell? ⟨c, 0, none⟩ = some (.slice (some ⟨g, 0, none⟩) L.length K) ∧ W.cell? ⟨c, 1, none⟩ = some (.int .i64 p) ∧ W.cell? ⟨c, 2, none⟩ = some (.int .i64 r) := by
  have h1 := e.trans h.1
  refine ⟨by simp [World.cell?, h1], by simp [World.cell?, h1], by simp [World.cell?, h1]⟩
theorem ck_frozen {w : World} {c g : Nat} {L : Bs} {K p r : Nat} (h : Ck w c g L K p r) (i : Nat) : w.frozen? ⟨c, i, none⟩ = false := h.cells.2.2.2 i
theorem keepX {w W : World} {c g : Nat} {L : Bs} {K p r : Nat} {X : Array Value} (h : Ck w c g L K p r) (e : Hid (W = w.setRow g X)) : W.heap[c]? = w.heap[c]? := by
  rw [e.out, setRow_other _ _ _ _ h.2.2.1]

theorem Moved.copied {w0 w W : World} {c g : Nat} {L X : Bs} {Z : List Value} {K p r a q o : Nat} (h : Ck w c g L K p r) (hZ : w.heap[g]? = some (.cells (Lib.byteCells L ++ Z).toArray 5 (0, 0)) ∧ K = L.length + Z.length) (hx : Ex c g w0 w) (e : W = w.setRow g (splice (Lib.byteCells L ++ Z) o (Lib.byteCells X)).toArray) (hq : a + (r - p) = q) (h2 : q ≤ L.length) (ho : o + X.length ≤ L.length)
    (hM : (L.take o ++ (X ++ L.drop (o + X.length))).length = L.length ∧ (L.take o ++ (X ++ L.drop (o + X.length))).take a ++ (L.take o ++ (X ++ L.drop (o + X.length))).drop (a + (r - p)) = L.take p ++ L.drop r) :
    Moved w0 c g L K p r a ((W.setCell ⟨c, 1, none⟩ (.int .i64 a)).setCell ⟨c, 2, none⟩ (.int .i64 q)) :=
  Moved.mk h hZ hx (by rw [e, splice_bytes _ _ _ _ ho]) hM.1 hq.symm h2 hM.2
theorem copied_frozen {w W : World} {c g : Nat} {L : Bs} {K p r : Nat} {X : Array Value} (h : Ck w c g L K p r) (e : Hid (W = w.setRow g X)) (i : Nat) : W.frozen? ⟨c, i, none⟩ = false := by
  have h1 := (keepX h e).trans h.1
  simp [World.frozen?, h1]

set_option maxHeartbeats 1000000 in
theorem shift_down_ck {w : World} {c g : Nat} {L : Bs} {K p r : Nat} (h : Ck w c g L K p r) (a : Nat) (ha : a < p) :
    Calls Tryd.prog 71 #[ptr c, .int .i64 a] w fun e w' => e = .returned (.tuple #[]) ∧ Moved w c g L K p r a w' := by
  have HK := Lib.hid h
  have hcap := h.cap
  obtain ⟨_, _, _, h1, h2, h3, h4⟩ := h
  have wq : IntKind.i64.wrap ((a : Int) + ((r : Int) - p)) = ((a + (r - p) : Nat) : Int) := (IntWalk.i64_in _ (by omega)).trans (by omega)
  have HQ := Lib.hid (show a + (r - p) = a + (r - p) from rfl)
  have d1 : decide (a < p) = true := by simp [ha]
  have HM := Lib.hid (shift_down ha h1 h2)
  have HX := Lib.hid (show ((L.drop a).take (p - a)).length = p - a by simp; omega)
  have hql : a + (r - p) ≤ r := by omega
  have hqp : r - (a + (r - p)) = p - a := by omega
  have hqn : (K = a + (r - p)) = False := by simp; omega
  have han : (K = a) = False := by simp; omega
  have i1 : ((a + (r - p) : Nat) : Int) ≤ (r : Int) := by omega
  have i2 : (r : Int) ≤ (K : Int) := by omega
  have i3 : (a : Int) ≤ (p : Int) := by omega
  have i4 : (p : Int) ≤ (K : Int) := by omega
  have HFIT := Lib.hid (show a + (r - p) + (p - a) ≤ L.length by omega)
  generalize hq : a + (r - p) = q at wq hql hqp hqn i1 HQ HFIT
  have HQ2 := Lib.hid hq
  clear hq
  go_enter Tryd.func71, Tryd.ntmps71
  go_wp2_with fail
  refine (free_ck HK.out).mono ?_
  rintro e w1 ⟨rfl, hb1⟩
  have HK1 := Lib.hid (HK.out.on hb1)
  obtain ⟨Z, hZ⟩ := HK1.out.2.1
  have HZ := Lib.hid hZ
  clear hZ
  obtain ⟨c0, c1, c2, _⟩ := HK1.out.cells
  go_wp2_with fail
  go_region_held3 (fun W => W.cell? ⟨c, 0, none⟩ = some (.slice (some ⟨g, 0, none⟩) L.length K) ∧ W.cell? ⟨c, 1, none⟩ = some (.int .i64 p) ∧ W.cell? ⟨c, 2, none⟩ = some (.int .i64 r)) (first | exact keepS HK1.out rfl | exact keepS HK1.out.drew (keepX HK1.out.drew hw2)) (first
    | (refine step_copy_row rfl (.tmp 24) (.tmp 34) 72 72 rfl 5 Tryd.underlying72 info5 _ _ _ _ _ _ rfl rfl g q (Lib.byteCells L ++ Z) 5 HZ.out.1 (Lib.byteCells ((L.drop a).take (p - a))) (by rw [Lib.byteCells_length, HX.out]; first | (simp; done) | omega) (fun _ => ⟨rfl, _, rfl, HK1.out.drew.part a (p - a)⟩) (by rw [List.length_append, Lib.byteCells_length, Lib.byteCells_length, HX.out]; have := HFIT.out; omega) (Lib.byteCells_one _) ?_; intro w2 hw2))
  obtain ⟨c0, c1, c2⟩ := keepS HK1.out.drew (keepX HK1.out.drew hw2)
  have f1 := copied_frozen HK1.out.drew hw2 1
  have f2 := copied_frozen HK1.out.drew hw2 2
  go_wp2_with fail
  go_end0
  exact ⟨rfl, Moved.copied HK1.out.drew HZ.out (Ex.of hb1).drew hw2.out (by have := HQ2.out; omega) (by have := HFIT.out; omega) (by rw [HX.out]; have := HFIT.out; omega) (by have h := HM.out; rw [HX.out]; rw [HQ2.out] at h ⊢; exact h)⟩

set_option maxHeartbeats 1000000 in
theorem shift_up_ck {w : World} {c g : Nat} {L : Bs} {K p r : Nat} (h : Ck w c g L K p r) (a : Nat) (hap : p ≤ a) (hal : a + (r - p) ≤ L.length) :
    Calls Tryd.prog 71 #[ptr c, .int .i64 a] w fun e w' => e = .returned (.tuple #[]) ∧ Moved w c g L K p r a w' := by
  have HK := Lib.hid h
  have hcap := h.cap
  obtain ⟨_, _, _, h1, h2, h3, h4⟩ := h
  have d1 : decide (a < p) = false := by simp; omega
  have HM := Lib.hid (shift_up hap h1 hal)
  have HX := Lib.hid (show ((L.drop r).take (a - p)).length = a - p by simp; omega)
  have HFIT := Lib.hid (show p + (a - p) ≤ L.length ∧ a + (r - p) ≤ L.length by omega)
  by_cases hrn : r < K
  · have wq : IntKind.i64.wrap ((a : Int) + ((r : Int) - p)) = ((a + (r - p) : Nat) : Int) := (IntWalk.i64_in _ (by omega)).trans (by omega)
    have hqp : a + (r - p) - r = a - p := by omega
    have hqn : (K = p) = False := by simp; omega
    have han : (K = r) = False := by simp; omega
    have i1 : (r : Int) ≤ ((a + (r - p) : Nat) : Int) := by omega
    have i2 : ((a + (r - p) : Nat) : Int) ≤ (K : Int) := by omega
    have i3 : (p : Int) ≤ (a : Int) := by omega
    have i4 : (a : Int) ≤ (K : Int) := by omega
    generalize hq : a + (r - p) = q at wq hqp i1 i2
    have HQ2 := Lib.hid hq
    clear hq
    go_enter Tryd.func71, Tryd.ntmps71
    go_wp2_with fail
    refine (free_ck HK.out).mono ?_
    rintro e w1 ⟨rfl, hb1⟩
    have HK1 := Lib.hid (HK.out.on hb1)
    obtain ⟨Z, hZ⟩ := HK1.out.2.1
    have HZ := Lib.hid hZ
    clear hZ
    obtain ⟨c0, c1, c2, _⟩ := HK1.out.cells
    go_wp2_with fail
    go_region_held3 (fun W => W.cell? ⟨c, 0, none⟩ = some (.slice (some ⟨g, 0, none⟩) L.length K) ∧ W.cell? ⟨c, 1, none⟩ = some (.int .i64 p) ∧ W.cell? ⟨c, 2, none⟩ = some (.int .i64 r)) (first | exact keepS HK1.out rfl | exact keepS HK1.out.drew (keepX HK1.out.drew hw2)) (first
      | (refine step_copy_row rfl (.tmp 45) (.tmp 55) 72 72 rfl 5 Tryd.underlying72 info5 _ _ _ _ _ _ rfl rfl g p (Lib.byteCells L ++ Z) 5 HZ.out.1 (Lib.byteCells ((L.drop r).take (a - p))) (by rw [Lib.byteCells_length, HX.out]; first | (simp; done) | omega) (fun _ => ⟨rfl, _, rfl, HK1.out.drew.part r (a - p)⟩) (by rw [List.length_append, Lib.byteCells_length, Lib.byteCells_length, HX.out]; have := HFIT.out.1; omega) (Lib.byteCells_one _) ?_; intro w2 hw2))
    obtain ⟨c0, c1, c2⟩ := keepS HK1.out.drew (keepX HK1.out.drew hw2)
    have f1 := copied_frozen HK1.out.drew hw2 1
    have f2 := copied_frozen HK1.out.drew hw2 2
    go_wp2_with fail
    go_end0
    exact ⟨rfl, Moved.copied HK1.out.drew HZ.out (Ex.of hb1).drew hw2.out (by have := HQ2.out; omega) (by have := HFIT.out.2; omega) (by rw [HX.out]; have := HFIT.out.1; omega) (by have h := HM.out; rw [HX.out]; exact h)⟩
  · obtain rfl : L.length = K := by omega
    have er : r = L.length := by omega
    have ea : a = p := by omega
    subst ea
    subst er
    have wq : IntKind.i64.wrap ((a : Int) + ((L.length : Int) - a)) = (L.length : Int) := (IntWalk.i64_in _ (by omega)).trans (by omega)
    have HQ2 := Lib.hid (show a + (L.length - a) = L.length by omega)
    have i4 : (a : Int) ≤ (L.length : Int) := by omega
    by_cases hpn : L.length = a
    · go_enter Tryd.func71, Tryd.ntmps71
      go_wp2_with fail
      refine (free_ck HK.out).mono ?_
      rintro e w1 ⟨rfl, hb1⟩
      have HK1 := Lib.hid (HK.out.on hb1)
      obtain ⟨Z, hZ⟩ := HK1.out.2.1
      have HZ := Lib.hid hZ
      clear hZ
      obtain ⟨c0, c1, c2, _⟩ := HK1.out.cells
      go_wp2_with fail
      go_region_held3 (fun W => W.cell? ⟨c, 0, none⟩ = some (.slice (some ⟨g, 0, none⟩) L.length L.length) ∧ W.cell? ⟨c, 1, none⟩ = some (.int .i64 a) ∧ W.cell? ⟨c, 2, none⟩ = some (.int .i64 L.length)) (first | exact keepS HK1.out rfl | exact keepS HK1.out.drew (keepX HK1.out.drew hw2)) (first
        | (refine step_copy_row rfl (.tmp 45) (.tmp 55) 72 72 rfl 5 Tryd.underlying72 info5 _ _ _ _ _ _ rfl rfl g a (Lib.byteCells L ++ Z) 5 HZ.out.1 (Lib.byteCells ((L.drop L.length).take (a - a))) (by rw [Lib.byteCells_length, HX.out]; first | (simp; done) | omega) (fun h => absurd h (by rw [Lib.byteCells_length, HX.out]; omega)) (by rw [List.length_append, Lib.byteCells_length, Lib.byteCells_length, HX.out]; have := HFIT.out.1; omega) (Lib.byteCells_one _) ?_; intro w2 hw2))
      obtain ⟨c0, c1, c2⟩ := keepS HK1.out.drew (keepX HK1.out.drew hw2)
      have f1 := copied_frozen HK1.out.drew hw2 1
      have f2 := copied_frozen HK1.out.drew hw2 2
      go_wp2_with fail
      go_end0
      exact ⟨rfl, Moved.copied HK1.out.drew HZ.out (Ex.of hb1).drew hw2.out (by have := HQ2.out; omega) (by have := HFIT.out.2; omega) (by rw [HX.out]; have := HFIT.out.1; omega) (by have h := HM.out; rw [HX.out]; exact h)⟩
    · go_enter Tryd.func71, Tryd.ntmps71
      go_wp2_with fail
      refine (free_ck HK.out).mono ?_
      rintro e w1 ⟨rfl, hb1⟩
      have HK1 := Lib.hid (HK.out.on hb1)
      obtain ⟨Z, hZ⟩ := HK1.out.2.1
      have HZ := Lib.hid hZ
      clear hZ
      obtain ⟨c0, c1, c2, _⟩ := HK1.out.cells
      go_wp2_with fail
      go_region_held3 (fun W => W.cell? ⟨c, 0, none⟩ = some (.slice (some ⟨g, 0, none⟩) L.length L.length) ∧ W.cell? ⟨c, 1, none⟩ = some (.int .i64 a) ∧ W.cell? ⟨c, 2, none⟩ = some (.int .i64 L.length)) (first | exact keepS HK1.out rfl | exact keepS HK1.out.drew (keepX HK1.out.drew hw2)) (first
        | (refine step_copy_row rfl (.tmp 45) (.tmp 55) 72 72 rfl 5 Tryd.underlying72 info5 _ _ _ _ _ _ rfl rfl g a (Lib.byteCells L ++ Z) 5 HZ.out.1 (Lib.byteCells ((L.drop L.length).take (a - a))) (by rw [Lib.byteCells_length, HX.out]; first | (simp; done) | omega) (fun h => absurd h (by rw [Lib.byteCells_length, HX.out]; omega)) (by rw [List.length_append, Lib.byteCells_length, Lib.byteCells_length, HX.out]; have := HFIT.out.1; omega) (Lib.byteCells_one _) ?_; intro w2 hw2))
      obtain ⟨c0, c1, c2⟩ := keepS HK1.out.drew (keepX HK1.out.drew hw2)
      have f1 := copied_frozen HK1.out.drew hw2 1
      have f2 := copied_frozen HK1.out.drew hw2 2
      go_wp2_with fail
      go_end0
      exact ⟨rfl, Moved.copied HK1.out.drew HZ.out (Ex.of hb1).drew hw2.out (by have := HQ2.out; omega) (by have := HFIT.out.2; omega) (by rw [HX.out]; have := HFIT.out.1; omega) (by have h := HM.out; rw [HX.out]; exact h)⟩

theorem shift_ck {w : World} {c g : Nat} {L : Bs} {K p r : Nat} (h : Ck w c g L K p r) (a : Nat) (ha : a ≤ (L.take p ++ L.drop r).length) :
    Calls Tryd.prog 71 #[ptr c, .int .i64 a] w fun e w' => e = .returned (.tuple #[]) ∧ Moved w c g L K p r a w' := by
  rw [parts_len h.2.2.2.1 h.2.2.2.2.1] at ha
  have h1 := h.2.2.2.1
  have h2 := h.2.2.2.2.1
  rcases Nat.lt_or_ge a p with h3 | h3
  · exact shift_down_ck h a h3
  · exact shift_up_ck h a h3 (by omega)
end Go.Proofs.YtdpjcbljeklhmaaDoor
