/-
  What And of the program answers: what both lists have. Condition: at most 400000 ranges each.
-/
import Derived.Test.YtfjcljhodnkieaaW14
namespace Go.Proofs.Ytfjcljhodnkieaa
open Go.RowKit ObSets

def lenV : Value → Nat
  | .slice _ n _ => n
  | _ => 0
/-- A slice that reads as a list, and may be cut. -/
def Sl (w : World) (v : Value) (l : List R) : Prop := ∃ A c, v = .slice A l.length c ∧ l.length ≤ c ∧ c ≤ maxLen ∧ Rgs w w.heap.size A l

theorem Sl.tail {w : World} {b o n cp : Nat} {r : R} {p : List R} (h : Rgs w w.heap.size (some ⟨b, o, none⟩) (r :: p)) (hn : p.length = n) (hc : n + 1 ≤ cp) (hm : cp ≤ maxLen) :
    Sl w (.slice (if cp = 1 then some ⟨b, o, none⟩ else some ⟨b, o + 2, none⟩) n (cp - 1)) p := by
  subst hn
  refine ⟨_, _, rfl, by omega, by omega, fun hne => ?_⟩
  have : 0 < p.length := List.length_pos_iff.2 hne
  rw [if_neg (by omega)]
  obtain ⟨b', o', e, hb, hc⟩ := h (by simp)
  injection e with e
  injection e with e1 e2
  subst e1; subst e2
  refine ⟨b, o + 2, rfl, hb, fun j r hj => ?_⟩
  have := hc (j + 1) r (by simpa using hj)
  rw [show o + 2 + j * 2 = o + (j + 1) * 2 by omega]
  exact this
theorem Sl.same {w : World} {b o n cp : Nat} {r : R} {p : List R} (h : Rgs w w.heap.size (some ⟨b, o, none⟩) (r :: p)) (hn : p.length = n) (hc : n + 1 ≤ cp) (hm : cp ≤ maxLen) :
    Sl w (.slice (some ⟨b, o, none⟩) (n + 1) cp) (r :: p) := by
  subst hn
  exact ⟨_, _, by simp, by simpa using hc, hm, h⟩
theorem and_in_lt {la lb out p q : List R} {p1 p2 q1 q2 : Int} (h : andW la lb = out ++ andW ((p1, p2) :: p) ((q1, q2) :: q)) (hin : max p1 q1 ≤ min p2 q2) (hlt : p2 < q2) : andW la lb = (out ++ [(max p1 q1, min p2 q2)]) ++ andW p ((q1, q2) :: q) := by
  rw [h, andW_cons, if_pos hin, if_pos hlt, List.append_assoc]
theorem and_in_ge {la lb out p q : List R} {p1 p2 q1 q2 : Int} (h : andW la lb = out ++ andW ((p1, p2) :: p) ((q1, q2) :: q)) (hin : max p1 q1 ≤ min p2 q2) (hlt : ¬ p2 < q2) : andW la lb = (out ++ [(max p1 q1, min p2 q2)]) ++ andW ((p1, p2) :: p) q := by
  rw [h, andW_cons, if_pos hin, if_neg hlt, List.append_assoc]
theorem and_no_lt {la lb out p q : List R} {p1 p2 q1 q2 : Int} (h : andW la lb = out ++ andW ((p1, p2) :: p) ((q1, q2) :: q)) (hin : ¬ max p1 q1 ≤ min p2 q2) (hlt : p2 < q2) : andW la lb = out ++ andW p ((q1, q2) :: q) := by
  rw [h, andW_cons, if_neg hin, if_pos hlt, List.nil_append]
theorem and_no_ge {la lb out p q : List R} {p1 p2 q1 q2 : Int} (h : andW la lb = out ++ andW ((p1, p2) :: p) ((q1, q2) :: q)) (hin : ¬ max p1 q1 ≤ min p2 q2) (hlt : ¬ p2 < q2) : andW la lb = out ++ andW ((p1, p2) :: p) q := by
  rw [h, andW_cons, if_neg hin, if_neg hlt, List.nil_append]
theorem fourA {W : World} {o : Obj} {p1 p2 p3 p4 : Addr} {v1 v2 v3 v4 : Value} (s1 : W.cell? p1 = some v1) (s2 : W.cell? p2 = some v2) (s3 : W.cell? p3 = some v3) (s4 : W.cell? p4 = some v4) :
    (W.alloc o).cell? p1 = some v1 ∧ (W.alloc o).cell? p2 = some v2 ∧ (W.alloc o).cell? p3 = some v3 ∧ (W.alloc o).cell? p4 = some v4 :=
  ⟨(World.cell?_alloc_lt W o p1 (World.block_lt_of_cell? W p1 s1)).trans s1, (World.cell?_alloc_lt W o p2 (World.block_lt_of_cell? W p2 s2)).trans s2, (World.cell?_alloc_lt W o p3 (World.block_lt_of_cell? W p3 s3)).trans s3, (World.cell?_alloc_lt W o p4 (World.block_lt_of_cell? W p4 s4)).trans s4⟩
theorem fourB {W : World} {o : Obj} {p1 p2 p3 p4 : Addr} {v1 v2 v3 v4 : Value} (h : W.cell? p1 = some v1 ∧ W.cell? p2 = some v2 ∧ W.cell? p3 = some v3 ∧ W.cell? p4 = some v4) :
    (W.alloc o).cell? p1 = some v1 ∧ (W.alloc o).cell? p2 = some v2 ∧ (W.alloc o).cell? p3 = some v3 ∧ (W.alloc o).cell? p4 = some v4 := fourA h.1 h.2.1 h.2.2.1 h.2.2.2
theorem fourS {W : World} {b1 b3 o1 o2 o3 o4 bx x1 x2 : Nat} {v1 v2 v3 v4 u1 u2 : Value} (h : W.cell? ⟨b1, o1, none⟩ = some v1 ∧ W.cell? ⟨b1, o2, none⟩ = some v2 ∧ W.cell? ⟨b3, o3, none⟩ = some v3 ∧ W.cell? ⟨b3, o4, none⟩ = some v4) (h1 : b1 ≠ bx) (h3 : b3 ≠ bx) :
    ((W.setCell ⟨bx, x1, none⟩ u1).setCell ⟨bx, x2, none⟩ u2).cell? ⟨b1, o1, none⟩ = some v1 ∧ ((W.setCell ⟨bx, x1, none⟩ u1).setCell ⟨bx, x2, none⟩ u2).cell? ⟨b1, o2, none⟩ = some v2 ∧ ((W.setCell ⟨bx, x1, none⟩ u1).setCell ⟨bx, x2, none⟩ u2).cell? ⟨b3, o3, none⟩ = some v3 ∧ ((W.setCell ⟨bx, x1, none⟩ u1).setCell ⟨bx, x2, none⟩ u2).cell? ⟨b3, o4, none⟩ = some v4 := by
  have far : ∀ (b o : Nat), b ≠ bx → ((W.setCell ⟨bx, x1, none⟩ u1).setCell ⟨bx, x2, none⟩ u2).cell? ⟨b, o, none⟩ = W.cell? ⟨b, o, none⟩ := fun b o hb => by
    rw [World.cell?_setCell_other (h := fun e => hb (congrArg Addr.block e).symm), World.cell?_setCell_other (h := fun e => hb (congrArg Addr.block e).symm)]
  exact ⟨(far _ _ h1).trans h.1, (far _ _ h1).trans h.2.1, (far _ _ h3).trans h.2.2.1, (far _ _ h3).trans h.2.2.2⟩
theorem box_after {w w3 : World} (h : Below (w.alloc (.cells #[.int .i64 0, .int .i64 0] 32)).drew.heap.size (w.alloc (.cells #[.int .i64 0, .int .i64 0] 32)).drew w3) :
    w3.cell? ⟨w.heap.size, 0, none⟩ = some (.int .i64 0) ∧ w3.cell? ⟨w.heap.size, 1, none⟩ = some (.int .i64 0) ∧ w3.frozen? ⟨w.heap.size, 0, none⟩ = false ∧ w3.frozen? ⟨w.heap.size, 1, none⟩ = false :=
  ⟨(h.cell (p := ⟨w.heap.size, 0, none⟩) (by simp)).trans (by simp), (h.cell (p := ⟨w.heap.size, 1, none⟩) (by simp)).trans (by simp),
    (World.frozen?_of_block (a := ⟨w.heap.size, 0, none⟩) (h.block w.heap.size (by simp))).trans (by simp), (World.frozen?_of_block (a := ⟨w.heap.size, 1, none⟩) (h.block w.heap.size (by simp))).trans (by simp)⟩
/-- The box made ahead of the call, and stored into behind it. -/
theorem box_put {w w3 : World} (h : Below (w.alloc (.cells #[.int .i64 0, .int .i64 0] 32)).drew.heap.size (w.alloc (.cells #[.int .i64 0, .int .i64 0] 32)).drew w3) (x y : Int) :
    Below w.heap.size w ((w3.setCell ⟨w.heap.size, 0, none⟩ (.int .i64 x)).setCell ⟨w.heap.size, 1, none⟩ (.int .i64 y)) ∧
    ((w3.setCell ⟨w.heap.size, 0, none⟩ (.int .i64 x)).setCell ⟨w.heap.size, 1, none⟩ (.int .i64 y)).cell? ⟨w.heap.size, 0, none⟩ = some (.int .i64 x) ∧
    ((w3.setCell ⟨w.heap.size, 0, none⟩ (.int .i64 x)).setCell ⟨w.heap.size, 1, none⟩ (.int .i64 y)).cell? ⟨w.heap.size, 1, none⟩ = some (.int .i64 y) := by
  obtain ⟨k1, k2, _, _⟩ := box_after h
  have hb : Below w.heap.size w w3 := (((Below.refl _ w).alloc (Nat.le_refl _) _).drew).trans (h.mono (by simp))
  refine ⟨(hb.setCell (p := ⟨w.heap.size, 0, none⟩) (Nat.le_refl _) _).setCell (p := ⟨w.heap.size, 1, none⟩) (Nat.le_refl _) _, ?_, ?_⟩
  · rw [World.cell?_setCell_other (h := by intro e; injection e with _ e; cases e)]
    exact World.cell?_setCell_same _ _ _ k1
  · refine World.cell?_setCell_same _ _ _ (u := .int .i64 0) ?_
    rw [World.cell?_setCell_other (h := by intro e; injection e with _ e; cases e)]
    exact k2
theorem box_new {w w3 : World} (h : Below w.drew.heap.size w.drew w3) (x y : Int) :
    Below w.heap.size w (w3.alloc (.cells #[.int .i64 x, .int .i64 y] 32)) ∧
    (w3.alloc (.cells #[.int .i64 x, .int .i64 y] 32)).cell? ⟨w3.heap.size, 0, none⟩ = some (.int .i64 x) ∧
    (w3.alloc (.cells #[.int .i64 x, .int .i64 y] 32)).cell? ⟨w3.heap.size, 1, none⟩ = some (.int .i64 y) := by
  have hb : Below w.heap.size w w3 := ((Below.refl _ w).drew).trans h
  exact ⟨hb.alloc hb.size _, by simp, by simp⟩

set_option maxHeartbeats 2000000 in
set_option maxRecDepth 100000 in
theorem and_any (A1 A2 : Option Addr) (c1 c2 : Nat) (a b : List R) (w : World) (h1 : Rgs w w.heap.size A1 a) (h2 : Rgs w w.heap.size A2 b) (hl1 : a.length ≤ 400000) (hl2 : b.length ≤ 400000) :
    Calls Try.prog 23 #[.slice A1 a.length c1, .slice A2 b.length c2] w (RetR (andL a b) w) := by
  obtain ⟨i0, hi, hz0, hz1, hz2⟩ := info_parts info32
  have HC1 := Lib.hid (norm_any A1 c1 a w h1 (by omega))
  have HC2 := Lib.hid (show ∀ w1, Below w.heap.size w w1 → Calls Try.prog 14 #[.slice A2 b.length c2] w1 (RetR (nrm b) w1) from fun w1 hb => norm_any A2 c2 b w1 (h2.on hb) (by omega))
  have HL1 := Lib.hid (show (nrm a).length ≤ 400000 by have := nrm_len a; omega)
  have HL2 := Lib.hid (show (nrm b).length ≤ 400000 by have := nrm_len b; omega)
  have HRES := Lib.hid (show andW (nrm a) (nrm b) = andL a b from rfl)
  generalize andL a b = res at *
  generalize nrm a = la at *
  generalize nrm b = lb at *
  generalize a.length = n1 at *
  generalize b.length = n2 at *
  clear h1 h2 hl1 hl2
  go_enter Try.func23, Try.ntmps23
  go_wp2_with (first | (go_at_call_of 14 A1; refine HC1.out.mono ?_; rintro e w1 ⟨v1, rfl, hown1, hb1⟩) | (go_at_call_of 14 A2; refine (HC2.out _ hb1).mono ?_; rintro e w2 ⟨v2, rfl, hown2, hb2⟩))
  have hb12 := bel_trans hb1 hb2
  have HS1 := Lib.hid (show Sl w2 v1 la by
    obtain ⟨A, cap, hv, e1, e2, hr, _⟩ := hown1.shape
    exact ⟨A, cap, hv, e1, e2, hr.on hb2⟩)
  have HS2 := Lib.hid (show Sl w2 v2 lb by
    obtain ⟨A, cap, hv, e1, e2, hr, _⟩ := hown2.shape
    exact ⟨A, cap, hv, e1, e2, hr⟩)
  clear hown1 hown2 HC1 HC2 hb1 hb2
  go_loopw [0, 1, 5] (fun x y v wr => ∃ (p q out : List R), Hid (andW la lb = out ++ andW p q) ∧ Hid (out.length + p.length + q.length ≤ la.length + lb.length) ∧ Sl w2 x p ∧ Sl w2 y q ∧ Hid (Ow wr w2.heap.size v out) ∧ Below w2.heap.size w2 wr) (fun x y _ _ => lenV x + lenV y)
  case atStart => exact ⟨la, lb, [], (rfl : andW la lb = [] ++ andW la lb), (by show ([] : List R).length + _ + _ ≤ _; simp), HS1.out, HS2.out, Ow.nil _ _, Below.refl _ _⟩
  case round =>
    obtain ⟨p, q, out, HE, HLN, ⟨Ap, cp, rfl, hcp1, hcp2, hrp⟩, ⟨Aq, cq, rfl, hcq1, hcq2, hrq⟩, HO, hb2⟩ := hrel
    have HP := Lib.hid hrp
    have HQ := Lib.hid hrq
    clear hrp hrq HS1 HS2
    have hmp : cp ≤ 9223372036854775807 := by unfold maxLen at hcp2; omega
    have hmq : cq ≤ 9223372036854775807 := by unfold maxLen at hcq2; omega
    rcases p with _ | ⟨⟨p1, p2⟩, p⟩
    · simp only [List.length_nil]
      have HE2 := Lib.hid (show out = res by have := HE.out; rw [andW_nil_left, List.append_nil, HRES.out] at this; exact this.symm)
      go_wp2
      go_ret
      exact ⟨_, rfl, by rw [← HE2.out]; exact HO.out.less hb12.size, bel_trans hb12 hb2⟩
    · rcases q with _ | ⟨⟨q1, q2⟩, q⟩
      · have HE2 := Lib.hid (show out = res by have := HE.out; rw [andW_nil_right, List.append_nil, HRES.out] at this; exact this.symm)
        simp only [List.length_nil, List.length_cons]
        go_wp2
        go_ret
        exact ⟨_, rfl, by rw [← HE2.out]; exact HO.out.less hb12.size, bel_trans hb12 hb2⟩
      · obtain ⟨b1, o1, x1, x2, rfl, hb1l, e1, f1, f2⟩ := (HP.out.below hb2).at_ (k := 0) (by simp)
        obtain ⟨b3, o3, y1, y2, rfl, hb3l, e3, g1, g2⟩ := (HQ.out.below hb2).at_ (k := 0) (by simp)
        simp at e1 e3
        obtain ⟨rfl, rfl⟩ := e1
        obtain ⟨rfl, rfl⟩ := e3
        simp only [Nat.zero_mul, Nat.add_zero] at f1 f2 g1 g2
        simp only [List.length_cons] at hcp1 hcq1 ⊢
        have HBO := Lib.hid (both_any (p1, p2) (q1, q2))
        unfold rv at HBO
        simp only at HBO
        have HLN2 := Lib.hid (show out.length + (p.length + 1) + (q.length + 1) ≤ la.length + lb.length from HLN.out)
        clear HLN
        generalize hnp : p.length = np at *
        generalize hnq : q.length = nq0 at *
        have HNP := Lib.hid hnp
        have HNQ := Lib.hid hnq
        clear hnp hnq
        have HTP := Lib.hid (Sl.tail HP.out HNP.out hcp1 hcp2)
        have HTQ := Lib.hid (Sl.tail HQ.out HNQ.out hcq1 hcq2)
        have HSP := Lib.hid (Sl.same HP.out HNP.out hcp1 hcp2)
        have HSQ := Lib.hid (Sl.same HQ.out HNQ.out hcq1 hcq2)
        have hol := Lib.hid (show out.length ≤ 800000 by have := HLN2.out; have := HL1.out; have := HL2.out; omega)
        have hbw1 : b1 < wr.heap.size := by have := hb2.size; omega
        have hbw3 : b3 < wr.heap.size := by have := hb2.size; omega
        go_wp2
        have A4 := fourA (o := .cells #[.int .i64 0, .int .i64 0] 32) f1 f2 g1 g2
        obtain ⟨a1, a2, a3, a4⟩ := A4
        have ne1 : b1 ≠ wr.heap.size := by omega
        have ne3 : b3 ≠ wr.heap.size := by omega
        go_region_held3 (fun W => W.cell? ⟨b1, o1, none⟩ = some (.int .i64 p1) ∧ W.cell? ⟨b1, o1 + 1, none⟩ = some (.int .i64 p2) ∧ W.cell? ⟨b3, o3, none⟩ = some (.int .i64 q1) ∧ W.cell? ⟨b3, o3 + 1, none⟩ = some (.int .i64 q2)) (first | exact ⟨f1, f2, g1, g2⟩ | exact ⟨a1, a2, a3, a4⟩ | exact four hb3 f1 f2 g1 g2 | exact four hb3 a1 a2 a3 a4 | exact fourB (by assumption) | exact fourB (four hb3 f1 f2 g1 g2) | exact fourS (by assumption) ne1 ne3) (first | (go_at_call 45; refine (HBO.out _).mono ?_; rintro e w3 ⟨rfl, hb3⟩; try (have hk := box_after hb3; obtain ⟨k1, k2, k3, k4⟩ := hk)))
        all_goals first
          | (have hbx := box_put hb3 (max p1 q1) (min p2 q2)
             obtain ⟨W4, hW4⟩ : ∃ W, W = (w3.setCell ⟨wr.heap.size, 0, none⟩ (.int .i64 (max p1 q1))).setCell ⟨wr.heap.size, 1, none⟩ (.int .i64 (min p2 q2)) := ⟨_, rfl⟩
             rw [← hW4] at hbx ⊢
             obtain ⟨hb5, m1, m2⟩ := hbx
             clear k1 k2 k3 k4 hW4 hb3
             obtain ⟨bx, hbx⟩ : ∃ x, x = wr.heap.size := ⟨_, rfl⟩
             rw [← hbx] at m1 m2 ⊢
             clear hbx)
          | (have hbx := box_new hb3 (max p1 q1) (min p2 q2)
             obtain ⟨W4, hW4⟩ : ∃ W, W = w3.alloc (.cells #[.int .i64 (max p1 q1), .int .i64 (min p2 q2)] 32) := ⟨_, rfl⟩
             rw [← hW4] at hbx ⊢
             obtain ⟨hb5, m1, m2⟩ := hbx
             clear hW4 hb3
             obtain ⟨bx, hbx⟩ : ∃ x, x = w3.heap.size := ⟨_, rfl⟩
             rw [← hbx] at m1 m2 ⊢
             clear hbx)
        all_goals (
          have HO5 := Lib.hid (HO.out.below hb5)
          have HB5 := Lib.hid (bel_trans' (Nat.le_refl _) hb2 (hb5.mono (Nat.le_refl _)))
          have hsz := Lib.hid HB5.out.size
          have f1' : W4.cell? ⟨b1, o1, none⟩ = some (.int .i64 p1) := (hb5.cell (p := ⟨b1, o1, none⟩) hbw1).trans f1
          have f2' : W4.cell? ⟨b1, o1 + 1, none⟩ = some (.int .i64 p2) := (hb5.cell (p := ⟨b1, o1 + 1, none⟩) hbw1).trans f2
          have g1' : W4.cell? ⟨b3, o3, none⟩ = some (.int .i64 q1) := (hb5.cell (p := ⟨b3, o3, none⟩) hbw3).trans g1
          have g2' : W4.cell? ⟨b3, o3 + 1, none⟩ = some (.int .i64 q2) := (hb5.cell (p := ⟨b3, o3 + 1, none⟩) hbw3).trans g2
          rcases Classical.em (max p1 q1 ≤ min p2 q2) with hin | hin
          · have hd : decide (max p1 q1 ≤ min p2 q2) = true := decide_eq_true hin
            go_wp2_with (at_builtin; refine wpList_append_own _ rfl _ _ 22 rfl w2.heap.size 32 i0 (.agg #[.int .i64 0, .int .i64 0]) 2 16 Try.underlying22 hi hz0 hz1 hz2 rfl (by omega) _ _ _ rfl (HO5.out.alloc _) ⟨W4.heap.size, 0, none⟩ 1 1 [.int .i64 (max p1 q1), .int .i64 (min p2 q2)] rfl rfl (two_cells _ _ _ _) (ones2 _ _) ?c3 ?c4 ?c5 ?_)
            case c3 => have := hol.out; unfold maxLen; omega
            case c4 => have := hol.out; omega
            case c5 => have := hsz.out; simp; omega
            intro v' w6 hown' hgrow _
            have R := push_rel hb2 hb5 HO.out hown' hgrow
            clear hown' hgrow
            have R1 := Lib.hid R.1; have R2 := R.2
            clear R f1' f2' g1' g2'
            have f1' : w6.cell? ⟨b1, o1, none⟩ = some (.int .i64 p1) := ((R2.cell (p := ⟨b1, o1, none⟩) hb1l).trans (hb2.cell (p := ⟨b1, o1, none⟩) hb1l).symm).trans f1
            have f2' : w6.cell? ⟨b1, o1 + 1, none⟩ = some (.int .i64 p2) := ((R2.cell (p := ⟨b1, o1 + 1, none⟩) hb1l).trans (hb2.cell (p := ⟨b1, o1 + 1, none⟩) hb1l).symm).trans f2
            have g1' : w6.cell? ⟨b3, o3, none⟩ = some (.int .i64 q1) := ((R2.cell (p := ⟨b3, o3, none⟩) hb3l).trans (hb2.cell (p := ⟨b3, o3, none⟩) hb3l).symm).trans g1
            have g2' : w6.cell? ⟨b3, o3 + 1, none⟩ = some (.int .i64 q2) := ((R2.cell (p := ⟨b3, o3 + 1, none⟩) hb3l).trans (hb2.cell (p := ⟨b3, o3 + 1, none⟩) hb3l).symm).trans g2
            rcases Classical.em (p2 < q2) with hlt | hlt
            · have hd2 : decide (p2 < q2) = true := decide_eq_true hlt
              have HE2 := Lib.hid (and_in_lt HE.out hin hlt)
              go_wp2
              go_quiet (fail)
              go_wp2
              go_roundw
              case rel => exact ⟨p, (q1, q2) :: q, _, HE2.out, (by have h1 := HLN2.out; have h2 := HNP.out; have h3 := HNQ.out; show List.length _ + List.length _ + List.length _ ≤ _; simp; omega), HTP.out, HSQ.out, R1.out, below_drews R2 nq⟩
              case measure => simp [lenV]
            · have hd2 : decide (p2 < q2) = false := decide_eq_false hlt
              have HE2 := Lib.hid (and_in_ge HE.out hin hlt)
              go_wp2
              go_quiet (fail)
              go_wp2
              go_roundw
              case rel => exact ⟨(p1, p2) :: p, q, _, HE2.out, (by have h1 := HLN2.out; have h2 := HNP.out; have h3 := HNQ.out; show List.length _ + List.length _ + List.length _ ≤ _; simp; omega), HSP.out, HTQ.out, R1.out, below_drews R2 nq⟩
              case measure => simp [lenV]
          · have hd : decide (max p1 q1 ≤ min p2 q2) = false := decide_eq_false hin
            rcases Classical.em (p2 < q2) with hlt | hlt
            · have hd2 : decide (p2 < q2) = true := decide_eq_true hlt
              have HE2 := Lib.hid (and_no_lt HE.out hin hlt)
              go_wp2
              go_quiet (fail)
              go_wp2
              go_roundw
              case rel => exact ⟨p, (q1, q2) :: q, _, HE2.out, (by have h1 := HLN2.out; have h2 := HNP.out; have h3 := HNQ.out; show List.length _ + List.length _ + List.length _ ≤ _; simp; omega), HTP.out, HSQ.out, HO5.out, below_drews HB5.out nq⟩
              case measure => simp [lenV]
            · have hd2 : decide (p2 < q2) = false := decide_eq_false hlt
              have HE2 := Lib.hid (and_no_ge HE.out hin hlt)
              go_wp2
              go_quiet (fail)
              go_wp2
              go_roundw
              case rel => exact ⟨(p1, p2) :: p, q, _, HE2.out, (by have h1 := HLN2.out; have h2 := HNP.out; have h3 := HNQ.out; show List.length _ + List.length _ + List.length _ ≤ _; simp; omega), HSP.out, HTQ.out, HO5.out, below_drews HB5.out nq⟩
              case measure => simp [lenV])
end Go.Proofs.Ytfjcljhodnkieaa
