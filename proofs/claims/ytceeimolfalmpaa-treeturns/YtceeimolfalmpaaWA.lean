/-
  A tree's weight (States), of the page's own: a number it hands back. Conditions: at most 20000 nodes, each with at most 1000000 ranges.
-/
import Derived.Test.YtceeimolfalmpaaVY
import Derived.Test.YtceeimolfalmpaaTU
import Derived.StillTailTactics
namespace Go.Proofs.Ytceeimolfalmpaa
open Go.RowKit ObSets ObTree ObTree.Tree

theorem plus_v (a b : Int) (w : World) : Calls Try.prog 70 #[.int .i64 a, .int .i64 b] w (fun e w' => e = .returned (.int .i64 (plusV a b)) ∧ w' = w) := (plus_any a b w).mono fun _ _ h => ⟨h.1, h.2.symm⟩
/-- What stands while one node is weighed. -/
def StS (W1 : World) (B g n b : Nat) (x : Nd) (As : Option Addr) (sl ks : Nat) (V : World) (zs : List Int) : Prop :=
  zs.length = n ∧ V.ownsRow B 3 1 (.slice (some ⟨g, 0, none⟩) n n) n (ints zs) ∧ W1.grownBy V (some g) ∧ V.heap[b]? = some (.cells (ndCells x As sl ks) 35)
theorem StS.drew {W1 : World} {B g n b : Nat} {x : Nd} {As : Option Addr} {sl ks : Nat} {V : World} {zs : List Int} (h : StS W1 B g n b x As sl ks V zs) : StS W1 B g n b x As sl ks V.drew zs :=
  ⟨h.1, S.own_below h.2.1 (Below.refl _ _).drew, ⟨h.2.2.1.os, h.2.2.1.tape, h.2.2.1.output, h.2.2.1.size, h.2.2.1.block⟩, h.2.2.2⟩
theorem StS.put {W1 : World} {B g n b : Nat} {x : Nd} {As : Option Addr} {sl ks : Nat} {V : World} {zs : List Int} (h : StS W1 B g n b x As sl ks V zs) (hb : b ≠ g) (i : Nat) (v : Int) : StS W1 B g n b x As sl ks (V.setCell ⟨g, i, none⟩ (.int .i64 v)) (zs.set i v) :=
  ⟨by rw [List.length_set]; exact h.1, put_row h.2.1 i v, grown_trans h.2.2.1 (grown_set0 V g i (.int .i64 v)) (fun k hk => .inl hk), (Below.heap_setCell V ⟨g, i, none⟩ (.int .i64 v) b hb).trans h.2.2.2⟩
theorem StS.cells {W1 : World} {B g n b : Nat} {x : Nd} {As : Option Addr} {sl ks : Nat} {V : World} {zs : List Int} (h : StS W1 B g n b x As sl ks V zs) : V.cell? ⟨b, 0, none⟩ = some (.int .i64 x.kind) ∧ V.cell? ⟨b, 1, none⟩ = some (.int .i64 x.a) ∧ V.cell? ⟨b, 2, none⟩ = some (.int .i64 x.b) ∧ V.cell? ⟨b, 4, none⟩ = some (.int .i64 x.mn) ∧ V.cell? ⟨b, 5, none⟩ = some (.int .i64 x.mx) := by
  obtain ⟨⟨q0, q1, q2, _, q4, q5, _⟩, _⟩ := blk7 h.2.2.2
  exact ⟨q0, q1, q2, q4, q5⟩
theorem StS.at_ {W1 : World} {B g n b : Nat} {x : Nd} {As : Option Addr} {sl ks : Nat} {V : World} {zs : List Int} (h : StS W1 B g n b x As sl ks V zs) {i : Nat} (hi : i < n) : ∃ s, V.cell? ⟨g, i, none⟩ = some (.int .i64 s) ∧ V.frozen? ⟨g, i, none⟩ = false := by
  obtain ⟨s, hs⟩ := at_some h.1 hi
  obtain ⟨p1, p2, _, _⟩ := own_cell h.2.1 hs
  exact ⟨s, p1, p2⟩
set_option maxHeartbeats 8000000 in
set_option maxRecDepth 100000 in
theorem states_any (A : Option Addr) (n c : Nat) (L : List Nd) (w : World) (hN : Nr w A L) (hn : L.length = n) (hnb : n ≤ 20000) (hs : ∀ x ∈ L, x.set.length ≤ 1000000) :
    Calls Try.prog 59 #[tr A n c] w (RetI w) := by
  have HN := Lib.hid hN; have HLN := Lib.hid hn; have HS := Lib.hid hs
  clear hN hn hs
  have ha0 := (Below.refl w.heap.size w).alloc (Nat.le_refl _) (.cells #[.slice A n c] 24)
  have hz : (w.alloc (.cells #[.slice A n c] 24)).heap.size = w.heap.size + 1 := by simp
  have hGA := heap_new w (.cells #[.slice A n c] 24)
  go_enter Try.func59, Try.ntmps59
  go_upto_region 1 with fail
  generalize w.alloc (.cells #[.slice A n c] 24) = W0 at *
  have HSO := Lib.hid (sound_any A n c L W0 (HN.out.below ha0) HLN.out hnb HS.out)
  have HA0 := Lib.hid ha0
  have HO0 := Lib.hid hGA
  obtain ⟨a0, _⟩ := obj29 hGA
  clear hGA ha0
  go_wp2_with fail
  refine HSO.out.mono ?_
  rintro e w1 ⟨q, rfl, hq, hb1⟩
  have HB0 := Lib.hid (HA0.out.trans (hb1.mono HA0.out.size))
  have hO0 := keepL HO0.out hb1
  obtain ⟨o1, _⟩ := obj29 hO0
  have hw1 := hb1.size
  clear hb1 a0
  cases q with
  | false =>
    clear hq
    go_wp2_with fail
    go_ret
    exact ⟨_, rfl, HB0.out⟩
  | true =>
    have HSD := Lib.hid (hq.1 rfl)
    clear hq
    obtain ⟨W1, hrun, hown, hg1⟩ := make_ints n w.heap.size w1 hnb (by omega)
    have HB1 := Lib.hid (HB0.out.trans (below_grown hg1 (by omega) (fun k hk => by cases hk)))
    have HO1 := Lib.hid (keepG hO0 hg1 (fun k hk => by cases hk))
    obtain ⟨g, hg⟩ : ∃ g, w1.heap.size = g := ⟨_, rfl⟩
    rw [hg] at hrun hown
    have hgl := hown.lt g rfl
    have HOWN := Lib.hid hown
    have hgw : w.heap.size < g := by omega
    have h0n : 0 < n := by have := HSD.out.1; rw [HLN.out] at this; exact this
    clear hown hg1 hg hO0
    go_wp2_with fail
    go_loopw [4] (fun ti wr => ∃ (i : Nat) (zs : List Int), ti = .int .i64 (i : Int) ∧ i ≤ n ∧ zs.length = n ∧ Hid (wr.ownsRow w.heap.size 3 1 (.slice (some ⟨g, 0, none⟩) n n) n (ints zs)) ∧ Hid (W1.grownBy wr (some g))) (fun ti _ => n - (intOf ti).toNat)
    case atStart => exact ⟨0, List.replicate n 0, rfl, Nat.zero_le _, by simp, HOWN, Lib.hid (World.grownBy.refl _ _)⟩
    case round =>
      obtain ⟨i, zs, rfl, hi, hzs, HR, HG⟩ := hrel
      have hgs := HG.out.size
      have HB2 := Lib.hid (HB1.out.trans (below_grown HG.out HB1.out.size (fun k hk => by injection hk with hk; omega)))
      have HO2 := Lib.hid (keepG HO1.out HG.out (fun k hk => by injection hk with hk; omega))
      obtain ⟨o0, _⟩ := obj29 HO2.out
      by_cases hin : i < n
      · have d1 : decide (i < n) = true := decide_eq_true hin
        have hin' : (i : Int) < (n : Int) := by omega
        obtain ⟨x, hx⟩ : ∃ x, L[i]? = some x := ⟨_, List.getElem?_eq_getElem (by rw [HLN.out]; exact hin)⟩
        obtain ⟨bb, off, rfl, hbl, hnd⟩ := nr_at HN.out hx
        obtain ⟨As, ks, ⟨c0, c1, c2, c3, c4, c5, c6⟩, _⟩ := hnd.below hbl HB2.out
        obtain ⟨sl, hsl⟩ : ∃ sl, x.set.length = sl := ⟨_, rfl⟩
        rw [hsl] at c3
        have HKX := Lib.hid ((HSD.out.2.1 i x (by rw [HLN.out]; exact hin) hx).2)
        have hWX := (Below.refl wr.heap.size wr).alloc (Nat.le_refl _) (.cells (ndCells x As sl ks) 35)
        have HT := Lib.hid (show StS W1 w.heap.size g n wr.heap.size x As sl ks (wr.alloc (.cells (ndCells x As sl ks) 35)) zs from ⟨hzs, S.own_below HR.out hWX, grown_trans HG.out (below_grownBy (r := none) hWX) (fun k hk => by cases hk), heap_new wr _⟩)
        obtain ⟨bk, hbk⟩ : ∃ bk, wr.heap.size = bk := ⟨_, rfl⟩
        have hbg : bk ≠ g := by omega
        rw [hbk] at HT
        clear hnd hx hWX hsl
        by_cases h5 : x.kind = 5
        · have e5 : (x.kind == 5) = true := by simp [h5]
          have hkk : kids x = [x.a, x.b] := kids_two (by rw [h5]; decide)
          obtain ⟨a0, a1⟩ := HKX.out x.a (by rw [hkk]; simp)
          obtain ⟨an, ha⟩ := Int.eq_ofNat_of_zero_le a0
          obtain ⟨b0, b1⟩ := HKX.out x.b (by rw [hkk]; simp)
          obtain ⟨bn, hb⟩ := Int.eq_ofNat_of_zero_le b0
          obtain ⟨q0, q1, q2, q4, q5⟩ := HT.out.cells
          rw [ha] at q1
          rw [hb] at q2
          obtain ⟨si, pi, fi⟩ := HT.out.at_ (i := i) (by omega)
          obtain ⟨sa, pa, fa⟩ := HT.out.at_ (i := an) (by omega)
          obtain ⟨sb, pb, fb⟩ := HT.out.at_ (i := bn) (by omega)
          have hai : (an : Int) < (n : Int) := by omega
          have hbi : (bn : Int) < (n : Int) := by omega
          clear ha hb a0 a1 b0 b1
          clear h5 hkk
          go_wp2_with fail
          generalize wr.alloc (.cells #[.int .i64 x.kind, .int .i64 x.a, .int .i64 x.b, .slice As sl ks, .int .i64 x.mn, .int .i64 x.mx, .int .i64 x.n] 35) = w7 at *
          clear c0 c1 c2 c3 c4 c5 c6
          go_still_tail 14, (by kernel_rfl)
          still_call (plus_v _ _ _)
          repeat still_step
          refine wpStill_nil ?_
          change wpList _ _ _ _ _ w7.drew
          have HT := Lib.hid HT.out.drew
          have fi : w7.drew.frozen? ⟨g, i, none⟩ = false := fi
          have pi : w7.drew.cell? ⟨g, i, none⟩ = some (.int .i64 si) := pi
          generalize w7.drew = wd at *
          go_wp2_with fail
          go_roundw
          case rel => exact ⟨i + 1, _, congrArg (Value.int .i64) (by omega), hin, (HT.out.put hbg i _).1, Lib.hid (HT.out.put hbg i _).2.1, Lib.hid (HT.out.put hbg i _).2.2.1⟩
          case measure => simp [intOf]; omega
        · have e5 : (x.kind == 5) = false := beq_eq_false_iff_ne.2 h5
          clear h5
          by_cases h6 : x.kind = 6
          · have e6 : (x.kind == 6) = true := by simp [h6]
            have hkk : kids x = [x.a, x.b] := kids_two (by rw [h6]; decide)
            obtain ⟨a0, a1⟩ := HKX.out x.a (by rw [hkk]; simp)
            obtain ⟨an, ha⟩ := Int.eq_ofNat_of_zero_le a0
            obtain ⟨b0, b1⟩ := HKX.out x.b (by rw [hkk]; simp)
            obtain ⟨bn, hb⟩ := Int.eq_ofNat_of_zero_le b0
            obtain ⟨q0, q1, q2, q4, q5⟩ := HT.out.cells
            rw [ha] at q1
            rw [hb] at q2
            obtain ⟨si, pi, fi⟩ := HT.out.at_ (i := i) (by omega)
            obtain ⟨sa, pa, fa⟩ := HT.out.at_ (i := an) (by omega)
            obtain ⟨sb, pb, fb⟩ := HT.out.at_ (i := bn) (by omega)
            have hai : (an : Int) < (n : Int) := by omega
            have hbi : (bn : Int) < (n : Int) := by omega
            clear ha hb a0 a1 b0 b1
            clear h6 hkk
            go_wp2_with fail
            generalize wr.alloc (.cells #[.int .i64 x.kind, .int .i64 x.a, .int .i64 x.b, .slice As sl ks, .int .i64 x.mn, .int .i64 x.mx, .int .i64 x.n] 35) = w7 at *
            clear c0 c1 c2 c3 c4 c5 c6
            go_still_tail 15, (by kernel_rfl)
            still_call (plus_v _ _ _)
            repeat still_step
            still_call (plus_v _ _ _)
            repeat still_step
            refine wpStill_nil ?_
            change wpList _ _ _ _ _ w7.drew
            have HT := Lib.hid HT.out.drew
            have fi : w7.drew.frozen? ⟨g, i, none⟩ = false := fi
            have pi : w7.drew.cell? ⟨g, i, none⟩ = some (.int .i64 si) := pi
            generalize w7.drew = wd at *
            go_wp2_with fail
            go_roundw
            case rel => exact ⟨i + 1, _, congrArg (Value.int .i64) (by omega), hin, (HT.out.put hbg i _).1, Lib.hid (HT.out.put hbg i _).2.1, Lib.hid (HT.out.put hbg i _).2.2.1⟩
            case measure => simp [intOf]; omega
          · have e6 : (x.kind == 6) = false := beq_eq_false_iff_ne.2 h6
            clear h6
            by_cases h8 : x.kind = 8 ∨ x.kind = 9
            · have hkk : kids x = [x.a] := kids_one (.inr h8)
              obtain ⟨a0, a1⟩ := HKX.out x.a (by rw [hkk]; simp)
              obtain ⟨an, ha⟩ := Int.eq_ofNat_of_zero_le a0
              obtain ⟨q0, q1, q2, q4, q5⟩ := HT.out.cells
              rw [ha] at q1
              obtain ⟨si, pi, fi⟩ := HT.out.at_ (i := i) (by omega)
              obtain ⟨sa, pa, fa⟩ := HT.out.at_ (i := an) (by omega)
              have hai : (an : Int) < (n : Int) := by omega
              have HAN := Lib.hid ha
              clear ha a0 a1
              rcases h8 with h | h
              · have e8 : (x.kind == 8) = true := by simp [h]
                clear h hkk
                go_wp2_with fail
                refine (plus_v _ _ _).mono ?_
                rintro e w9 ⟨rfl, rfl⟩
                go_wp2_with fail
                go_roundw
                case rel => exact ⟨i + 1, _, congrArg (Value.int .i64) (by omega), hin, (HT.out.put hbg i _).1, Lib.hid (HT.out.put hbg i _).2.1, Lib.hid (HT.out.put hbg i _).2.2.1⟩
                case measure => simp [intOf]; omega
              · have e9 : (x.kind == 9) = true := by simp [h]
                have e8 : (x.kind == 8) = false := by simp [h]
                clear h hkk
                go_wp2_with fail
                refine (plus_v _ _ _).mono ?_
                rintro e w9 ⟨rfl, rfl⟩
                go_wp2_with fail
                go_roundw
                case rel => exact ⟨i + 1, _, congrArg (Value.int .i64) (by omega), hin, (HT.out.put hbg i _).1, Lib.hid (HT.out.put hbg i _).2.1, Lib.hid (HT.out.put hbg i _).2.2.1⟩
                case measure => simp [intOf]; omega
            · have e8 : (x.kind == 8) = false := beq_eq_false_iff_ne.2 fun h => h8 (.inl h)
              have e9 : (x.kind == 9) = false := beq_eq_false_iff_ne.2 fun h => h8 (.inr h)
              clear h8
              by_cases h7 : x.kind = 7
              · have e7 : (x.kind == 7) = true := by simp [h7]
                have hkk : kids x = [x.a] := kids_one (.inl h7)
                obtain ⟨a0, a1⟩ := HKX.out x.a (by rw [hkk]; simp)
                obtain ⟨an, ha⟩ := Int.eq_ofNat_of_zero_le a0
                obtain ⟨q0, q1, q2, q4, q5⟩ := HT.out.cells
                rw [ha] at q1
                obtain ⟨si, pi, fi⟩ := HT.out.at_ (i := i) (by omega)
                obtain ⟨sa, pa, fa⟩ := HT.out.at_ (i := an) (by omega)
                have hai : (an : Int) < (n : Int) := by omega
                have HAN := Lib.hid ha
                clear ha a0 a1
                clear h7 hkk
                go_wp2_with fail
                generalize wr.alloc (.cells #[.int .i64 x.kind, .int .i64 x.a, .int .i64 x.b, .slice As sl ks, .int .i64 x.mn, .int .i64 x.mx, .int .i64 x.n] 35) = w7 at *
                clear c0 c1 c2 c3 c4 c5 c6
                go_still_tail 11, (by kernel_rfl)
                still_call (mul_v _ _ _)
                repeat still_step
                refine wpStill_nil ?_
                change wpList _ _ _ _ _ w7.drew
                have HT := Lib.hid HT.out.drew
                have fi0 : w7.drew.frozen? ⟨g, i, none⟩ = false := fi
                have pi0 : w7.drew.cell? ⟨g, i, none⟩ = some (.int .i64 si) := pi
                have qi0 := HT.out.cells
                generalize w7.drew = wd at *
                clear q0 q1 q2 q4 q5 pi fi pa fa
                have HM := Lib.hid (fun (v : Int) => HT.out.put hbg i v)
                obtain ⟨vm, hvm⟩ : ∃ vm, mulV x.mn sa = vm := ⟨_, rfl⟩
                try rw [hvm]
                have HT := Lib.hid (HM.out vm)
                obtain ⟨q0, q1, q2, q4, q5⟩ := HT.out.cells
                rw [HAN.out] at q1
                obtain ⟨si, pi, fi⟩ := HT.out.at_ (i := i) (by omega)
                obtain ⟨sa, pa, fa⟩ := HT.out.at_ (i := an) (by omega)
                by_cases hm1 : x.mx = -1
                · have m1 : (x.mx == -1) = true := by simp [hm1]
                  have m0 : (x.mx == 0) = false := by simp [hm1]
                  clear hm1
                  go_wp2_with fail
                  generalize wd.setCell ⟨g, i, none⟩ (.int .i64 vm) = w8 at *
                  go_still_tail 14, (by kernel_rfl)
                  still_call (plus_v _ _ _)
                  repeat still_step
                  still_call (plus_v _ _ _)
                  repeat still_step
                  refine wpStill_nil ?_
                  change wpList _ _ _ _ _ w8.drew
                  have HT := Lib.hid HT.out.drew
                  have fi1 : w8.drew.frozen? ⟨g, i, none⟩ = false := fi
                  have pi1 : w8.drew.cell? ⟨g, i, none⟩ = some (.int .i64 si) := pi
                  have HZ := Lib.hid (fun (v : Int) => (HT.out.put hbg i v))
                  generalize w8.drew = we at *
                  have y5 := fun (v : Int) => (HZ.out v).cells.2.2.2.2
                  clear q0 q1 q2 q4 q5 pi fi pa fa
                  obtain ⟨vn, hvn⟩ : ∃ vn, plusV si (plusV sa 1) = vn := ⟨_, rfl⟩
                  try rw [hvn]
                  have y5 := y5 vn
                  go_wp2_with fail
                  go_roundw
                  case rel => exact ⟨i + 1, _, congrArg (Value.int .i64) (by omega), hin, (HZ.out vn).1, Lib.hid (HZ.out vn).2.1, Lib.hid (HZ.out vn).2.2.1⟩
                  case measure => simp [intOf]; omega
                · have m1 : (x.mx == -1) = false := beq_eq_false_iff_ne.2 hm1
                  clear hm1
                  go_wp2_with fail
                  generalize wd.setCell ⟨g, i, none⟩ (.int .i64 vm) = w8 at *
                  go_still_tail 20, (by kernel_rfl)
                  still_call (plus_v _ _ _)
                  repeat still_step
                  still_call (mul_v _ _ _)
                  repeat still_step
                  still_call (plus_v _ _ _)
                  repeat still_step
                  refine wpStill_nil ?_
                  change wpList _ _ _ _ _ w8.drew
                  have HT := Lib.hid HT.out.drew
                  have fi1 : w8.drew.frozen? ⟨g, i, none⟩ = false := fi
                  have pi1 : w8.drew.cell? ⟨g, i, none⟩ = some (.int .i64 si) := pi
                  have HZ := Lib.hid (fun (v : Int) => (HT.out.put hbg i v))
                  generalize w8.drew = we at *
                  clear q0 q1 q2 q4 q5 pi fi pa fa
                  generalize plusV si _ = vn
                  have y5 := (HZ.out vn).cells.2.2.2.2
                  obtain ⟨sj, pj, fj⟩ := (HZ.out vn).at_ (i := i) (by omega)
                  by_cases hm0 : x.mx = 0
                  · have m0 : (x.mx == 0) = true := by simp [hm0]
                    clear hm0
                    go_wp2_with fail
                    go_roundw
                    case rel => exact ⟨i + 1, _, congrArg (Value.int .i64) (by omega), hin, ((HZ.out vn).put hbg i 1).1, Lib.hid ((HZ.out vn).put hbg i 1).2.1, Lib.hid ((HZ.out vn).put hbg i 1).2.2.1⟩
                    case measure => simp [intOf]; omega
                  · have m0 : (x.mx == 0) = false := beq_eq_false_iff_ne.2 hm0
                    clear hm0
                    go_wp2_with fail
                    go_roundw
                    case rel => exact ⟨i + 1, _, congrArg (Value.int .i64) (by omega), hin, (HZ.out vn).1, Lib.hid (HZ.out vn).2.1, Lib.hid (HZ.out vn).2.2.1⟩
                    case measure => simp [intOf]; omega
              · have e7 : (x.kind == 7) = false := beq_eq_false_iff_ne.2 h7
                clear h7
                obtain ⟨q0, q1, q2, q4, q5⟩ := HT.out.cells
                obtain ⟨si, pi, fi⟩ := HT.out.at_ (i := i) (by omega)
                go_wp2_with fail
                go_roundw
                case rel => exact ⟨i + 1, _, congrArg (Value.int .i64) (by omega), hin, (HT.out.put hbg i 1).1, Lib.hid (HT.out.put hbg i 1).2.1, Lib.hid (HT.out.put hbg i 1).2.2.1⟩
                case measure => simp [intOf]; omega
      · have d1 : decide (i < n) = false := decide_eq_false hin
        obtain rfl : i = n := by omega
        obtain ⟨i', rfl⟩ : ∃ i', i = i' + 1 := ⟨i - 1, by omega⟩
        obtain ⟨s1, hs1⟩ := at_some hzs (Nat.lt_succ_self i')
        obtain ⟨p1, p2, _, _⟩ := own_cell HR.out hs1
        have e5 : ((i' + 1 : Nat) : Int) - 1 = (i' : Int) := by omega
        go_wp2_with fail
        refine (plus_v _ _ _).mono ?_
        rintro e w9 ⟨rfl, rfl⟩
        go_wp2_with fail
        go_ret
        exact ⟨_, rfl, HB2.out⟩
end Go.Proofs.Ytceeimolfalmpaa
