/-
  A tree's product (Product), of the page's own: a number it hands back. Conditions: at most 20000 nodes, each with at most 1000000 ranges.
-/
import Derived.Test.YtceeimolfalmpaaTT
import Derived.StillTailTactics
namespace Go.Proofs.Ytceeimolfalmpaa
open Go.RowKit ObSets ObTree ObTree.Tree

noncomputable def mulV (a b : Int) : Int := (mul_any a b).choose
theorem mul_v (a b : Int) (w : World) : Calls Try.prog 71 #[.int .i64 a, .int .i64 b] w fun e w' => e = .returned (.int .i64 (mulV a b)) ∧ w' = w := ((mul_any a b).choose_spec w).mono fun _ _ h => ⟨h.1, h.2.symm⟩
/-- What a call hands back: some number; nothing else is touched. -/
def RetI (w : World) (e : Ending) (w' : World) : Prop := ∃ v : Int, e = .returned (.int .i64 v) ∧ Below w.heap.size w w'
theorem at_some {zs : List Int} {n i : Nat} (hz : zs.length = n) (hi : i < n) : ∃ s, zs[i]? = some s := ⟨_, List.getElem?_eq_getElem (by rw [hz]; exact hi)⟩
theorem put_row {w : World} {B g n : Nat} {zs : List Int} (h : w.ownsRow B 3 1 (.slice (some ⟨g, 0, none⟩) n n) n (ints zs)) (k : Nat) (u : Int) :
    (w.setCell ⟨g, k, none⟩ (.int .i64 u)).ownsRow B 3 1 (.slice (some ⟨g, 0, none⟩) n n) n (ints (zs.set k u)) := by
  have := own_put h k (.int .i64 u)
  unfold ints at this ⊢
  rw [List.map_set]; exact this
set_option maxHeartbeats 4000000 in
set_option maxRecDepth 100000 in
theorem product_any (A : Option Addr) (n c : Nat) (L : List Nd) (w : World) (hN : Nr w A L) (hn : L.length = n) (hnb : n ≤ 20000) (hs : ∀ x ∈ L, x.set.length ≤ 1000000) :
    Calls Try.prog 60 #[tr A n c] w (RetI w) := by
  have HN := Lib.hid hN; have HLN := Lib.hid hn; have HS := Lib.hid hs
  clear hN hn hs
  have ha0 := (Below.refl w.heap.size w).alloc (Nat.le_refl _) (.cells #[.slice A n c] 24)
  have hz : (w.alloc (.cells #[.slice A n c] 24)).heap.size = w.heap.size + 1 := by simp
  have hGA := heap_new w (.cells #[.slice A n c] 24)
  go_enter Try.func60, Try.ntmps60
  go_upto_region 1 with fail
  generalize w.alloc (.cells #[.slice A n c] 24) = W0 at *
  have HSO := Lib.hid (sound_any A n c L W0 (HN.out.below ha0) HLN.out hnb HS.out)
  have HA0 := Lib.hid ha0
  have HO0 := Lib.hid hGA
  obtain ⟨a0, _⟩ := obj29 hGA
  clear hGA ha0
  go_wp2_with fail
  refine HSO.out.mono ?_
  rintro e w1 ⟨q, rfl, hq, hb1⟩
  have HB0 := Lib.hid (HA0.out.trans (hb1.mono HA0.out.size))
  have hO0 := keepL HO0.out hb1
  obtain ⟨o1, _⟩ := obj29 hO0
  have hw1 := hb1.size
  clear hb1 a0
  cases q with
  | false =>
    clear hq
    go_wp2_with fail
    go_ret
    exact ⟨_, rfl, HB0.out⟩
  | true =>
    have HSD := Lib.hid (hq.1 rfl)
    clear hq
    obtain ⟨W1, hrun, hown, hg1⟩ := make_ints n w.heap.size w1 hnb (by omega)
    have HB1 := Lib.hid (HB0.out.trans (below_grown hg1 (by omega) (fun k hk => by cases hk)))
    have HO1 := Lib.hid (keepG hO0 hg1 (fun k hk => by cases hk))
    obtain ⟨g, hg⟩ : ∃ g, w1.heap.size = g := ⟨_, rfl⟩
    rw [hg] at hrun hown
    have hgl := hown.lt g rfl
    have HOWN := Lib.hid hown
    have hgw : w.heap.size < g := by omega
    have h0n : 0 < n := by have := HSD.out.1; rw [HLN.out] at this; exact this
    clear hown hg1 hg hO0
    go_wp2_with fail
    go_loopw [4] (fun ti wr => ∃ (i : Nat) (zs : List Int), ti = .int .i64 (i : Int) ∧ i ≤ n ∧ zs.length = n ∧ Hid (wr.ownsRow w.heap.size 3 1 (.slice (some ⟨g, 0, none⟩) n n) n (ints zs)) ∧ Hid (W1.grownBy wr (some g))) (fun ti _ => n - (intOf ti).toNat)
    case atStart => exact ⟨0, List.replicate n 0, rfl, Nat.zero_le _, by simp, HOWN, Lib.hid (World.grownBy.refl _ _)⟩
    case round =>
      obtain ⟨i, zs, rfl, hi, hzs, HR, HG⟩ := hrel
      have hgs := HG.out.size
      have HB2 := Lib.hid (HB1.out.trans (below_grown HG.out HB1.out.size (fun k hk => by injection hk with hk; omega)))
      have HO2 := Lib.hid (keepG HO1.out HG.out (fun k hk => by injection hk with hk; omega))
      obtain ⟨o0, _⟩ := obj29 HO2.out
      by_cases hin : i < n
      · have d1 : decide (i < n) = true := decide_eq_true hin
        have hin' : (i : Int) < (n : Int) := by omega
        obtain ⟨x, hx⟩ : ∃ x, L[i]? = some x := ⟨_, List.getElem?_eq_getElem (by rw [HLN.out]; exact hin)⟩
        obtain ⟨s0, hs0⟩ := at_some hzs hin
        obtain ⟨q1, q2, _, q4⟩ := own_cell HR.out hs0
        have HR1 := Lib.hid (put_row HR.out i 1)
        have HG1 := Lib.hid (grown_set0 wr g i (.int .i64 1))
        have HB3 := Lib.hid (HB2.out.trans (below_grown HG1.out HB2.out.size (fun k hk => by injection hk with hk; omega)))
        obtain ⟨bb, off, rfl, hbl, hnd⟩ := nr_at HN.out hx
        obtain ⟨As, ks, ⟨c0, c1, c2, c3, c4, c5, c6⟩, _⟩ := hnd.below hbl HB3.out
        have HND := Lib.hid hnd
        have o1 := (obj29 (keepG HO2.out HG1.out (fun k hk => by injection hk with hk; omega))).1
        have HKX := Lib.hid ((HSD.out.2.1 i x (by rw [HLN.out]; exact hin) hx).2)
        have hz3 : (wr.setCell ⟨g, i, none⟩ (.int .i64 1)).heap.size = wr.heap.size := by simp [World.setCell]
        have hgl3 : g < wr.heap.size := by omega
        clear hnd hx hs0
        go_wp2_with fail
        refine (kids_any x (.slice As x.set.length ks) ⟨_, _, _, rfl⟩ _).mono ?_
        rintro e w3 ⟨v3, rfl, hk3, hb3⟩
        obtain ⟨A3, k3, rfl, hsee⟩ := row_see hk3
        obtain ⟨kl, hkl⟩ : ∃ kl, (kids x).length = kl := ⟨_, rfl⟩
        rw [hkl]
        have hkl2 : kl ≤ 2 := by rw [← hkl]; exact kids_len x
        have HSEE := Lib.hid hsee; have HKL := Lib.hid hkl
        have HR3 := Lib.hid (S.own_below HR1.out hb3)
        have HO3 := Lib.hid (keepL (keepG HO2.out HG1.out (fun k hk => by injection hk with hk; omega)) hb3)
        have HG3 := Lib.hid (grown_trans HG.out (grown_trans HG1.out (below_grownBy (r := none) hb3) (fun k hk => by cases hk)) (fun k hk => .inl hk))
        have hw3 := hb3.size
        rw [hz3] at hw3
        clear hsee hkl hk3 hb3 c0 c1 c2 c3 c4 c5 c6 o1 o0 q1 q2 q4
        go_wp2_with fail
        go_loopw [6] (fun tj wq => ∃ (j : Nat) (ys : List Int), tj = .int .i64 (j : Int) ∧ j ≤ kl ∧ ys.length = n ∧ Hid (wq.ownsRow w.heap.size 3 1 (.slice (some ⟨g, 0, none⟩) n n) n (ints ys)) ∧ Hid (w3.grownBy wq (some g))) (fun tj _ => kl - (intOf tj).toNat)
        case atStart => exact ⟨0, _, rfl, Nat.zero_le _, by rw [List.length_set]; exact hzs, HR3, Lib.hid (World.grownBy.refl _ _)⟩
        case round =>
          obtain ⟨j, ys, rfl, hj, hys, HQ, HGQ⟩ := hrel
          have hgq := HGQ.out.size
          by_cases hjk : j < kl
          · have e1 : decide (j < kl) = true := decide_eq_true hjk
            have hjk' : (j : Int) < (kl : Int) := by omega
            obtain ⟨z, hz⟩ : ∃ z, (kids x)[j]? = some z := ⟨_, List.getElem?_eq_getElem (by rw [HKL.out]; exact hjk)⟩
            obtain ⟨hz0, hz1⟩ := HKX.out z (List.mem_of_getElem? hz)
            obtain ⟨zn, rfl⟩ := Int.eq_ofNat_of_zero_le hz0
            have hzi : zn < i := by omega
            have hzn : (zn : Int) < (n : Int) := by omega
            obtain ⟨s1, hs1⟩ := at_some hys hin
            obtain ⟨s2, hs2⟩ := at_some hys (show zn < n by omega)
            obtain ⟨p1, p2, _, _⟩ := own_cell HQ.out hs1
            obtain ⟨p3, _, _, _⟩ := own_cell HQ.out hs2
            obtain ⟨g3, rfl, y1, y2, y3⟩ := HSEE.out j _ hz
            have y4 := HGQ.out.cell y3 (fun e => by injection e with e; simp at e; rw [hz3] at y1; omega)
            clear hz y3 hs1 hs2
            by_cases hmx : s1 < s2
            · go_wp2_with fail
              go_region
              go_wp2_with fail
              go_roundw
              case rel => exact ⟨j + 1, _, congrArg (Value.int .i64) (by omega), hjk, by rw [List.length_set]; exact hys, Lib.hid (S.own_below (put_row HQ.out i s2) (Below.refl _ _).drew), Lib.hid (grown_trans HGQ.out (grown_set1 wr g i _) (fun k hk => .inl hk))⟩
              case measure => simp [intOf]; omega
            · have hmx' : s2 ≤ s1 := by omega
              go_wp2_with fail
              go_region
              go_wp2_with fail
              go_roundw
              case rel => exact ⟨j + 1, _, congrArg (Value.int .i64) (by omega), hjk, by rw [List.length_set]; exact hys, Lib.hid (S.own_below (put_row HQ.out i s1) (Below.refl _ _).drew), Lib.hid (grown_trans HGQ.out (grown_set1 wr g i _) (fun k hk => .inl hk))⟩
              case measure => simp [intOf]; omega
          · have e1 : decide (j < kl) = false := decide_eq_false hjk
            have HG4 := Lib.hid (grown_trans HG3.out HGQ.out (fun k hk => .inl hk))
            have HB4 := Lib.hid (HB1.out.trans (below_grown HG4.out HB1.out.size (fun k hk => by injection hk with hk; omega)))
            obtain ⟨As, ks, ⟨c0, c1, c2, c3, c4, c5, c6⟩, _⟩ := HND.out.below hbl HB4.out
            have o4 := (obj29 (keepG HO3.out HGQ.out (fun k hk => by injection hk with hk; omega))).1
            obtain ⟨s1, hs1⟩ := at_some hys hin
            obtain ⟨p1, p2, _, _⟩ := own_cell HQ.out hs1
            clear hs1 c1 c2 c3 c4 c5
            by_cases h9 : x.kind = 9
            · have e9 : (x.kind == 9) = true := by simp [h9]
              clear h9
              go_wp2_with fail
              go_still_tail 15, (by kernel_rfl)
              still_call (mul_v _ _ _)
              repeat still_step
              refine wpStill_nil ?_
              change wpList _ _ _ _ _ wr.drew
              have p1' : wr.drew.cell? ⟨g, i, none⟩ = some (.int .i64 s1) := p1
              have p2' : wr.drew.frozen? ⟨g, i, none⟩ = false := p2
              have HQ' := Lib.hid (S.own_below HQ.out (Below.refl _ _).drew)
              have HG' := Lib.hid (show W1.grownBy wr.drew (some g) from ⟨HG4.out.os, HG4.out.tape, HG4.out.output, HG4.out.size, HG4.out.block⟩)
              generalize wr.drew = wd at *
              go_wp2_with fail
              go_roundw
              case rel => exact ⟨i + 1, _, congrArg (Value.int .i64) (by omega), hin, by rw [List.length_set]; exact hys, Lib.hid (put_row HQ'.out i _), Lib.hid (grown_trans HG'.out (grown_set0 wd g i _) (fun k hk => .inl hk))⟩
              case measure => simp [intOf]; omega
            · have e9 : (x.kind == 9) = false := beq_eq_false_iff_ne.2 h9
              clear h9
              go_wp2_with fail
              go_roundw
              case rel => exact ⟨i + 1, ys, congrArg (Value.int .i64) (by omega), hin, hys, HQ, HG4⟩
              case measure => simp [intOf]; omega
      · have d1 : decide (i < n) = false := decide_eq_false hin
        obtain rfl : i = n := by omega
        obtain ⟨i', rfl⟩ : ∃ i', i = i' + 1 := ⟨i - 1, by omega⟩
        obtain ⟨s1, hs1⟩ := at_some hzs (Nat.lt_succ_self i')
        obtain ⟨p1, p2, _, _⟩ := own_cell HR.out hs1
        have e5 : ((i' + 1 : Nat) : Int) - 1 = (i' : Int) := by omega
        go_wp2_with fail
        go_ret
        exact ⟨_, rfl, HB2.out⟩
end Go.Proofs.Ytceeimolfalmpaa
