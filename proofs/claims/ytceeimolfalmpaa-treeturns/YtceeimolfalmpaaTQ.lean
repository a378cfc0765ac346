/-
  Whether a row of nodes is a tree (Sound), of the page's own. Conditions: at most 20000 nodes, each with at most 1000000 ranges.
-/
import Derived.Test.YtceeimolfalmpaaTP
import Derived.Test.YtceeimolfalmpaaTN
namespace Go.Proofs.Ytceeimolfalmpaa
open Go.RowKit ObSets ObTree

/-- Are the first nodes right, and their kids ahead? -/
def SoundTo (L : List Nd) (m : Nat) : Prop := ∀ (i : Nat) x, i < m → L[i]? = some x → Fine x ∧ ∀ k ∈ kids x, 0 ≤ k ∧ k < (i : Int)
/-- Is a row of nodes sound? -/
def SoundL (L : List Nd) : Prop := 0 < L.length ∧ SoundTo L L.length ∧ ∀ m : Nat, m + 1 < L.length → uses L (m : Int) = 1
/-- How often each number stands among the kids of the first nodes, and among these. -/
def rowU (L : List Nd) (n i : Nat) (l : List Int) : List Int := (List.range n).map fun (m : Nat) => ((uses (L.take i) (m : Int) + l.count (m : Int) : Nat) : Int)
theorem rowU_len (L : List Nd) (n i : Nat) (l : List Int) : (rowU L n i l).length = n := by simp [rowU]
theorem rowU_get (L : List Nd) (n i : Nat) (l : List Int) {m : Nat} (h : m < n) : (rowU L n i l)[m]? = some ((uses (L.take i) (m : Int) + l.count (m : Int) : Nat) : Int) := by
  unfold rowU; rw [List.getElem?_map, List.getElem?_range h]; rfl
theorem rowU_set (L : List Nd) (n i : Nat) (l : List Int) (z : Nat) (h : z < n) : (ints (rowU L n i l)).set z (.int .i64 (((uses (L.take i) (z : Int) + l.count (z : Int) : Nat) : Int) + 1)) = ints (rowU L n i (l ++ [(z : Int)])) := by
  unfold ints
  rw [← List.map_set]
  congr 1
  apply List.ext_getElem?
  intro m
  by_cases hm : m < n
  · rw [rowU_get L n i _ hm, List.getElem?_set]
    by_cases hz : z = m
    · subst hz
      rw [if_pos rfl, if_pos (by rw [rowU_len]; exact h)]
      simp only [List.count_append, List.count_cons_self, List.count_nil]
      congr 1
    · rw [if_neg hz, rowU_get L n i _ hm, List.count_append, List.count_cons_of_ne (by simpa using fun e => hz (by omega)), List.count_nil, Nat.add_zero]
  · rw [List.getElem?_eq_none (by rw [List.length_set, rowU_len]; omega), List.getElem?_eq_none (by rw [rowU_len]; omega)]
theorem rowU_next (L : List Nd) (n i : Nat) {x : Nd} (h : L[i]? = some x) : rowU L n i (kids x) = rowU L n (i + 1) [] := by
  unfold rowU
  apply List.map_congr_left
  intro m _
  rw [List.take_add_one, h, Option.toList_some, uses_append, uses_one, List.count_nil, Nat.add_zero]
theorem rowU_zero (L : List Nd) (n : Nat) : rowU L n 0 [] = List.replicate n 0 := by
  apply List.ext_getElem
  · simp [rowU]
  · intro m h1 h2; simp [rowU, uses]
theorem uses_le (L : List Nd) (m : Int) : uses L m ≤ 2 * L.length := by
  induction L with
  | nil => simp [uses]
  | cons x L ih =>
    have e : uses (x :: L) m = (kids x).count m + uses L m := by simp [uses, List.count_append]
    have := List.count_le_length (a := m) (l := kids x)
    have := kids_len x
    rw [e, List.length_cons]; omega
theorem grown_set0 (w : World) (g k : Nat) (u : Value) : w.grownBy (w.setCell ⟨g, k, none⟩ u) (some g) := by
  exact ⟨rfl, rfl, rfl, by simp [World.setCell], fun j _ hj => Below.heap_setCell _ _ _ _ (fun e => hj (by simp [e]))⟩
set_option maxHeartbeats 4000000 in
set_option maxRecDepth 100000 in
theorem sound_any (A : Option Addr) (n c : Nat) (L : List Nd) (w : World) (hN : Nr w A L) (hn : L.length = n) (hnb : n ≤ 20000) (hs : ∀ x ∈ L, x.set.length ≤ 1000000) :
    Calls Try.prog 25 #[tr A n c] w (RetB w (SoundL L)) := by
  have HN := Lib.hid hN; have HLN := Lib.hid hn; have HS := Lib.hid hs
  clear hN hn hs
  have ha0 := (Below.refl w.heap.size w).alloc (Nat.le_refl _) (.cells #[.slice A n c] 24)
  have hz : (w.alloc (.cells #[.slice A n c] 24)).heap.size = w.heap.size + 1 := by simp
  have hGA := heap_new w (.cells #[.slice A n c] 24)
  go_enter Try.func25, Try.ntmps25
  go_upto_region 1 with fail
  generalize w.alloc (.cells #[.slice A n c] 24) = W0 at *
  obtain ⟨a0, _⟩ := obj29 hGA
  obtain ⟨W1, hrun, hown, hg1⟩ := make_ints n w.heap.size W0 hnb (by omega)
  have HB1 := Lib.hid (ha0.trans (below_grown hg1 (by omega) (fun k hk => by cases hk)))
  have HO1 := Lib.hid (keepG hGA hg1 (fun k hk => by cases hk))
  obtain ⟨g, hg⟩ : ∃ g, W0.heap.size = g := ⟨_, rfl⟩
  rw [hg] at hrun hown
  have hgl := hown.lt g rfl
  have HOWN := Lib.hid hown
  have hgw : w.heap.size < g := by omega
  clear hown hg1 ha0 hGA hg
  go_wp2_with fail
  go_loopw [4] (fun ti wr => ∃ i : Nat, ti = .int .i64 (i : Int) ∧ i ≤ n ∧ Hid (SoundTo L i) ∧ Hid (wr.ownsRow w.heap.size 3 1 (.slice (some ⟨g, 0, none⟩) n n) n (ints (rowU L n i []))) ∧ Hid (W1.grownBy wr (some g))) (fun ti _ => n - (intOf ti).toNat)
  case atStart => exact ⟨0, rfl, Nat.zero_le _, Lib.hid (fun i x h => absurd h (Nat.not_lt_zero _)), Lib.hid (by rw [rowU_zero]; exact HOWN.out), Lib.hid (World.grownBy.refl _ _)⟩
  case round =>
    obtain ⟨i, rfl, hi, HT, HR, HG⟩ := hrel
    have hgs := HG.out.size
    have HB2 := Lib.hid (HB1.out.trans (below_grown HG.out HB1.out.size (fun k hk => by injection hk with hk; omega)))
    have HO2 := Lib.hid (keepG HO1.out HG.out (fun k hk => by injection hk with hk; omega))
    obtain ⟨o0, _⟩ := obj29 HO2.out
    by_cases hin : i < n
    · have d1 : decide (i < n) = true := decide_eq_true hin
      have hin' : (i : Int) < (n : Int) := by omega
      obtain ⟨x, hx⟩ : ∃ x, L[i]? = some x := ⟨_, List.getElem?_eq_getElem (by rw [HLN.out]; exact hin)⟩
      obtain ⟨bb, off, rfl, hbl, hnd⟩ := nr_at HN.out hx
      obtain ⟨As, ks, ⟨c0, c1, c2, c3, c4, c5, c6⟩, hrg⟩ := hnd.below hbl HB2.out
      have HFN := Lib.hid (fine_any x As ks wr hrg (HS.out x (List.mem_of_getElem? hx)))
      have HX := Lib.hid hx
      have HND := Lib.hid hnd
      clear hnd hx hrg
      go_wp2_with fail
      refine HFN.out.mono ?_
      rintro e w2 ⟨q, rfl, hq, hb2⟩
      have HB3 := Lib.hid (HB2.out.trans (hb2.mono HB2.out.size))
      have HO3 := Lib.hid (keepL HO2.out hb2)
      obtain ⟨o3, _⟩ := obj29 HO3.out
      have HR2 := Lib.hid (S.own_below HR.out hb2)
      have HG2 := Lib.hid (grown_trans HG.out (below_grownBy (r := none) hb2) (fun k hk => by cases hk))
      have hw2 := hb2.size
      clear c0 c1 c2 c3 c4 c5 c6 o0 hb2
      cases q with
      | false =>
        have HNO := Lib.hid (show ¬ SoundL L by
          intro h
          have := hq.2 (h.2.1 i x (by rw [HLN.out]; exact hin) HX.out).1
          cases this)
        clear hq
        go_wp2_with fail
        go_ret
        exact ⟨false, rfl, iff_of_false Bool.noConfusion HNO.out, HB3.out⟩
      | true =>
        have HFX := Lib.hid (hq.1 rfl)
        obtain ⟨As, ks, ⟨c0, c1, c2, c3, c4, c5, c6⟩, _⟩ := HND.out.below hbl HB3.out
        clear hq
        go_wp2_with fail
        refine (kids_any x (.slice As x.set.length ks) ⟨_, _, _, rfl⟩ _).mono ?_
        rintro e w3 ⟨v3, rfl, hk3, hb3⟩
        obtain ⟨A3, k3, rfl, hsee⟩ := row_see hk3
        obtain ⟨kl, hkl⟩ : ∃ kl, (kids x).length = kl := ⟨_, rfl⟩
        rw [hkl]
        have hkl2 : kl ≤ 2 := by rw [← hkl]; exact kids_len x
        have HSEE := Lib.hid hsee; have HKL := Lib.hid hkl
        have HR3 := Lib.hid (S.own_below HR2.out hb3)
        have HG3 := Lib.hid (grown_trans HG2.out (below_grownBy (r := none) hb3) (fun k hk => by cases hk))
        have hw3 := hb3.size
        clear hsee hkl hk3 hb3 c0 c1 c2 c3 c4 c5 c6 o3
        go_wp2_with fail
        go_loopw [6] (fun tj wq => ∃ j : Nat, tj = .int .i64 (j : Int) ∧ j ≤ kl ∧ Hid (∀ k ∈ (kids x).take j, 0 ≤ k ∧ k < (i : Int)) ∧ Hid (wq.ownsRow w.heap.size 3 1 (.slice (some ⟨g, 0, none⟩) n n) n (ints (rowU L n i ((kids x).take j)))) ∧ Hid (w3.grownBy wq (some g))) (fun tj _ => kl - (intOf tj).toNat)
        case atStart => exact ⟨0, rfl, Nat.zero_le _, Lib.hid (by simp), HR3, Lib.hid (World.grownBy.refl _ _)⟩
        case round =>
          obtain ⟨j, rfl, hj, HI, HQ, HGQ⟩ := hrel
          have hgq := HGQ.out.size
          have HB4 := Lib.hid (HB1.out.trans (below_grown (grown_trans HG3.out HGQ.out (fun k hk => .inl hk)) HB1.out.size (fun k hk => by injection hk with hk; omega)))
          by_cases hjk : j < kl
          · have e1 : decide (j < kl) = true := decide_eq_true hjk
            have hjk' : (j : Int) < (kl : Int) := by omega
            obtain ⟨z, hz⟩ : ∃ z, (kids x)[j]? = some z := ⟨_, List.getElem?_eq_getElem (by rw [HKL.out]; exact hjk)⟩
            obtain ⟨g3, rfl, y1, y2, y3⟩ := HSEE.out j _ hz
            have y4 := HGQ.out.cell y3 (fun e => by injection e with e; simp at e; omega)
            have hzm := List.mem_of_getElem? hz
            by_cases hbad : z < 0 ∨ (i : Int) ≤ z
            · have HNO := Lib.hid (show ¬ SoundL L by
                intro h
                have := (h.2.1 i x (by rw [HLN.out]; exact hin) HX.out).2 z hzm
                omega)
              clear hz y3 hzm
              by_cases hz0 : z < 0
              · have e3 : decide (z < 0) = true := decide_eq_true hz0
                go_wp2_with fail
                go_ret
                exact ⟨false, rfl, iff_of_false Bool.noConfusion HNO.out, HB4.out⟩
              · have e3 : decide (z < 0) = false := decide_eq_false hz0
                have e4 : decide ((i : Int) ≤ z) = true := decide_eq_true (by omega)
                go_wp2_with fail
                go_ret
                exact ⟨false, rfl, iff_of_false Bool.noConfusion HNO.out, HB4.out⟩
            · obtain ⟨zn, rfl⟩ := Int.eq_ofNat_of_zero_le (show 0 ≤ z by omega)
              have hzi : zn < i := by omega
              have hzn : (zn : Int) < (n : Int) := by omega
              have e3 : decide ((zn : Int) < 0) = false := decide_eq_false (by omega)
              have e4 : decide (i ≤ zn) = false := decide_eq_false (by omega)
              obtain ⟨p1, p2, _, p4⟩ := own_cell HQ.out (rowU_get L n i ((kids x).take j) (show zn < n by omega))
              have hp := own_put HQ.out zn (.int .i64 (((uses (L.take i) (zn : Int) + ((kids x).take j).count (zn : Int) : Nat) : Int) + 1))
              rw [rowU_set L n i _ zn (by omega), show (kids x).take j ++ [(zn : Int)] = (kids x).take (j + 1) by rw [List.take_add_one, hz]; rfl] at hp
              have HP := Lib.hid hp
              have HI2 := Lib.hid (show ∀ k ∈ (kids x).take (j + 1), 0 ≤ k ∧ k < (i : Int) from fun k hk => by
                rw [List.take_add_one, hz, Option.toList_some, List.mem_append, List.mem_singleton] at hk
                rcases hk with hk | rfl
                · exact HI.out k hk
                · omega)
              have hub := uses_le (L.take i) (zn : Int)
              have hcb := List.count_le_length (a := (zn : Int)) (l := (kids x).take j)
              rw [List.length_take] at hub hcb
              obtain ⟨cc, hcc⟩ : ∃ cc : Nat, uses (L.take i) (zn : Int) + ((kids x).take j).count (zn : Int) = cc := ⟨_, rfl⟩
              rw [hcc] at p1 HP
              have hcb2 : cc ≤ 100000 := by omega
              clear hz y3 hzm hp hub hcb hcc hbad
              go_wp2_with fail
              go_roundw
              case rel => exact ⟨j + 1, congrArg (Value.int .i64) (by omega), hjk, HI2, HP, Lib.hid (grown_trans HGQ.out (grown_set0 wr g zn _) (fun k hk => .inl hk))⟩
              case measure => simp [intOf]; omega
          · have e1 : decide (j < kl) = false := decide_eq_false hjk
            have hall : (kids x).take j = kids x := List.take_of_length_le (by rw [HKL.out]; omega)
            have hq := HQ.out
            rw [hall, rowU_next L n i HX.out] at hq
            have HQ2 := Lib.hid hq
            have HTN := Lib.hid (show SoundTo L (i + 1) from fun k y hk hy => by
              by_cases hki : k < i
              · exact HT.out k y hki hy
              · obtain rfl : k = i := by omega
                rw [HX.out] at hy
                injection hy with hy
                subst hy
                have := HI.out
                rw [hall] at this
                exact ⟨HFX.out, this⟩)
            clear hq hall
            go_wp2_with fail
            go_roundw
            case rel => exact ⟨i + 1, congrArg (Value.int .i64) (by omega), hin, HTN, HQ2, Lib.hid (grown_trans HG3.out HGQ.out (fun k hk => .inl hk))⟩
            case measure => simp [intOf]; omega
    · have d1 : decide (i < n) = false := decide_eq_false hin
      obtain rfl : i = n := by omega
      go_wp2_with fail
      go_loopw [7] (fun tm wq => ∃ m : Nat, tm = .int .i64 (m : Int) ∧ m ≤ i ∧ Hid (∀ k : Nat, k < m → k + 1 < i → uses L (k : Int) = 1) ∧ wr = wq) (fun tm _ => i - (intOf tm).toNat)
      case atStart => exact ⟨0, rfl, Nat.zero_le _, Lib.hid (fun k h => absurd h (Nat.not_lt_zero _)), rfl⟩
      case round =>
        obtain ⟨m, rfl, hm, HU, rfl⟩ := hrel
        by_cases hmi : m + 1 < i
        · have e1 : decide (m + 1 < i) = true := decide_eq_true hmi
          have e1' : decide ((m : Int) + 1 < (i : Int)) = true := decide_eq_true (by omega)
          have hmi' : (m : Int) < (i : Int) := by omega
          obtain ⟨p1, p2, _, p4⟩ := own_cell HR.out (rowU_get L i i [] (show m < i by omega))
          rw [List.count_nil, Nat.add_zero, List.take_of_length_le (by rw [HLN.out]; exact Nat.le_refl _)] at p1
          by_cases hc : uses L (m : Int) = 1
          · rw [hc] at p1
            have HU2 := Lib.hid (show ∀ k : Nat, k < m + 1 → k + 1 < i → uses L (k : Int) = 1 from fun k hk hk2 => by
              by_cases hkm : k < m
              · exact HU.out k hkm hk2
              · obtain rfl : k = m := by omega
                exact hc)
            clear hc
            go_wp2_with fail
            go_roundw
            case rel => exact ⟨m + 1, congrArg (Value.int .i64) (by omega), by omega, HU2, trivial⟩
            case measure => simp [intOf]; omega
          · have HNO := Lib.hid (show ¬ SoundL L from fun h => hc (h.2.2 m (by rw [HLN.out]; exact hmi)))
            obtain ⟨cc, hcc⟩ : ∃ cc, uses L (m : Int) = cc := ⟨_, rfl⟩
            rw [hcc] at p1 hc
            have e3 : ((cc : Int) != 1) = true := by rw [bne_iff_ne]; omega
            clear hcc hc
            go_wp2_with fail
            go_ret
            exact ⟨false, rfl, iff_of_false Bool.noConfusion HNO.out, HB2.out⟩
        · have e1' : decide ((m : Int) + 1 < (i : Int)) = false := decide_eq_false (by omega)
          have HYES := Lib.hid (show SoundL L ↔ 0 < i from ⟨fun h => by have := h.1; rw [HLN.out] at this; exact this, fun h => ⟨by rw [HLN.out]; exact h, by rw [HLN.out]; exact HT.out, fun k hk => HU.out k (by rw [HLN.out] at hk; omega) (by rw [HLN.out] at hk; exact hk)⟩⟩)
          by_cases hp : 0 < i
          · have e5 : decide ((0 : Int) < (i : Int)) = true := decide_eq_true (by omega)
            go_wp2_with fail
            go_ret
            exact ⟨true, rfl, iff_of_true rfl (HYES.out.2 hp), HB2.out⟩
          · have e5 : decide ((0 : Int) < (i : Int)) = false := decide_eq_false (by omega)
            go_wp2_with fail
            go_ret
            exact ⟨false, rfl, iff_of_false Bool.noConfusion (fun h => hp (HYES.out.1 h)), HB2.out⟩
end Go.Proofs.Ytceeimolfalmpaa
