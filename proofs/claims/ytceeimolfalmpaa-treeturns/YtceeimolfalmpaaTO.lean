/-
  How great each node's tree is (sizes), of the page's own. Conditions: at most 20000 nodes, each kid ahead of its node.
-/
import Derived.Test.YtceeimolfalmpaaTJ
import Derived.Laws.OwnMore
namespace Go.Proofs.Ytceeimolfalmpaa
open Go.RowKit ObSets ObTree

/-- One, and what a row says of each of these. -/
def fold1 (r l : List Int) : Int := l.foldl (fun s k => wrap64 (s + r[k.toNat]?.getD 0)) 1
/-- The kids of a row's node. -/
def kidsAt (L : List Nd) (i : Nat) : List Int := match L[i]? with
  | some x => kids x
  | none => []
theorem kidsAt_some {L : List Nd} {i : Nat} {x : Nd} (h : L[i]? = some x) : kidsAt L i = kids x := by unfold kidsAt; rw [h]
/-- How great the trees of the first nodes are. -/
def szs (L : List Nd) : Nat → List Int
  | 0 => []
  | m + 1 => szs L m ++ [fold1 (szs L m) (kidsAt L m)]
theorem szs_len (L : List Nd) : ∀ m, (szs L m).length = m
  | 0 => rfl
  | m + 1 => by simp [szs, szs_len L m]
theorem made_ints (n : Nat) : (madeCells (Value.int .i64 0).cells (n * 1)).toList = ints (List.replicate n 0) := by
  apply List.ext_getElem
  · simp [madeCells, ints]
  · intro j h1 h2
    simp [madeCells, ints, Value.cells, Nat.mod_one]
/-- A row of zeros made. -/
theorem make_ints (n B : Nat) (w : World) (hn : n ≤ 20000) (hB : B ≤ w.heap.size) : ∃ w', (Instr.makeSlice 29 (.int .i64 (n : Int)) (.int .i64 (n : Int))).run Try.prog w = .ok (.slice (some ⟨w.heap.size, 0, none⟩) n n) w' ∧ w'.ownsRow B 3 1 (.slice (some ⟨w.heap.size, 0, none⟩) n n) n (ints (List.replicate n 0)) ∧ w.grownBy w' none := by
  obtain ⟨i0, hi0, hz0, hz1, hz2⟩ := info_parts info3
  obtain ⟨w', h1, h2, h3⟩ := run_make_full (P := Try.prog) (w := w) B 29 3 i0 (.int .i64 0) 1 Try.underlying29 hi0 hz0 hz1 .i64 .i64 n (by rw [hz2]; omega) (by unfold maxLen; omega) hB
  rw [made_ints] at h2
  exact ⟨w', h1, h2, h3⟩
theorem own_cell {w : World} {B g n : Nat} {zs : List Int} (h : w.ownsRow B 3 1 (.slice (some ⟨g, 0, none⟩) n n) n (ints zs)) {j : Nat} {z : Int} (hz : zs[j]? = some z) : w.cell? ⟨g, j, none⟩ = some (.int .i64 z) ∧ w.frozen? ⟨g, j, none⟩ = false ∧ B ≤ g ∧ g < w.heap.size := by
  have hc := h.cells (g := g) rfl j (.int .i64 z) (by rw [List.getElem?_map, hz]; rfl)
  rw [show (Addr.add ⟨g, 0, none⟩ j) = ⟨g, j, none⟩ by unfold Addr.add; split <;> simp_all] at hc
  refine ⟨hc, ?_, (h.lt g rfl).1, (h.lt g rfl).2⟩
  rcases h.2 with ⟨hv, _⟩ | ⟨g', cap, cur, hv, _, hg, _⟩
  · cases hv
  · injection hv with e1
    injection e1 with e1
    injection e1 with e1
    subst e1
    simp [World.frozen?, hg]
/-- The row while the sizes are told: the first are told, one is under way, the others nought. -/
def rowS (L : List Nd) (n i : Nat) (s : Int) : List Int := szs L i ++ s :: List.replicate (n - i - 1) 0
theorem rowS_self (L : List Nd) (n i : Nat) (s : Int) : (rowS L n i s)[i]? = some s := by
  unfold rowS
  rw [List.getElem?_append_right (by rw [szs_len]; exact Nat.le_refl _), szs_len, Nat.sub_self]; rfl
theorem rowS_ahead (L : List Nd) (n i : Nat) (s : Int) {k : Nat} (hk : k < i) : (rowS L n i s)[k]? = some ((szs L i)[k]?.getD 0) := by
  unfold rowS
  rw [List.getElem?_append_left (by rw [szs_len]; exact hk), List.getElem?_eq_getElem (by rw [szs_len]; exact hk)]; rfl
theorem rowS_set (L : List Nd) (n i : Nat) (s t : Int) : (ints (rowS L n i s)).set i (.int .i64 t) = ints (rowS L n i t) := by
  unfold rowS ints
  rw [← List.map_set, List.set_append_right _ _ (by rw [szs_len]; exact Nat.le_refl _), szs_len, Nat.sub_self]; rfl
theorem rowS_next (L : List Nd) (n i : Nat) : rowS L n i (fold1 (szs L i) (kidsAt L i)) = szs L (i + 1) ++ List.replicate (n - (i + 1)) 0 := by
  unfold rowS
  rw [szs, List.append_assoc, show n - i - 1 = n - (i + 1) by omega]; rfl
theorem rowS_start (L : List Nd) (n i : Nat) (h : i < n) : szs L i ++ List.replicate (n - i) 0 = rowS L n i 0 := by
  unfold rowS
  rw [show n - i = (n - i - 1) + 1 by omega, List.replicate_succ]; rfl
theorem grown_set1 (w : World) (g k : Nat) (u : Value) : w.grownBy (w.setCell ⟨g, k, none⟩ u).drew (some g) := by
  exact ⟨rfl, rfl, rfl, by simp [World.setCell], fun j _ hj => Below.heap_setCell _ _ _ _ (fun e => hj (by simp [e]))⟩
set_option maxHeartbeats 4000000 in
set_option maxRecDepth 100000 in
theorem sizes_any (A : Option Addr) (n c : Nat) (L : List Nd) (w : World) (hN : Nr w A L) (hn : L.length = n) (hnb : n ≤ 20000) (hk : ∀ (j : Nat) x, L[j]? = some x → ∀ k ∈ kids x, 0 ≤ k ∧ k < (j : Int)) :
    Calls Try.prog 46 #[tr A n c] w (RetZ (szs L n) w) := by
  have HN := Lib.hid hN; have HLN := Lib.hid hn; have HK := Lib.hid hk
  clear hN hn hk
  have ha0 := (Below.refl w.heap.size w).alloc (Nat.le_refl _) (.cells #[.slice A n c] 24)
  have hz : (w.alloc (.cells #[.slice A n c] 24)).heap.size = w.heap.size + 1 := by simp
  have hGA := heap_new w (.cells #[.slice A n c] 24)
  go_enter Try.func46, Try.ntmps46
  go_upto_region 1 with fail
  generalize w.alloc (.cells #[.slice A n c] 24) = W0 at *
  obtain ⟨a0, _⟩ := obj29 hGA
  obtain ⟨W1, hrun, hown, hg1⟩ := make_ints n w.heap.size W0 hnb (by omega)
  have HB1 := Lib.hid (ha0.trans (below_grown hg1 (by omega) (fun k hk => by cases hk)))
  have HO1 := Lib.hid (keepG hGA hg1 (fun k hk => by cases hk))
  obtain ⟨g, hg⟩ : ∃ g, W0.heap.size = g := ⟨_, rfl⟩
  rw [hg] at hrun hown
  have hgl := hown.lt g rfl
  have HOWN := Lib.hid hown
  have hgw : w.heap.size < g := by omega
  clear hown hg1 ha0 hGA hg
  go_wp2_with fail
  go_loopw [4] (fun ti wr => ∃ i : Nat, ti = .int .i64 (i : Int) ∧ i ≤ n ∧ Hid (wr.ownsRow w.heap.size 3 1 (.slice (some ⟨g, 0, none⟩) n n) n (ints (szs L i ++ List.replicate (n - i) 0))) ∧ Hid (W1.grownBy wr (some g))) (fun ti _ => n - (intOf ti).toNat)
  case atStart => exact ⟨0, rfl, Nat.zero_le _, HOWN, Lib.hid (World.grownBy.refl _ _)⟩
  case round =>
    obtain ⟨i, rfl, hi, HR, HG⟩ := hrel
    have hgs := HG.out.size
    have HB2 := Lib.hid (HB1.out.trans (below_grown HG.out HB1.out.size (fun k hk => by injection hk with hk; omega)))
    have HO2 := Lib.hid (keepG HO1.out HG.out (fun k hk => by injection hk with hk; omega))
    obtain ⟨o0, _⟩ := obj29 HO2.out
    by_cases hin : i < n
    · have d1 : decide (i < n) = true := decide_eq_true hin
      have hin' : (i : Int) < (n : Int) := by omega
      obtain ⟨x, hx⟩ : ∃ x, L[i]? = some x := ⟨_, List.getElem?_eq_getElem (by rw [HLN.out]; exact hin)⟩
      have hr0 := HR.out
      rw [rowS_start L n i hin] at hr0
      obtain ⟨q1, q2, _, q4⟩ := own_cell hr0 (rowS_self L n i 0)
      have hr1 := own_put hr0 i (.int .i64 1)
      rw [rowS_set] at hr1
      have hg1 : wr.grownBy (wr.setCell ⟨g, i, none⟩ (.int .i64 1)) (some g) := ⟨rfl, rfl, rfl, by simp [World.setCell], fun j _ hj => Below.heap_setCell _ _ _ _ (fun e => hj (by simp [e]))⟩
      have HR1 := Lib.hid hr1
      have HG1 := Lib.hid hg1
      have HB3 := Lib.hid (HB2.out.trans (below_grown hg1 HB2.out.size (fun k hk => by injection hk with hk; omega)))
      obtain ⟨bb, off, rfl, hbl, hnd⟩ := nr_at HN.out hx
      obtain ⟨As, ks, ⟨c0, c1, c2, c3, c4, c5, c6⟩, _⟩ := hnd.below hbl HB3.out
      have o1 := (obj29 (keepG HO2.out hg1 (fun k hk => by injection hk with hk; omega))).1
      have HKA := Lib.hid (kidsAt_some hx)
      have HKX := Lib.hid (HK.out i x hx)
      have hz3 : (wr.setCell ⟨g, i, none⟩ (.int .i64 1)).heap.size = wr.heap.size := by simp [World.setCell]
      have hgl3 : g < wr.heap.size := by omega
      clear hr0 hr1 hg1 hnd hx
      go_wp2_with fail
      refine (kids_any x (.slice As x.set.length ks) ⟨_, _, _, rfl⟩ _).mono ?_
      rintro e w3 ⟨v3, rfl, hk3, hb3⟩
      obtain ⟨A3, k3, rfl, hsee⟩ := row_see hk3
      obtain ⟨kl, hkl⟩ : ∃ kl, (kids x).length = kl := ⟨_, rfl⟩
      rw [hkl]
      have hkl2 : kl ≤ 2 := by rw [← hkl]; exact kids_len x
      have HSEE := Lib.hid hsee; have HKL := Lib.hid hkl
      have HR3 := Lib.hid (S.own_below HR1.out hb3)
      have HO3 := Lib.hid (keepL (keepG HO2.out HG1.out (fun k hk => by injection hk with hk; omega)) hb3)
      have HG3 := Lib.hid (grown_trans HG1.out (below_grownBy (r := none) hb3) (fun k hk => by cases hk))
      have hw3 := hb3.size
      rw [hz3] at hw3
      clear hsee hkl hk3 hb3 c0 c1 c2 c3 c4 c5 c6 o1 o0 q1 q2 q4
      go_wp2_with fail
      go_loopw [6] (fun tj wq => ∃ j : Nat, tj = .int .i64 (j : Int) ∧ j ≤ kl ∧ Hid (wq.ownsRow w.heap.size 3 1 (.slice (some ⟨g, 0, none⟩) n n) n (ints (rowS L n i (fold1 (szs L i) ((kids x).take j))))) ∧ Hid (w3.grownBy wq (some g))) (fun tj _ => kl - (intOf tj).toNat)
      case atStart => exact ⟨0, rfl, Nat.zero_le _, HR3, Lib.hid (World.grownBy.refl _ _)⟩
      case round =>
        obtain ⟨j, rfl, hj, HQ, HGQ⟩ := hrel
        have hgq := HGQ.out.size
        by_cases hjk : j < kl
        · have e1 : decide (j < kl) = true := decide_eq_true hjk
          have hjk' : (j : Int) < (kl : Int) := by omega
          obtain ⟨z, hz⟩ : ∃ z, (kids x)[j]? = some z := ⟨_, List.getElem?_eq_getElem (by rw [HKL.out]; exact hjk)⟩
          obtain ⟨hz0, hz1⟩ := HKX.out z (List.mem_of_getElem? hz)
          obtain ⟨zn, rfl⟩ := Int.eq_ofNat_of_zero_le hz0
          have hzi : zn < i := by omega
          have hzn : (zn : Int) < (n : Int) := by omega
          obtain ⟨p1, p2, _, _⟩ := own_cell HQ.out (rowS_self L n i _)
          obtain ⟨p3, _, _, _⟩ := own_cell HQ.out (rowS_ahead L n i (fold1 (szs L i) ((kids x).take j)) hzi)
          obtain ⟨g3, rfl, y1, y2, y3⟩ := HSEE.out j _ hz
          have y4 := HGQ.out.cell y3 (fun e => by injection e with e; simp at e; rw [hz3] at y1; omega)
          have HF := Lib.hid (show fold1 (szs L i) ((kids x).take (j + 1)) = wrap64 (fold1 (szs L i) ((kids x).take j) + (szs L i)[zn]?.getD 0) by
            unfold fold1; rw [List.take_add_one, hz, Option.toList_some, List.foldl_append]; rfl)
          obtain ⟨s1, hs1⟩ : ∃ s1, fold1 (szs L i) ((kids x).take j) = s1 := ⟨_, rfl⟩
          obtain ⟨s2, hs2⟩ : ∃ s2, (szs L i)[zn]?.getD 0 = s2 := ⟨_, rfl⟩
          rw [hs1] at p1 HF HQ
          rw [hs2] at p3 HF
          clear hs1 hs2 hz y3
          go_wp2_with fail
          go_region
          go_wp2_with fail
          go_roundw
          case rel =>
            have hp := own_put HQ.out i (.int .i64 (wrap64 (s1 + s2)))
            rw [rowS_set] at hp
            exact ⟨j + 1, congrArg (Value.int .i64) (by omega), hjk, Lib.hid (by rw [HF.out]; exact S.own_below hp (Below.refl _ _).drew), Lib.hid (grown_trans HGQ.out (grown_set1 wr g i _) (fun k hk => .inl hk))⟩
          case measure => simp [intOf]; omega
        · have e1 : decide (j < kl) = false := decide_eq_false hjk
          have hq := HQ.out
          rw [List.take_of_length_le (by rw [HKL.out]; omega), ← HKA.out, rowS_next] at hq
          have HQ2 := Lib.hid hq
          clear hq
          go_wp2_with fail
          go_roundw
          case rel => exact ⟨i + 1, congrArg (Value.int .i64) (by omega), hin, Lib.hid HQ2.out, Lib.hid (grown_trans HG.out (grown_trans HG3.out HGQ.out (fun k hk => .inl hk)) (fun k hk => .inl hk))⟩
          case measure => simp [intOf]; omega
    · have d1 : decide (i < n) = false := decide_eq_false hin
      obtain rfl : i = n := by omega
      have hr := HR.out
      rw [Nat.sub_self, List.replicate_zero, List.append_nil] at hr
      have HRE := Lib.hid (show wr.ownsRow w.heap.size 3 1 (.slice (some ⟨g, 0, none⟩) i i) (szs L i).length (ints (szs L i)) by rw [szs_len]; exact hr)
      clear hr
      go_wp2_with fail
      go_ret
      exact ⟨_, rfl, HRE.out, HB2.out⟩
end Go.Proofs.Ytceeimolfalmpaa
