/-
  A tree's groups numbered as they begin (Number), of the page's own. Conditions: the row is a tree's, at most 20000 nodes.
-/
import Derived.Test.YtceeimolfalmpaaTI
namespace Go.Proofs.Ytceeimolfalmpaa
open Go.RowKit ObSets ObTree ObTree.Tree

theorem heap_set {w : World} {b : Nat} {cs : Array Value} {t : TypeId} {fr : Nat × Nat} (i : Nat) (v : Value) (h : w.heap[b]? = some (.cells cs t fr)) : (w.setCell ⟨b, i, none⟩ v).heap[b]? = some (.cells (cs.setIfInBounds i v) t fr) := by
  rw [setCell_eq_setRow w b i cs t fr v h]
  exact setRow_heap w b _ _ t fr h
theorem own_put {w : World} {g n cap base : Nat} {e : TypeId} {size : Nat} {xs : List Value} (h : w.ownsRow base e size (.slice (some ⟨g, 0, none⟩) n cap) n xs) (k : Nat) (u : Value) :
    (w.setCell ⟨g, k, none⟩ u).ownsRow base e size (.slice (some ⟨g, 0, none⟩) n cap) n (xs.set k u) := by
  refine ⟨by simp [h.1], .inr ?_⟩
  rcases h.2 with ⟨hv, _⟩ | ⟨g', cap', cur, hv, hb, hg, h1, h2, h3, h4⟩
  · cases hv
  · injection hv with e1 e2 e3
    injection e1 with e1
    injection e1 with e1 _ _
    subst e1 e3
    refine ⟨g, cap, cur.setIfInBounds k u, rfl, hb, heap_set k u hg, h1, h2, by simpa using h3, ?_⟩
    rw [Array.toList_setIfInBounds, List.take_set, h4]
theorem cellsN_set (a : Int) : ∀ (L : List (Nd × Value)) (z : Nat) (p : Nd × Value), L[z]? = some p → (cellsN L).set (z * 7 + 6) (.int .i64 a) = cellsN (L.set z ({ p.1 with n := a }, p.2))
  | [], z, p, h => by simp at h
  | q :: L, 0, p, h => by simp at h; subst h; rfl
  | q :: L, z + 1, p, h => by
    have ih := cellsN_set a L z p (by simpa using h)
    have e : cellsN (q :: L) = cellsN [q] ++ cellsN L := cellsN_append [q] L
    rw [e, List.set_append_right _ _ (by rw [cellsN_len]; simp; omega), cellsN_len, show (z + 1) * 7 + 6 - [q].length * 7 = z * 7 + 6 by simp; omega, ih, List.set_cons_succ]
    exact (cellsN_append [q] _).symm
/-- A node's number written anew. -/
theorem Nk.put {w : World} {B g n cap z : Nat} {l : List Nd} {x : Nd} (h : Nk w B (.slice (some ⟨g, 0, none⟩) n cap) l) (hx : l[z]? = some x) (a : Int) :
    Nk (w.setCell ⟨g, z * 7 + 6, none⟩ (.int .i64 a)) B (.slice (some ⟨g, 0, none⟩) n cap) (l.set z { x with n := a }) := by
  obtain ⟨L, rfl, hown, hsets⟩ := h
  rw [List.getElem?_map] at hx
  cases hp : L[z]? with
  | none => rw [hp] at hx; cases hx
  | some p =>
    rw [hp] at hx
    simp at hx
    subst hx
    have hn : n = L.length := by
      rcases hown.2 with ⟨hv, _⟩ | ⟨g', cap', cur, hv, _⟩
      · cases hv
      · injection hv
    have hBg : B ≤ g := (hown.lt g rfl).1
    refine ⟨L.set z ({ p.1 with n := a }, p.2), by rw [List.map_set], ?_, fun y hy => ?_⟩
    · rw [← cellsN_set a L z p hp, List.length_set, ← hn]
      rw [← hn] at hown
      exact own_put hown _ _
    · have keep : ∀ q : Nd × Value, q ∈ L → ∃ As ks, q.2 = .slice As q.1.set.length ks ∧ S.Rgs (w.setCell ⟨g, z * 7 + 6, none⟩ (.int .i64 a)) B As q.1.set := fun q hq => by
        obtain ⟨As, ks, e, hr⟩ := hsets q hq
        exact ⟨As, ks, e, hr.below ((Below.refl B w).setCell (p := ⟨g, z * 7 + 6, none⟩) hBg _)⟩
      rcases List.mem_or_eq_of_mem_set hy with hy | rfl
      · exact keep y hy
      · exact keep p (List.mem_of_getElem? hp)
/-- The block of a row of nodes that is not empty. -/
theorem Nk.block {w : World} {B : Nat} {v : Value} {l : List Nd} (h : Nk w B v l) (hne : l ≠ []) : ∃ g cap, v = .slice (some ⟨g, 0, none⟩) l.length cap ∧ B ≤ g ∧ g < w.heap.size ∧ ∀ k, w.frozen? ⟨g, k, none⟩ = false := by
  obtain ⟨L, rfl, hown, hsets⟩ := h
  rcases hown.2 with ⟨_, hn⟩ | ⟨g, cap, cur, hv, hb, hg, rest⟩
  · exact absurd (by rw [List.eq_nil_of_length_eq_zero hn]; rfl) hne
  · exact ⟨g, cap, by rw [hv, List.length_map], hb, lt_of_heap hg, fun k => by simp [World.frozen?, hg]⟩
/-- The row behind so many steps of the numbering. -/
def numTo (L : List Nd) (os : List Int) (i : Nat) : List Nd × Nat := (os.take i).foldl stepN (L, 0)
theorem numTo_succ {L : List Nd} {os : List Int} {i : Nat} {z : Int} (h : os[i]? = some z) : numTo L os (i + 1) = stepN (numTo L os i) z := by
  unfold numTo
  rw [List.take_add_one, h, List.foldl_append]
  rfl
theorem stepN_len (p : List Nd × Nat) (i : Int) : (stepN p i).1.length = p.1.length := by
  unfold stepN
  split
  · rfl
  · split <;> simp
theorem stepN_cnt (p : List Nd × Nat) (i : Int) : (stepN p i).2 ≤ p.2 + 1 := by
  unfold stepN
  split
  · exact Nat.le_succ _
  · split <;> simp
theorem numTo_len (L : List Nd) (os : List Int) : ∀ i, i ≤ os.length → (numTo L os i).1.length = L.length ∧ (numTo L os i).2 ≤ i
  | 0, _ => ⟨rfl, Nat.le_refl _⟩
  | i + 1, h => by
    obtain ⟨h1, h2⟩ := numTo_len L os i (by omega)
    have hz : os[i]? = some os[i] := List.getElem?_eq_getElem (by omega)
    rw [numTo_succ hz, stepN_len]
    exact ⟨h1, Nat.le_trans (stepN_cnt _ _) (by omega)⟩
theorem grown_set (w : World) (g k : Nat) (u : Value) : w.grownBy (w.setCell ⟨g, k, none⟩ u).drew.drew (some g) := by
  exact ⟨rfl, rfl, rfl, by simp [World.setCell], fun j _ hj => Below.heap_setCell _ _ _ _ (fun e => hj (by simp [e]))⟩
set_option maxHeartbeats 4000000 in
set_option maxRecDepth 100000 in
theorem number_any (t : Tree) (A : Option Addr) (n c : Nat) (w : World) (hok : Ok t) (hN : Nr w A (flat 0 t)) (hA : A = none → flat 0 t = [] ∧ c = 0) (hn : size t = n) (hnb : n ≤ 20000) :
    Calls Try.prog 19 #[tr A n c] w (RetTr w (flat 0 (num 0 t))) := by
  obtain ⟨L, hL⟩ : ∃ L, flat 0 t = L := ⟨_, rfl⟩
  rw [hL] at hN hA
  have hLn : L.length = n := by rw [← hL, flat_len]; exact hn
  have h0 : 1 ≤ n := by rw [← hn]; exact size_pos t
  obtain ⟨os, hos⟩ : ∃ os, ord 0 t = os := ⟨_, rfl⟩
  have hol : os.length = n := by rw [← hos, ord_len]; exact hn
  have hin : ∀ z ∈ os, 0 ≤ z ∧ z < (n : Int) := fun z hz => by have := ord_in t 0 z (by rw [hos]; exact hz); rw [hn] at this; omega
  have hfin : numTo L os n = (flat 0 (num 0 t), ncap t) := by
    unfold numTo
    rw [List.take_of_length_le (by omega), ← hos, ← hL]
    exact num_flat t hok
  have HORD := Lib.hid (ord_any (c := c) hN hLn t 0 hok (by rw [← hL]; exact At.whole t))
  rw [hos, hn] at HORD
  have HFIN := Lib.hid hfin; have HN := Lib.hid hN; have HA := Lib.hid hA; have HLN := Lib.hid hLn; have HOL := Lib.hid hol; have HIN := Lib.hid hin
  clear hL hN hA hLn hn hos hol hin hfin hok
  have ha0 := ((Below.refl w.heap.size w).alloc (Nat.le_refl _) (.cells #[.slice A n c] 24)).alloc (by simp) (.cells #[.slice none 0 0] 24)
  have hz : ((w.alloc (.cells #[.slice A n c] 24)).alloc (.cells #[.slice none 0 0] 24)).heap.size = w.heap.size + 2 := by simp
  have hGA := keepL (heap_new w (.cells #[.slice A n c] 24)) ((Below.refl _ _).alloc (Nat.le_refl _) (.cells #[.slice none 0 0] 24))
  have hGR : ((w.alloc (.cells #[.slice A n c] 24)).alloc (.cells #[.slice none 0 0] 24)).heap[w.heap.size + 1]? = some (.cells #[.slice none 0 0] 24) := by
    have h := heap_new (w.alloc (.cells #[.slice A n c] 24)) (.cells #[.slice none 0 0] 24)
    simpa using h
  go_enter Try.func19, Try.ntmps19
  go_upto_region 1 with fail
  generalize ((w.alloc (.cells #[.slice A n c] 24)).alloc (.cells #[.slice none 0 0] 24)) = W0 at *
  have HA0 := Lib.hid ha0; have GA := Lib.hid hGA; have GR := Lib.hid hGR
  obtain ⟨a0, _⟩ := obj29 hGA
  clear ha0 hGA hGR
  go_wp2_with (at_builtin; refine wpList_wanted ?_ ?_)
  intro K hK
  have hE1 := (Below.refl (w.heap.size + 2) W0).alloc (show w.heap.size + 2 ≤ W0.heap.size by omega) (.cells #[] 35)
  refine wp_append_nk _ _ rfl w.heap.size _ [] L n rfl (Nk.empty hz.symm (by omega)) A c HLN.out rfl (Sc.of HN.out HA.out (HA0.out.trans (hE1.mono (by omega)))) (by simp; omega) (w.heap.size + 2) (by omega) (by simp; omega) (fun k hk => by injection hk with hk; simp at hk; omega) ?_
  intro v1 V1 hn1 hv1 hg1
  rw [List.nil_append] at hn1
  have hb1 := hE1.trans (below_grown hg1 (by simp; omega) (fun k hk => by injection hk with hk; simp at hk; omega))
  have hz1 : w.heap.size + 2 ≤ V1.heap.size := by have := hb1.size; omega
  obtain ⟨gr, k1, rfl, hgr, hgl, _⟩ := hn1.block (by intro e; have := HLN.out; rw [e] at this; simp at this; omega)
  rw [HLN.out] at hn1 hv1 ⊢
  have hgr2 := hv1 gr rfl
  refine hK _ _ ?_
  clear hK K hg1 hE1 a0 hv1
  have ho := heap_new V1 (.cells #[.slice (some ⟨gr, 0, none⟩) n k1] 24)
  have ha2 := (Below.refl V1.heap.size V1).alloc (Nat.le_refl _) (.cells #[.slice (some ⟨gr, 0, none⟩) n k1] 24)
  have HB2 := Lib.hid (hb1.trans (ha2.mono hz1))
  have HN2 := Lib.hid (hn1.below (by omega) ha2)
  have HO := Lib.hid ho
  have hs2 : (V1.alloc (.cells #[.slice (some ⟨gr, 0, none⟩) n k1] 24)).heap.size = V1.heap.size + 1 := by simp
  clear hn1 hb1 ho ha2
  go_upto_region 2 with fail
  generalize V1.alloc (.cells #[.slice (some ⟨gr, 0, none⟩) n k1] 24) = W2 at *
  have hz2 : w.heap.size + 2 ≤ W2.heap.size := by omega
  obtain ⟨a2, _⟩ := obj29 ((HB2.out.block _ (show w.heap.size < w.heap.size + 2 by omega)).trans GA.out)
  have hn0 : ((n : Int) == 0) = false := beq_eq_false_iff_ne.2 (by omega)
  have hord := HORD.out [] (.slice none 0 0) W2 (HA0.out.trans (HB2.out.mono (by omega))) (World.ownsRow_nil _ _ _ _) (fun g hg => by cases hg) (by rw [HOL.out]; simp; omega)
  rw [show ((0 : Nat) : Int) + (n : Int) - 1 = (n : Int) - 1 by omega, List.nil_append] at hord
  have HORD2 := Lib.hid hord
  clear hord HORD
  go_wp2_with fail
  refine HORD2.out.mono ?_
  rintro e W5 ⟨v5, rfl, ho5, hg5, hv5⟩
  have hb5 : Below W2.heap.size W2 W5 := ⟨hg5.os, hg5.tape, hg5.output, hg5.size, fun k hk => hg5.block k hk (by simp [Value.ownBlock])⟩
  obtain ⟨A5, k5, rfl, hsee⟩ := row_see ho5
  rw [HOL.out]
  have HSEE := Lib.hid (show ∀ (j : Nat) (z : Int), os[j]? = some z → ∃ g, A5 = some ⟨g, 0, none⟩ ∧ W2.heap.size ≤ g ∧ g < W5.heap.size ∧ W5.cell? ⟨g, j, none⟩ = some (.int .i64 z) from fun j z hz => by
    obtain ⟨g, e, _, h2, h3⟩ := hsee j z hz
    refine ⟨g, e, ?_, h2, h3⟩
    rcases hv5 g (by rw [e]; rfl) with h | h
    · cases h
    · exact h)
  have HB5 := Lib.hid (HB2.out.trans (hb5.mono hz2))
  have HN5 := Lib.hid (HN2.out.below (by omega) hb5)
  have HO5 := Lib.hid (keepL HO.out hb5)
  have hz5 := hb5.size
  clear ho5 hg5 hv5 hb5 hsee a2
  go_wp2_with fail
  go_loopw [5, 6] (fun tn ti wr => ∃ i : Nat, ti = .int .i64 (i : Int) ∧ i ≤ n ∧ tn = .int .i64 ((numTo L os i).2 : Int) ∧ Hid (Nk wr w.heap.size (.slice (some ⟨gr, 0, none⟩) n k1) (numTo L os i).1) ∧ Hid (W5.grownBy wr (some gr))) (fun _ ti _ => n - (intOf ti).toNat)
  case atStart => exact ⟨0, rfl, Nat.zero_le _, rfl, HN5, Lib.hid (World.grownBy.refl _ _)⟩
  case round =>
    obtain ⟨i, rfl, hi, rfl, HK, HG⟩ := hrel
    have hgs := HG.out.size
    have HO6 := Lib.hid (keepG HO5.out HG.out (fun g hg => by injection hg with hg; omega))
    obtain ⟨o0, _⟩ := obj29 HO6.out
    obtain ⟨hl1, hl2⟩ := numTo_len L os i (by rw [HOL.out]; exact hi)
    rw [HLN.out] at hl1
    by_cases hin : i < n
    · have d1 : decide (i < n) = true := decide_eq_true hin
      have hin' : (i : Int) < (n : Int) := by omega
      obtain ⟨z, hz'⟩ : ∃ z, os[i]? = some z := ⟨_, List.getElem?_eq_getElem (by rw [HOL.out]; exact hin)⟩
      have hzr := HIN.out z (List.mem_of_getElem? hz')
      obtain ⟨zn, rfl⟩ := Int.eq_ofNat_of_zero_le hzr.1
      have hzn : zn < n := by omega
      obtain ⟨g5, rfl, q1, q2, q3⟩ := HSEE.out i _ hz'
      have q4 := HG.out.cell q3 (fun e => by injection e with e; simp at e; omega)
      have HS := Lib.hid (numTo_succ (L := L) hz')
      obtain ⟨p, hp⟩ : ∃ p, numTo L os i = p := ⟨_, rfl⟩
      rw [hp] at HK HS hl1 hl2 ⊢
      obtain ⟨M, cn⟩ := p
      dsimp only at HK hl1 hl2 ⊢
      obtain ⟨x, hx⟩ : ∃ x, M[zn]? = some x := ⟨_, List.getElem?_eq_getElem (by rw [hl1]; exact hzn)⟩
      obtain ⟨b', o', eb, _, hnd⟩ := nr_at (HK.out.reads (by omega)) hx
      injection eb with eb
      injection eb with eb1 eb2 _
      subst eb1 eb2
      obtain ⟨As, ks, ⟨c0, c1, c2, c3, c4, c5, c6⟩, _⟩ := hnd
      simp only [Nat.zero_add] at c0 c6
      obtain ⟨g', cap', ev, _, _, hfz⟩ := HK.out.block (by rintro rfl; simp at hx)
      have hgg : gr = g' := by
        injection ev with ev _ _
        injection ev with ev
        injection ev
      subst hgg
      have hfr := hfz (zn * 7 + 6)
      have HX := Lib.hid hx
      have hznn : (zn : Int) < (n : Int) := by omega
      clear hz' q3 hp c1 c2 c3 c4 c5 hx ev hfz
      by_cases h8 : x.kind = 8
      · have e8 : (x.kind == 8) = true := by simp [h8]
        have HST := Lib.hid (stepN_cap (L := M) (n := cn) (i := (zn : Int)) (by rw [Int.toNat_natCast]; exact HX.out) h8)
        have HPUT := Lib.hid (HK.out.put HX.out ((cn : Int) + 1))
        clear h8
        go_wp2_with fail
        go_region
        go_wp2_with fail
        go_region
        go_wp2_with fail
        go_roundw
        case rel => exact ⟨i + 1, congrArg (Value.int .i64) (by omega), hin, by rw [HS.out, HST.out]; rfl, Lib.hid (by rw [HS.out, HST.out]; exact HPUT.out.below (by simp; omega) (Below.refl _ _).drew.drew), Lib.hid (grown_trans HG.out (r := some gr) (s := some gr) (grown_set wr gr _ _) (fun g hg => .inl hg))⟩
        case measure => simp [intOf]; omega
      · have e8 : (x.kind == 8) = false := beq_eq_false_iff_ne.2 h8
        have HST := Lib.hid (stepN_no (L := M) (n := cn) (i := (zn : Int)) (by rw [Int.toNat_natCast]; exact HX.out) h8)
        clear h8
        go_wp2_with fail
        go_region
        go_wp2_with fail
        go_roundw
        case rel => exact ⟨i + 1, congrArg (Value.int .i64) (by omega), hin, by rw [HS.out, HST.out], Lib.hid (by rw [HS.out, HST.out]; exact HK.out.below (by omega) (Below.refl _ _).drew), Lib.hid ⟨HG.out.os, HG.out.tape, HG.out.output, HG.out.size, HG.out.block⟩⟩
        case measure => simp [intOf]; omega
    · have d1 : decide (i < n) = false := decide_eq_false hin
      obtain rfl : i = n := by omega
      have hk := HK.out
      rw [HFIN.out] at hk
      dsimp only at hk
      have hGR := (((HB5.out.trans (below_grown HG.out (by omega) (fun k hk => by injection hk with hk; omega))).block _ (show w.heap.size + 1 < w.heap.size + 2 by omega))).trans GR.out
      obtain ⟨r0, r1⟩ := obj29 hGR
      have HKE := Lib.hid (hk.setO (r := w.heap.size + 1) (k := 0) (by omega) (fun g hg => by injection hg with hg; simp at hg; omega) (.slice (some ⟨gr, 0, none⟩) i k1))
      have HBE := Lib.hid (((HB5.out.trans (below_grown HG.out (by omega) (fun k hk => by injection hk with hk; omega))).mono (show w.heap.size + 1 ≤ w.heap.size + 2 by omega)).setCell (p := ⟨w.heap.size + 1, 0, none⟩) (Nat.le_refl _) (.slice (some ⟨gr, 0, none⟩) i k1))
      have hfl : (flat 0 (num 0 t)).length = i := by
        have h1 := (numTo_len L os i (by rw [HOL.out]; exact Nat.le_refl _)).1
        rw [HFIN.out, HLN.out] at h1
        exact h1
      have HFL := Lib.hid hfl
      have hww : w.heap.size ≤ wr.heap.size := by omega
      clear hk hGR hl1 hl2 hfl
      go_wp2_with fail
      refine bodyPost_ret (v := tr (some ⟨gr, 0, none⟩) i k1) ?_ rfl ⟨some ⟨gr, 0, none⟩, k1, by rw [HFL.out], HKE.out.reads (by simpa using hww), (fun h => by cases h), HA0.out.trans (HBE.out.mono (by omega))⟩
      rw [S.results_cell1 rfl]
      go_simp
end Go.Proofs.Ytceeimolfalmpaa
