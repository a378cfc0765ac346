/-
  Good, First, Same of the program, First of the page's own, two trees held against each other (EqTree). Conditions: at most 20000 nodes, each with at most 1000000 ranges.
-/
import Derived.Test.YtceeimolfalmpaaVL2
import Derived.Test.YtceeimolfalmpaaVN
namespace Go.Proofs.Ytceeimolfalmpaa
open Go.RowKit ObSets ObTree ObTree.Tree

set_option maxHeartbeats 1000000 in
theorem tgood_any (A : Option Addr) (n c : Nat) (L : List Nd) (w : World) (hN : Nr w A L) (hn : L.length = n) (hnb : n ≤ 20000) (hs : ∀ x ∈ L, x.set.length ≤ 1000000) :
    Calls Try.prog 13 #[tr A n c] w (RetB w (GoodL L)) := by
  have ha0 := (Below.refl w.heap.size w).alloc (Nat.le_refl _) (.cells #[.slice A n c] 24)
  have HLY := Lib.hid (layout_any A n c L _ (hN.below ha0) hn hnb hs)
  have HA0 := Lib.hid ha0
  clear ha0 hN
  go_enter Try.func13, Try.ntmps13
  go_wp2_with fail
  refine HLY.out.mono ?_
  rintro e w1 ⟨v, q, rfl, hq, _, _, hb1⟩
  have HB := Lib.hid (HA0.out.trans (hb1.mono HA0.out.size))
  have HQ := Lib.hid hq
  clear hb1 hq
  go_wp2_with fail
  go_ret
  exact ⟨q, rfl, HQ.out, HB.out⟩
/-- What First answers: where a good tree's node's tree begins, else -1. -/
def FirstIs (L : List Nd) (i : Int) (v : Int) : Prop := (GoodL L ∧ 0 ≤ i ∧ i < (L.length : Int) → v = fst L i) ∧ (¬ (GoodL L ∧ 0 ≤ i ∧ i < (L.length : Int)) → v = -1)
theorem FirstIs.uniq {L : List Nd} {i v u : Int} (h : FirstIs L i v) (k : FirstIs L i u) : v = u := by
  by_cases hc : GoodL L ∧ 0 ≤ i ∧ i < (L.length : Int)
  · rw [h.1 hc, k.1 hc]
  · rw [h.2 hc, k.2 hc]
def RetF (w : World) (L : List Nd) (i : Int) (e : Ending) (w' : World) : Prop := ∃ v : Int, e = .returned (.int .i64 v) ∧ FirstIs L i v ∧ Below w.heap.size w w'
set_option maxHeartbeats 2000000 in
set_option maxRecDepth 100000 in
theorem tfirst_any (A : Option Addr) (n c : Nat) (L : List Nd) (i : Int) (w : World) (hN : Nr w A L) (hn : L.length = n) (hnb : n ≤ 20000) (hs : ∀ x ∈ L, x.set.length ≤ 1000000) :
    Calls Try.prog 17 #[tr A n c, .int .i64 i] w (RetF w L i) := by
  have ha0 := (Below.refl w.heap.size w).alloc (Nat.le_refl _) (.cells #[.slice A n c] 24)
  have HLY := Lib.hid (layout_any A n c L _ (hN.below ha0) hn hnb hs)
  have HA0 := Lib.hid ha0
  have HLN := Lib.hid hn
  clear ha0 hN hn
  go_enter Try.func17, Try.ntmps17
  go_wp2_with fail
  refine HLY.out.mono ?_
  rintro e w1 ⟨v, q, rfl, hq, hi, _, hb1⟩
  have HB := Lib.hid (HA0.out.trans (hb1.mono HA0.out.size))
  clear hb1
  cases q with
  | false =>
    have HF := Lib.hid (show FirstIs L i (-1) from ⟨(fun h => by have := hq.2 h.1; cases this), fun _ => rfl⟩)
    clear hq hi
    go_wp2_with fail
    go_ret
    exact ⟨-1, rfl, HF.out, HB.out⟩
  | true =>
    have HG := Lib.hid (hq.1 rfl)
    obtain ⟨A2, c2, rfl, hc⟩ := hi rfl
    rw [fsts_len]
    have HC := Lib.hid hc
    clear hq hi hc
    by_cases h0 : i < 0
    · have HF := Lib.hid (show FirstIs L i (-1) from ⟨(fun h => by have := h.2.1; omega), fun _ => rfl⟩)
      have d0 : decide (i < 0) = true := decide_eq_true h0
      go_wp2_with fail
      go_ret
      exact ⟨-1, rfl, HF.out, HB.out⟩
    · obtain ⟨k, rfl⟩ := Int.eq_ofNat_of_zero_le (show 0 ≤ i by omega)
      have d0 : decide ((k : Int) < 0) = false := decide_eq_false h0
      by_cases h1 : k < n
      · have d1 : decide (n ≤ k) = false := decide_eq_false (by omega)
        have hkn : (k : Int) < (n : Int) := by omega
        obtain ⟨g, o, rfl, _, e1⟩ := HC.out k _ (fsts_get L h1)
        have HF := Lib.hid (show FirstIs L (k : Int) (fst L (k : Int)) from ⟨fun _ => rfl, fun h => absurd ⟨HG.out, by omega, by rw [HLN.out]; omega⟩ h⟩)
        go_wp2_with fail
        go_ret
        exact ⟨_, rfl, HF.out, HB.out⟩
      · have d1 : decide (n ≤ k) = true := decide_eq_true (by omega)
        have HF := Lib.hid (show FirstIs L (k : Int) (-1) from ⟨(fun h => by have := h.2.2; rw [HLN.out] at this; omega), fun _ => rfl⟩)
        go_wp2_with fail
        go_ret
        exact ⟨-1, rfl, HF.out, HB.out⟩
theorem szs_good {L : List Nd} (hnb : L.length ≤ 20000) (hg : GoodL L) {k : Nat} (hk : k < L.length) : (szs L L.length)[k]? = some (sz L k) := by
  obtain ⟨x, hx⟩ : ∃ x, L[k]? = some x := ⟨_, List.getElem?_eq_getElem hk⟩
  exact (szs_sz rfl hnb hg.1.2.1 hg.2.1 (k + 1) k (Nat.lt_succ_self _) hk x hx).1
theorem sz_in {L : List Nd} (hnb : L.length ≤ 20000) (hg : GoodL L) {k : Nat} (hk : k < L.length) : 1 ≤ sz L k ∧ sz L k ≤ (k : Int) + 1 := by
  have hb := (beh_all hnb hg.1.2.1).1 hg.2.1
  have := fst_in (L := L) (i := k + 1) (fun j x _ h => hb j x h) hg.1.2.1 (Nat.lt_succ_self k) (by omega)
  obtain ⟨t, _, t2, t3, _⟩ := build (L := L) (k + 1) k (Nat.lt_succ_self _) hk (fun m z hm hz => ⟨(hg.1.2.1 m z (by omega) hz).2, hb m z hz⟩)
  have := size_pos t
  omega
set_option maxHeartbeats 2000000 in
set_option maxRecDepth 100000 in
theorem rfirst_any (A : Option Addr) (n c : Nat) (L : List Nd) (i : Int) (w : World) (hN : Nr w A L) (hn : L.length = n) (hnb : n ≤ 20000) (hs : ∀ x ∈ L, x.set.length ≤ 1000000) :
    Calls Try.prog 30 #[tr A n c, .int .i64 i] w (RetF w L i) := by
  have ha0 := (Below.refl w.heap.size w).alloc (Nat.le_refl _) (.cells #[.slice A n c] 24)
  have HGD := Lib.hid (good_any A n c L _ (hN.below ha0) hn hnb hs)
  have HA0 := Lib.hid ha0
  have HLN := Lib.hid hn
  have HN := Lib.hid hN
  have HG0 := Lib.hid (heap_new w (.cells #[.slice A n c] 24))
  clear ha0 hN hn
  go_enter Try.func30, Try.ntmps30
  go_wp2_with fail
  refine HGD.out.mono ?_
  rintro e w1 ⟨q, rfl, hq, hb1⟩
  have HB := Lib.hid (HA0.out.trans (hb1.mono HA0.out.size))
  obtain ⟨o1, _⟩ := obj29 (keepL HG0.out hb1)
  clear hb1
  cases q with
  | false =>
    have HF := Lib.hid (show FirstIs L i (-1) from ⟨(fun h => by have := hq.2 h.1; cases this), fun _ => rfl⟩)
    clear hq
    go_wp2_with fail
    go_ret
    exact ⟨-1, rfl, HF.out, HB.out⟩
  | true =>
    have HG := Lib.hid (hq.1 rfl)
    clear hq
    by_cases h0 : i < 0
    · have HF := Lib.hid (show FirstIs L i (-1) from ⟨(fun h => by have := h.2.1; omega), fun _ => rfl⟩)
      have d0 : decide (i < 0) = true := decide_eq_true h0
      go_wp2_with fail
      go_ret
      exact ⟨-1, rfl, HF.out, HB.out⟩
    · obtain ⟨k, rfl⟩ := Int.eq_ofNat_of_zero_le (show 0 ≤ i by omega)
      have d0 : decide ((k : Int) < 0) = false := decide_eq_false h0
      by_cases h1 : k < n
      · have d1 : decide (n ≤ k) = false := decide_eq_false (by omega)
        have hkn : (k : Int) < (n : Int) := by omega
        have HSI := Lib.hid (sizes_any A n c L w1 (HN.out.below HB.out) HLN.out hnb (fun j x hx => (HG.out.1.2.1 j x (List.getElem?_eq_some_iff.1 hx).1 hx).2))
        have hsz := szs_good (by rw [HLN.out]; exact hnb) HG.out (k := k) (by rw [HLN.out]; exact h1)
        rw [HLN.out] at hsz
        have HSZ := Lib.hid hsz
        obtain ⟨s1, s2⟩ := sz_in (by rw [HLN.out]; exact hnb) HG.out (k := k) (by rw [HLN.out]; exact h1)
        have HF := Lib.hid (show FirstIs L (k : Int) ((k : Int) + 1 - sz L k) from ⟨fun _ => by unfold fst; rw [Int.toNat_natCast], fun h => absurd ⟨HG.out, by omega, by rw [HLN.out]; omega⟩ h⟩)
        obtain ⟨sv, hsv⟩ : ∃ sv, sz L k = sv := ⟨_, rfl⟩
        rw [hsv] at HF HSZ s1 s2
        clear hsz hsv
        go_wp2_with fail
        refine HSI.out.mono ?_
        rintro e w2 ⟨v2, rfl, hr2, hb2⟩
        obtain ⟨A2, c2, rfl, hsee⟩ := row_see hr2
        rw [szs_len]
        obtain ⟨g2, rfl, _, _, e2⟩ := hsee k sv HSZ.out
        have HB2 := Lib.hid (HB.out.trans (hb2.mono HB.out.size))
        clear hsee hr2 hb2
        go_wp2_with fail
        go_ret
        exact ⟨_, rfl, HF.out, HB2.out⟩
      · have d1 : decide (n ≤ k) = true := decide_eq_true (by omega)
        have HF := Lib.hid (show FirstIs L (k : Int) (-1) from ⟨(fun h => by have := h.2.2; rw [HLN.out] at this; omega), fun _ => rfl⟩)
        go_wp2_with fail
        go_ret
        exact ⟨-1, rfl, HF.out, HB.out⟩
end Go.Proofs.Ytceeimolfalmpaa
