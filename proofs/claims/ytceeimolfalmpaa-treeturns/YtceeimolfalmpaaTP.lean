/-
  Whether each node stands right behind all that hangs on it (Behind), of the page's own. Conditions: at most 20000 nodes, each kid ahead of its node.
-/
import Derived.Test.YtceeimolfalmpaaTO
import Derived.Test.YtceeimolfalmpaaTM
namespace Go.Proofs.Ytceeimolfalmpaa
open Go.RowKit ObSets ObTree

/-- The place that is looked at behind so many kids, from the last on. -/
def atAt (r l : List Int) (i : Int) (p : Nat) : Int := (l.reverse.take p).foldl (fun s k => wrap64 (s - r[k.toNat]?.getD 0)) i
theorem atAt_succ {r l : List Int} {i : Int} {p : Nat} {k : Int} (h : l.reverse[p]? = some k) : atAt r l i (p + 1) = wrap64 (atAt r l i p - r[k.toNat]?.getD 0) := by
  unfold atAt; rw [List.take_add_one, h, Option.toList_some, List.foldl_append]; rfl
/-- Do the kids stand right behind each other, up to the node? -/
def BehK (r l : List Int) (i : Int) : Prop := ∀ (p : Nat) (k : Int), l.reverse[p]? = some k → k = wrap64 (atAt r l i p - 1)
def BehTo (L : List Nd) (n m : Nat) : Prop := ∀ (i : Nat) x, i < m → L[i]? = some x → BehK (szs L n) (kids x) i
/-- Does each node of a row stand right behind all that hangs on it? -/
def BehL (L : List Nd) : Prop := BehTo L L.length L.length
set_option maxHeartbeats 4000000 in
set_option maxRecDepth 100000 in
theorem behind_any (A : Option Addr) (n c : Nat) (L : List Nd) (w : World) (hN : Nr w A L) (hn : L.length = n) (hnb : n ≤ 20000) (hk : ∀ (j : Nat) x, L[j]? = some x → ∀ k ∈ kids x, 0 ≤ k ∧ k < (j : Int)) :
    Calls Try.prog 45 #[tr A n c] w (RetB w (BehL L)) := by
  have HN := Lib.hid hN; have HLN := Lib.hid hn; have HK := Lib.hid hk
  clear hN hn hk
  have ha0 := (Below.refl w.heap.size w).alloc (Nat.le_refl _) (.cells #[.slice A n c] 24)
  have hz : (w.alloc (.cells #[.slice A n c] 24)).heap.size = w.heap.size + 1 := by simp
  have hGA := heap_new w (.cells #[.slice A n c] 24)
  go_enter Try.func45, Try.ntmps45
  go_upto_region 1 with fail
  generalize w.alloc (.cells #[.slice A n c] 24) = W0 at *
  have HSIZ := Lib.hid (sizes_any A n c L W0 (HN.out.below ha0) HLN.out hnb HK.out)
  have HA0 := Lib.hid ha0
  have HO0 := Lib.hid hGA
  obtain ⟨a0, _⟩ := obj29 hGA
  clear hGA ha0
  go_wp2_with fail
  refine HSIZ.out.mono ?_
  rintro e w1 ⟨v1, rfl, hs1, hb1⟩
  obtain ⟨A1, k1, rfl, hsee⟩ := row_see hs1
  rw [szs_len]
  have HSZ := Lib.hid hsee
  have HB1 := Lib.hid (HA0.out.trans (hb1.mono HA0.out.size))
  have HO1 := Lib.hid (keepL HO0.out hb1)
  have hw1 := hb1.size
  clear hsee hs1 hb1 a0
  go_wp2_with fail
  go_loopw [4] (fun ti wr => ∃ i : Nat, ti = .int .i64 (i : Int) ∧ i ≤ n ∧ Hid (BehTo L n i) ∧ Hid (Below w1.heap.size w1 wr)) (fun ti _ => n - (intOf ti).toNat)
  case atStart => exact ⟨0, rfl, Nat.zero_le _, Lib.hid (fun i x h => absurd h (Nat.not_lt_zero _)), Lib.hid (Below.refl _ _)⟩
  case round =>
    obtain ⟨i, rfl, hi, HT, HG⟩ := hrel
    have hgs := HG.out.size
    have HO2 := Lib.hid (keepL HO1.out HG.out)
    obtain ⟨o0, _⟩ := obj29 HO2.out
    have HB2 := Lib.hid (HB1.out.trans (HG.out.mono HB1.out.size))
    by_cases hin : i < n
    · have d1 : decide (i < n) = true := decide_eq_true hin
      have hin' : (i : Int) < (n : Int) := by omega
      obtain ⟨x, hx⟩ : ∃ x, L[i]? = some x := ⟨_, List.getElem?_eq_getElem (by rw [HLN.out]; exact hin)⟩
      obtain ⟨bb, off, rfl, hbl, hnd⟩ := nr_at HN.out hx
      obtain ⟨As, ks, ⟨c0, c1, c2, c3, c4, c5, c6⟩, _⟩ := hnd.below hbl HB2.out
      have HKX := Lib.hid (HK.out i x hx)
      have HX := Lib.hid hx
      clear hnd hx
      go_wp2_with fail
      refine (kids_any x (.slice As x.set.length ks) ⟨_, _, _, rfl⟩ _).mono ?_
      rintro e w3 ⟨v3, rfl, hk3, hb3⟩
      obtain ⟨A3, k3, rfl, hsee⟩ := row_see hk3
      obtain ⟨kl, hkl⟩ : ∃ kl, (kids x).length = kl := ⟨_, rfl⟩
      rw [hkl]
      have hkl2 : kl ≤ 2 := by rw [← hkl]; exact kids_len x
      have HSEE := Lib.hid hsee; have HKL := Lib.hid hkl
      have HB3 := Lib.hid (HB2.out.trans (hb3.mono HB2.out.size))
      have HG3 := Lib.hid (HG.out.trans (hb3.mono HG.out.size))
      have hw3 := hb3.size
      clear hsee hkl hk3 hb3 c0 c1 c2 c3 c4 c5 c6 o0
      go_wp2_with fail
      go_loopw [6, 7] (fun ta tj wq => ∃ p : Nat, tj = .int .i64 ((kl : Int) - 1 - p) ∧ p ≤ kl ∧ ta = .int .i64 (atAt (szs L n) (kids x) i p) ∧ Hid (∀ (q : Nat) (k : Int), q < p → (kids x).reverse[q]? = some k → k = wrap64 (atAt (szs L n) (kids x) i q - 1)) ∧ w3 = wq) (fun _ tj _ => ((intOf tj) + 1).toNat)
      case atStart => exact ⟨0, by simp, Nat.zero_le _, rfl, Lib.hid (fun q k h => absurd h (Nat.not_lt_zero _)), rfl⟩
      case round =>
        obtain ⟨p, rfl, hp, rfl, HQ, rfl⟩ := hrel
        obtain ⟨t, ht⟩ : ∃ t, atAt (szs L n) (kids x) i p = t := ⟨_, rfl⟩
        by_cases hpk : p < kl
        · obtain ⟨jn, hjn⟩ : ∃ jn : Nat, kl - 1 - p = jn := ⟨_, rfl⟩
          have hj : (kl : Int) - 1 - p = (jn : Int) := by omega
          rw [hj, ht]
          have hjk : (jn : Int) < (kl : Int) := by omega
          have hjk' : jn < kl := by omega
          obtain ⟨z, hz⟩ : ∃ z, (kids x)[jn]? = some z := ⟨_, List.getElem?_eq_getElem (by rw [HKL.out]; exact hjk')⟩
          have hrv : (kids x).reverse[p]? = some z := by
            rw [List.getElem?_reverse (by rw [HKL.out]; exact hpk), HKL.out, hjn]; exact hz
          obtain ⟨hz0, hz1⟩ := HKX.out z (List.mem_of_getElem? hz)
          obtain ⟨zn, rfl⟩ := Int.eq_ofNat_of_zero_le hz0
          have hzn : zn < n := by omega
          have hzni : (zn : Int) < (n : Int) := by omega
          obtain ⟨s, hs⟩ : ∃ s, (szs L n)[zn]? = some s := ⟨_, List.getElem?_eq_getElem (by rw [szs_len]; exact hzn)⟩
          have hsu := atAt_succ (r := szs L n) (i := (i : Int)) hrv
          rw [ht, Int.toNat_natCast, hs, Option.getD_some] at hsu
          obtain ⟨g3, rfl, y1, y2, y3⟩ := HSEE.out jn _ hz
          obtain ⟨g1, rfl, x1, x2, x3⟩ := HSZ.out zn _ hs
          have x4 := (HG3.out.cell (p := ⟨g1, zn, none⟩) x2).trans x3
          have HSU := Lib.hid hsu; have HRV := Lib.hid hrv; have HT1 := Lib.hid ht
          by_cases heq : (zn : Int) = wrap64 (t - 1)
          · have e2 : ((zn : Int) != wrap64 (t - 1)) = false := by rw [bne_eq_false_iff_eq]; exact heq
            have HEQ := Lib.hid heq
            clear hz hrv hs hsu ht x3 heq
            go_wp2_with fail
            go_roundw
            case rel =>
              refine ⟨p + 1, congrArg (Value.int .i64) (by omega), hpk, congrArg (Value.int .i64) HSU.out.symm, Lib.hid (fun q k hq hk => ?_), trivial⟩
              by_cases hqp : q < p
              · exact HQ.out q k hqp hk
              · obtain rfl : q = p := by omega
                rw [HRV.out] at hk
                injection hk with hk
                rw [← hk, HT1.out]; exact HEQ.out
            case measure => simp [intOf]
          · have e2 : ((zn : Int) != wrap64 (t - 1)) = true := by rw [bne_iff_ne]; exact heq
            have HNO := Lib.hid (show ¬ BehL L by
              intro hb
              unfold BehL at hb
              rw [HLN.out] at hb
              have := hb i x hin HX.out p _ hrv
              rw [ht] at this
              exact heq this)
            clear hz hrv hs hsu ht x3 heq
            go_wp2_with fail
            go_ret
            exact ⟨false, rfl, iff_of_false Bool.noConfusion HNO.out, HB3.out⟩
        · obtain rfl : p = kl := by omega
          rw [show (p : Int) - 1 - p = -1 by omega]
          have HTN := Lib.hid (show BehTo L n (i + 1) from fun k y hk hy => by
            by_cases hki : k < i
            · exact HT.out k y hki hy
            · obtain rfl : k = i := by omega
              rw [HX.out] at hy
              injection hy with hy
              subst hy
              exact fun q z hz => HQ.out q z (by
                have := (List.getElem?_eq_some_iff.1 hz).1
                rw [List.length_reverse, HKL.out] at this; exact this) hz)
          go_wp2_with fail
          go_roundw
          case rel => exact ⟨i + 1, congrArg (Value.int .i64) (by omega), hin, HTN, HG3⟩
          case measure => simp [intOf]; omega
    · have d1 : decide (i < n) = false := decide_eq_false hin
      obtain rfl : i = n := by omega
      have HYES := Lib.hid (show BehL L by unfold BehL; rw [HLN.out]; exact HT.out)
      go_wp2_with fail
      go_ret
      exact ⟨true, rfl, iff_of_true rfl HYES.out, HB2.out⟩
end Go.Proofs.Ytceeimolfalmpaa
