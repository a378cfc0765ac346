/-
  The statement on views (CursViews) answers true for every text, chunk, pieces and place. Condition: the two tables of unicode/utf8 lie as their text lays them.
-/
import Derived.Test.YtdpjcbljeklhmaaDoorC7
namespace Go.Proofs.YtdpjcbljeklhmaaDoor
open Go.RowKit ObGap ObUtf

set_option maxHeartbeats 2000000 in
set_option maxRecDepth 100000 in
theorem views_walk (s : Bs) (chunk : Int) (A : Option Addr) (n cap : Nat) (f : Nat → Int) (at' : Int) (w : World) (hT : U.Tb w) (hcell : U.Cells w w.heap.size A n f) :
    Calls Tryd.prog 4 #[str s, .int .i64 chunk, .slice A n cap, .int .i64 at'] w fun e w' => e = .returned (.bool true) ∧ Below w.heap.size w w' := by
  have HT := Lib.hid hT
  have HC := Lib.hid hcell
  clear hT hcell
  have hlen : (s.take 100).length ≤ 100 := by simp; omega
  go_enter Tryd.func4, Tryd.ntmps4
  go_wp2_with fail
  refine (wakes_any w HT.out).mono ?_
  rintro e w1 ⟨rfl, hb1⟩
  go_wp2_with fail
  refine (lcut_any s 100 w1).mono ?_
  rintro e w2 ⟨rfl, rfl⟩
  generalize s.take 100 = t at *
  have HT1 := Lib.hid (HT.out.below hb1)
  have HB := Lib.hid (buf_any t chunk A n cap f w1 ((HC.out.below hb1).more hb1.size) (by omega))
  have hrv : (ba t).size ≤ 1000000 := by rw [ba_size]; omega
  have hcn := cnt_le (ba t)
  rw [ba_size] at hcn
  have HRV := Lib.hid (fun W => rview_any (ba t) W hrv)
  have HOF := Lib.hid (fun W hT => of_any (ba t) W hrv hT)
  have HRI := Lib.hid (fun W i => U.ris_any (ba t) i W hrv)
  have HL1 := Lib.hid (show (syms (ba t)).length ≤ 1000000 by unfold syms; rw [symsTo_length]; omega)
  have HL2 := Lib.hid (show (bdsTo (ba t) (cnt (ba t) + 1)).length ≤ 1000000 by rw [bdsTo_length]; omega)
  clear hcn hrv HC
  go_wp2_with fail
  refine HB.out.mono ?_
  rintro e w2 ⟨rfl, h2⟩
  have H2 := Lib.hid h2
  clear h2 HB
  generalize hbb : w1.heap.size = b at *
  clear hbb
  go_wp2_with fail
  refine (bt_text H2.out).mono ?_
  rintro e w3 ⟨rfl, h3⟩
  have HV := Lib.hid (bt_view HT1.out h3 (by omega))
  clear h3
  go_wp2_with fail
  refine HV.out.mono ?_
  rintro e w4 ⟨⟨V1, O1, rfl, v1, o1, _⟩, h4⟩
  have H4 := Lib.hid h4
  have K1 := Lib.hid (And.intro v1 o1)
  clear h4 v1 o1 HV
  go_wp2_with fail
  refine (HRV.out _).mono ?_
  rintro e w5 ⟨V2, O2, rfl, v2, o2, hb5⟩
  have HEQ := Lib.hid (eqview_same (own_below K1.out.1 hb5) (own_below K1.out.2 hb5) v2 o2 HL1.out HL2.out)
  have H5 := Lib.hid (H4.out.on hb5)
  clear v2 o2
  go_wp2_with fail
  refine HEQ.out.mono ?_
  rintro e w6 ⟨rfl, hb6⟩
  have H6 := Lib.hid (H5.out.on hb6)
  clear HEQ
  go_wp2_with fail
  refine (HOF.out _ (HT1.out.below H6.out.below)).mono ?_
  rintro e w7 ⟨V3, O3, rfl, v3, o3, hb7⟩
  have H7 := Lib.hid (H6.out.on hb7)
  have K3 := Lib.hid (And.intro v3 o3)
  clear v3 o3
  go_wp2_with fail
  refine (HRV.out _).mono ?_
  rintro e w8 ⟨V4, O4, rfl, v4, o4, hb8⟩
  have HEQ := Lib.hid (eqview_same (own_below K3.out.1 hb8) (own_below K3.out.2 hb8) v4 o4 HL1.out HL2.out)
  have H8 := Lib.hid (H7.out.on hb8)
  clear v4 o4
  go_wp2_with fail
  refine HEQ.out.mono ?_
  rintro e w9 ⟨rfl, hb9⟩
  have H9 := Lib.hid (H8.out.on hb9)
  clear HEQ
  go_wp2_with fail
  refine (bt_is HT1.out H9.out at').mono ?_
  rintro e w10 ⟨rfl, h10⟩
  have H10 := Lib.hid h10
  have HR := Lib.hid (HRI.out w10 at')
  clear h10
  generalize U.isBI (ba t) at' = q at *
  go_wp2_with fail
  refine HR.out.mono ?_
  rintro e w11 ⟨rfl, hb11⟩
  have H11 := Lib.hid (H10.out.on hb11)
  go_wp2_with fail
  clear K1 K3 H2 H4 H5 H6 H7 H8 H9 H10 HR HRV HOF HL1 HL2
  go_loopw [10] (fun t10 wr => ∃ i : Int, t10 = .int .i64 i ∧ -1 ≤ i ∧ i ≤ (t.length : Int) + 2 ∧ Bt w1 t b wr) (fun t10 _ => ((t.length : Int) + 2 - intOf t10).toNat)
  case atStart => exact ⟨-1, rfl, by omega, by omega, H11.out⟩
  case round =>
    obtain ⟨i, rfl, hi0, hi1, hB⟩ := hrel
    have HB := Lib.hid hB
    clear hB H11
    by_cases hc : i ≤ (t.length : Int) + 1
    · have d1 : decide (i ≤ (t.length : Int) + 1) = true := by simp [hc]
      have HI := Lib.hid (bt_is HT1.out HB.out i)
      have HR := Lib.hid (fun W => HRI.out W i)
      generalize U.isBI (ba t) i = qq at *
      go_wp2_with fail
      refine HI.out.mono ?_
      rintro e w12 ⟨rfl, h12⟩
      have H12 := Lib.hid h12
      clear h12
      go_wp2_with fail
      refine (HR.out _).mono ?_
      rintro e w13 ⟨rfl, hb13⟩
      go_wp2_with fail
      go_roundw
      case rel => exact ⟨i + 1, by go_num, by omega, by omega, H12.out.on hb13⟩
      case measure => simp [intOf]; omega
    · have d1 : decide (i ≤ (t.length : Int) + 1) = false := decide_eq_false hc
      go_wp2_with fail
      go_ret
      exact ⟨rfl, bel_trans hb1 HB.out.below⟩
end Go.Proofs.YtdpjcbljeklhmaaDoor
