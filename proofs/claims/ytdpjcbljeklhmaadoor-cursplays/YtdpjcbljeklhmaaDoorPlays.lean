/-
  The statement on cursors that go to and fro (CursPlays) answers true for every text, pieces, place and moves. Condition: the two tables of unicode/utf8 lie as their text lays them.
-/
import Derived.Test.YtdpjcbljeklhmaaDoorC7
namespace Go.Proofs.YtdpjcbljeklhmaaDoor
open Go.RowKit ObGap ObUtf

theorem syI_nat (s : ByteArray) (k : Nat) : U.syI s (k : Int) = sy s k := by unfold U.syI; rw [if_neg (by omega)]; rfl
theorem wdI_nat (s : ByteArray) (k : Nat) : U.wdI s (k : Int) = ((wd s k : Nat) : Int) := by unfold U.wdI; rw [if_neg (by omega)]; rfl
theorem sy_out {s : ByteArray} {i : Nat} (h : s.size ≤ i) : sy s i = -1 := by unfold sy; rw [if_neg (by omega)]
theorem bef_nat {s : ByteArray} {k : Nat} (h : IsB s k) (h0 : 0 < k) : U.befS s (k : Int) = sy s (k - U.pw s k) ∧ U.befW s (k : Int) = ((U.pw s k : Nat) : Int) := by
  have hc : (0 : Int) < (k : Int) ∧ U.locB s (k : Int).toNat = true := ⟨by omega, by rw [Int.toNat_natCast]; exact (U.locB_iff s k).2 h⟩
  unfold U.befS U.befW
  rw [if_pos hc, if_pos hc, Int.toNat_natCast]
  exact ⟨rfl, rfl⟩
theorem bef_zero {s : ByteArray} {k : Nat} (h : k = 0) : U.befS s (k : Int) = -1 ∧ U.befW s (k : Int) = 0 := by
  unfold U.befS U.befW
  rw [if_neg (fun h => by omega), if_neg (fun h => by omega)]
  exact ⟨rfl, rfl⟩
set_option maxHeartbeats 4000000 in
set_option maxRecDepth 100000 in
theorem plays_walk (s : Bs) (A : Option Addr) (n cap : Nat) (f : Nat → Int) (at' : Int) (A2 : Option Addr) (n2 cap2 : Nat) (f2 : Nat → Int) (w : World) (hT : U.Tb w) (hcell : U.Cells w w.heap.size A n f) (hcell2 : U.Cells w w.heap.size A2 n2 f2) :
    Calls Tryd.prog 3 #[str s, .slice A n cap, .int .i64 at', .slice A2 n2 cap2] w fun e w' => e = .returned (.bool true) ∧ Below w.heap.size w w' := by
  have HT := Lib.hid hT
  have HC := Lib.hid hcell
  have HC0 := Lib.hid hcell2
  clear hT hcell hcell2
  have hlen : (s.take 80).length ≤ 80 := by simp; omega
  go_enter Tryd.func3, Tryd.ntmps3
  go_wp2_with fail
  refine (wakes_any w HT.out).mono ?_
  rintro e w1 ⟨rfl, hb1⟩
  go_wp2_with fail
  refine (lcut_any s 80 w1).mono ?_
  rintro e w2 ⟨rfl, rfl⟩
  generalize s.take 80 = t at *
  have HT1 := Lib.hid (HT.out.below hb1)
  have HC2 := Lib.hid ((HC0.out.below hb1).more hb1.size)
  have HB := Lib.hid (buf_any t at' A n cap f w1 ((HC.out.below hb1).more hb1.size) (by omega))
  have hrv : (ba t).size ≤ 1000000 := by rw [ba_size]; omega
  have hml : (ba t).size ≤ maxLen := by rw [ba_size]; unfold maxLen; omega
  have HRI := Lib.hid (fun W i => U.ris_any (ba t) i W hrv)
  clear HC HC0
  go_wp2_with fail
  refine HB.out.mono ?_
  rintro e w2 ⟨rfl, h2⟩
  have H2 := Lib.hid h2
  clear h2 HB
  generalize hbb : w1.heap.size = b at *
  have HC2 := Lib.hid (show U.Cells w1 w1.heap.size A2 n2 f2 by rw [hbb]; exact HC2.out)
  clear hbb
  go_wp2_with fail
  refine (bt_text H2.out).mono ?_
  rintro e w3 ⟨rfl, h3⟩
  have H3 := Lib.hid h3
  clear h3 H2
  by_cases hat : U.isBI (ba t) at' = true
  · obtain ⟨k0, hk0⟩ : ∃ k0 : Nat, at' = (k0 : Int) := ⟨at'.toNat, by unfold U.isBI at hat; simp at hat; omega⟩
    subst hk0
    have HN := Lib.hid (bt_new HT1.out H3.out k0 hat)
    have HR := Lib.hid (fun W => HRI.out W (k0 : Int))
    rw [hat] at HR
    have HI0 := Lib.hid ((U.locB_iff (ba t) k0).1 (by rwa [U.isBI_nat] at hat))
    clear hat HRI
    go_wp2_with fail
    refine HN.out.mono ?_
    rintro e w4 ⟨rfl, h4⟩
    have H4 := Lib.hid h4
    clear h4 HN
    generalize w3.heap.size = c at *
    go_wp2_with fail
    refine (HR.out _).mono ?_
    rintro e w5 ⟨rfl, hb5⟩
    have H5 := Lib.hid (H4.out.on hb5)
    clear H4 HR H3
    go_wp2_with fail
    go_loopw [2, 12, 13] (fun s2 s12 s13 wr => ∃ (k m i : Nat), s2 = .int .i64 (k : Int) ∧ s12 = .int .i64 (m : Int) ∧ s13 = .int .i64 (i : Int) ∧ m ≤ i ∧ i ≤ 120 ∧ IsB (ba t) k ∧ Sc w1 t b c k m wr) (fun _ _ s13 _ => 120 - (intOf s13).toNat)
    case atStart => exact ⟨k0, 0, 0, rfl, rfl, rfl, Nat.le_refl _, by omega, HI0.out, H5.out⟩
    case round =>
      obtain ⟨k, m, i, rfl, rfl, rfl, hmi, hi, hI, hS⟩ := hrel
      have HI := Lib.hid hI
      have HS := Lib.hid hS
      have hkl : k ≤ t.length := hI.le
      clear hI hS H5 HI0
      by_cases hc : i < n2 ∧ i < 120
      · obtain ⟨hc1, hc2⟩ := hc
        have d1 : decide (i < n2) = true := by simp [hc1]
        obtain ⟨g, off, rfl, hg, hcl⟩ := (HC2.out.below HS.out.below) (by omega)
        have m1 := hcl i hc1
        have i1 : (i : Int) < (n2 : Int) := by omega
        have hw := wi_in (f2 i) 12 (by omega)
        have HW := Lib.hid (within_any (f2 i) 12 (by omega) (by omega) wr)
        obtain ⟨to, hto⟩ : ∃ to, to = IntKind.i64.wrap (Int.tdiv (f2 i) 12) := ⟨_, rfl⟩
        have hto' := hto.symm
        clear hcl hto
        generalize wi (f2 i) 12 = kk at *
        by_cases h0 : kk = 0
        · have b0 : (kk == 0) = true := by simp [h0]
          clear h0
          by_cases ht : U.isBI (ba t) to = true
          · obtain ⟨k2, hk2⟩ : ∃ k2 : Nat, to = (k2 : Int) := ⟨to.toNat, by unfold U.isBI at ht; simp at ht; omega⟩
            subst hk2
            have HK := Lib.hid (sc_seek HT1.out HS.out k2 ht)
            have HR := Lib.hid (fun W => U.ris_any (ba t) (k2 : Int) W hrv)
            rw [ht] at HR
            have HI2 := Lib.hid ((U.locB_iff (ba t) k2).1 (by rwa [U.isBI_nat] at ht))
            clear ht
            go_wp2_with fail
            refine HW.out.mono ?_
            rintro e w6 ⟨rfl, rfl⟩
            go_wp2_with fail
            refine HK.out.mono ?_
            rintro e w7 ⟨rfl, h7⟩
            go_wp2_with fail
            refine (HR.out _).mono ?_
            rintro e w8 ⟨rfl, hb8⟩
            have H8 := Lib.hid (h7.on hb8)
            clear h7
            go_wp2_with fail
            refine (sc_place H8.out).mono ?_
            rintro e w9 ⟨rfl, rfl⟩
            go_wp2_with fail
            refine (sc_fetched H8.out).mono ?_
            rintro e w9 ⟨rfl, rfl⟩
            go_wp2_with fail
            go_roundw
            case rel => exact ⟨k2, m, i + 1, rfl, rfl, by go_num, by omega, by omega, HI2.out, H8.out⟩
            case measure => simp [intOf]; omega
          · have ht : U.isBI (ba t) to = false := by simpa using ht
            have HK := Lib.hid (sc_seek_no HT1.out HS.out to ht)
            have HR := Lib.hid (fun W => U.ris_any (ba t) to W hrv)
            rw [ht] at HR
            clear ht
            go_wp2_with fail
            refine HW.out.mono ?_
            rintro e w6 ⟨rfl, rfl⟩
            go_wp2_with fail
            refine HK.out.mono ?_
            rintro e w7 ⟨rfl, h7⟩
            go_wp2_with fail
            refine (HR.out _).mono ?_
            rintro e w8 ⟨rfl, hb8⟩
            have H8 := Lib.hid (h7.on hb8)
            clear h7
            go_wp2_with fail
            refine (sc_place H8.out).mono ?_
            rintro e w9 ⟨rfl, rfl⟩
            go_wp2_with fail
            refine (sc_fetched H8.out).mono ?_
            rintro e w9 ⟨rfl, rfl⟩
            go_wp2_with fail
            go_roundw
            case rel => exact ⟨k, m, i + 1, rfl, rfl, by go_num, by omega, by omega, HI.out, H8.out⟩
            case measure => simp [intOf]; omega
        · have b0 : (kk == 0) = false := by simpa using h0
          clear h0
          by_cases h7 : kk < 7
          · have d7 : decide (kk < 7) = true := by simp [h7]
            clear h7
            have HR := Lib.hid (fun W => U.rat_any (ba t) (k : Int) W hml)
            by_cases hk : k < t.length
            · have hp := wd_pos (s := ba t) (i := k) hk
              have hw4 := wd_le (ba t) k
              have HN := Lib.hid (sc_next HT1.out HS.out hk (by omega))
              rw [syI_nat, wdI_nat] at HR
              have HI2 := Lib.hid HI.out.next
              have mn : min ((wd (ba t) k : Nat) : Int) 1 = 1 := by omega
              have d0 : decide ((0 : Int) < ((wd (ba t) k : Nat) : Int)) = true := by simp; omega
              have d00 : decide (0 < wd (ba t) k) = true := by simp; omega
              generalize sy (ba t) k = y at *
              generalize wd (ba t) k = d at *
              go_wp2_with fail
              refine HW.out.mono ?_
              rintro e w6 ⟨rfl, rfl⟩
              go_wp2_with fail
              refine HN.out.mono ?_
              rintro e w7 ⟨rfl, h7⟩
              go_wp2_with fail
              refine (HR.out _).mono ?_
              rintro e w8 ⟨rfl, hb8⟩
              have H8 := Lib.hid (h7.on hb8)
              clear h7
              have HP := sc_place H8.out
              have HF := sc_fetched H8.out
              rw [show ((k + d : Nat) : Int) = (k : Int) + (d : Int) by omega] at HP
              rw [show ((m + 1 : Nat) : Int) = (m : Int) + 1 by omega] at HF
              have HP := Lib.hid HP
              have HF := Lib.hid HF
              go_wp2_with fail
              refine HP.out.mono ?_
              rintro e w9 ⟨rfl, rfl⟩
              go_wp2_with fail
              refine HF.out.mono ?_
              rintro e w9 ⟨rfl, rfl⟩
              go_wp2_with fail
              go_roundw
              case rel => exact ⟨k + d, m + 1, i + 1, by go_num, by go_num, by go_num, by omega, by omega, HI2.out, H8.out⟩
              case measure => simp [intOf]; omega
            · have HN := Lib.hid (sc_next_end HS.out (by omega))
              rw [syI_nat, wdI_nat, wd_out (s := ba t) (i := k) (by rw [ba_size]; omega), sy_out (s := ba t) (i := k) (by rw [ba_size]; omega)] at HR
              go_wp2_with fail
              refine HW.out.mono ?_
              rintro e w6 ⟨rfl, rfl⟩
              go_wp2_with fail
              refine HN.out.mono ?_
              rintro e w7 ⟨rfl, h7⟩
              go_wp2_with fail
              refine (HR.out _).mono ?_
              rintro e w8 ⟨rfl, hb8⟩
              have H8 := Lib.hid (h7.on hb8)
              clear h7
              go_wp2_with fail
              refine (sc_place H8.out).mono ?_
              rintro e w9 ⟨rfl, rfl⟩
              go_wp2_with fail
              refine (sc_fetched H8.out).mono ?_
              rintro e w9 ⟨rfl, rfl⟩
              go_wp2_with fail
              go_roundw
              case rel => exact ⟨k, m, i + 1, by go_num, by go_num, by go_num, by omega, by omega, HI.out, H8.out⟩
              case measure => simp [intOf]; omega
          · have d7 : decide (kk < 7) = false := decide_eq_false h7
            clear h7
            have HR := Lib.hid (fun W => U.rbefore_any (ba t) (k : Int) W hrv)
            by_cases hk : 0 < k
            · have hw := U.pw_wd HI.out hk
              have HN := Lib.hid (sc_prev HT1.out HS.out hk hkl HI.out (by omega))
              rw [(bef_nat HI.out hk).1, (bef_nat HI.out hk).2] at HR
              have HI2 := Lib.hid hw.2.2.2.2
              have hp1 := hw.1
              have hp2 := hw.2.1
              have hp3 := hw.2.2.1
              clear hw
              have mn : min ((U.pw (ba t) k : Nat) : Int) 1 = 1 := by omega
              have d0 : decide ((0 : Int) < ((U.pw (ba t) k : Nat) : Int)) = true := by simp; omega
              have d00 : decide (0 < U.pw (ba t) k) = true := by simp; omega
              have hkd : ((k - U.pw (ba t) k : Nat) : Int) = (k : Int) - (U.pw (ba t) k : Int) := by omega
              generalize sy (ba t) (k - U.pw (ba t) k) = y at *
              generalize hkd2 : k - U.pw (ba t) k = kd at *
              generalize U.pw (ba t) k = d at *
              have HKD := Lib.hid hkd
              clear hkd hkd2
              go_wp2_with fail
              refine HW.out.mono ?_
              rintro e w6 ⟨rfl, rfl⟩
              go_wp2_with fail
              refine HN.out.mono ?_
              rintro e w7 ⟨rfl, h7⟩
              go_wp2_with fail
              refine (HR.out _).mono ?_
              rintro e w8 ⟨rfl, hb8⟩
              have H8 := Lib.hid (h7.on hb8)
              clear h7
              have HP := sc_place H8.out
              have HF := sc_fetched H8.out
              rw [HKD.out] at HP
              rw [show ((m + 1 : Nat) : Int) = (m : Int) + 1 by omega] at HF
              have HP := Lib.hid HP
              have HF := Lib.hid HF
              go_wp2_with fail
              refine HP.out.mono ?_
              rintro e w9 ⟨rfl, rfl⟩
              go_wp2_with fail
              refine HF.out.mono ?_
              rintro e w9 ⟨rfl, rfl⟩
              go_wp2_with fail
              go_roundw
              case rel => exact ⟨kd, m + 1, i + 1, by rw [HKD.out], by go_num, by go_num, by omega, by omega, HI2.out, H8.out⟩
              case measure => simp [intOf]; omega
            · have hk0 : k = 0 := by omega
              have HN := Lib.hid (sc_prev_end HS.out hk0)
              rw [(bef_zero (s := ba t) hk0).1, (bef_zero (s := ba t) hk0).2] at HR
              clear hk hk0
              go_wp2_with fail
              refine HW.out.mono ?_
              rintro e w6 ⟨rfl, rfl⟩
              go_wp2_with fail
              refine HN.out.mono ?_
              rintro e w7 ⟨rfl, h7⟩
              go_wp2_with fail
              refine (HR.out _).mono ?_
              rintro e w8 ⟨rfl, hb8⟩
              have H8 := Lib.hid (h7.on hb8)
              clear h7
              go_wp2_with fail
              refine (sc_place H8.out).mono ?_
              rintro e w9 ⟨rfl, rfl⟩
              go_wp2_with fail
              refine (sc_fetched H8.out).mono ?_
              rintro e w9 ⟨rfl, rfl⟩
              go_wp2_with fail
              go_roundw
              case rel => exact ⟨k, m, i + 1, by go_num, by go_num, by go_num, by omega, by omega, HI.out, H8.out⟩
              case measure => simp [intOf]; omega
      · have d12 : decide (i < n2) = false ∨ (decide (i < n2) = true ∧ decide ((i : Int) < 120) = false) := by
          by_cases h1 : i < n2
          · exact .inr ⟨by simp [h1], decide_eq_false (by omega)⟩
          · exact .inl (by simpa using h1)
        clear hc
        rcases d12 with d1 | ⟨d1, d2⟩
        all_goals (
          go_wp2_with fail
          go_ret
          exact ⟨rfl, bel_trans hb1 HS.out.below⟩)
  · have hat : U.isBI (ba t) at' = false := by simpa using hat
    have HN := Lib.hid (bt_new_no HT1.out H3.out at' hat)
    have HR := Lib.hid (fun W => HRI.out W at')
    rw [hat] at HR
    have hz : U.isBI (ba t) ((0 : Nat) : Int) = true := U.isBI_true (IsB.zero _)
    obtain ⟨k0, hk0⟩ : ∃ k0 : Nat, k0 = 0 := ⟨_, rfl⟩
    have HI0 := Lib.hid (show IsB (ba t) k0 by rw [hk0]; exact IsB.zero _)
    clear hat HRI
    go_wp2_with fail
    refine HN.out.mono ?_
    rintro e w4 ⟨rfl, h4⟩
    have H4 := Lib.hid h4
    clear h4 HN
    go_wp2_with fail
    refine (HR.out _).mono ?_
    rintro e w5 ⟨rfl, hb5⟩
    have HN := Lib.hid (bt_new HT1.out (H4.out.on hb5) 0 hz)
    clear H4 HR H3 hz
    go_wp2_with fail
    refine HN.out.mono ?_
    rintro e w6 ⟨rfl, h6⟩
    generalize w5.heap.size = c at *
    have H5 := Lib.hid (show Sc w1 t b c k0 0 w6 by rw [hk0]; exact h6)
    clear h6 HN
    go_wp2_with fail
    go_loopw [2, 12, 13] (fun s2 s12 s13 wr => ∃ (k m i : Nat), s2 = .int .i64 (k : Int) ∧ s12 = .int .i64 (m : Int) ∧ s13 = .int .i64 (i : Int) ∧ m ≤ i ∧ i ≤ 120 ∧ IsB (ba t) k ∧ Sc w1 t b c k m wr) (fun _ _ s13 _ => 120 - (intOf s13).toNat)
    case atStart => exact ⟨k0, 0, 0, by rw [hk0]; rfl, rfl, rfl, Nat.le_refl _, by omega, HI0.out, H5.out⟩
    case round =>
      obtain ⟨k, m, i, rfl, rfl, rfl, hmi, hi, hI, hS⟩ := hrel
      have HI := Lib.hid hI
      have HS := Lib.hid hS
      have hkl : k ≤ t.length := hI.le
      clear hI hS H5 HI0
      by_cases hc : i < n2 ∧ i < 120
      · obtain ⟨hc1, hc2⟩ := hc
        have d1 : decide (i < n2) = true := by simp [hc1]
        obtain ⟨g, off, rfl, hg, hcl⟩ := (HC2.out.below HS.out.below) (by omega)
        have m1 := hcl i hc1
        have i1 : (i : Int) < (n2 : Int) := by omega
        have hw := wi_in (f2 i) 12 (by omega)
        have HW := Lib.hid (within_any (f2 i) 12 (by omega) (by omega) wr)
        obtain ⟨to, hto⟩ : ∃ to, to = IntKind.i64.wrap (Int.tdiv (f2 i) 12) := ⟨_, rfl⟩
        have hto' := hto.symm
        clear hcl hto
        generalize wi (f2 i) 12 = kk at *
        by_cases h0 : kk = 0
        · have b0 : (kk == 0) = true := by simp [h0]
          clear h0
          by_cases ht : U.isBI (ba t) to = true
          · obtain ⟨k2, hk2⟩ : ∃ k2 : Nat, to = (k2 : Int) := ⟨to.toNat, by unfold U.isBI at ht; simp at ht; omega⟩
            subst hk2
            have HK := Lib.hid (sc_seek HT1.out HS.out k2 ht)
            have HR := Lib.hid (fun W => U.ris_any (ba t) (k2 : Int) W hrv)
            rw [ht] at HR
            have HI2 := Lib.hid ((U.locB_iff (ba t) k2).1 (by rwa [U.isBI_nat] at ht))
            clear ht
            go_wp2_with fail
            refine HW.out.mono ?_
            rintro e w16 ⟨rfl, rfl⟩
            go_wp2_with fail
            refine HK.out.mono ?_
            rintro e w7 ⟨rfl, h7⟩
            go_wp2_with fail
            refine (HR.out _).mono ?_
            rintro e w8 ⟨rfl, hb8⟩
            have H8 := Lib.hid (h7.on hb8)
            clear h7
            go_wp2_with fail
            refine (sc_place H8.out).mono ?_
            rintro e w9 ⟨rfl, rfl⟩
            go_wp2_with fail
            refine (sc_fetched H8.out).mono ?_
            rintro e w9 ⟨rfl, rfl⟩
            go_wp2_with fail
            go_roundw
            case rel => exact ⟨k2, m, i + 1, rfl, rfl, by go_num, by omega, by omega, HI2.out, H8.out⟩
            case measure => simp [intOf]; omega
          · have ht : U.isBI (ba t) to = false := by simpa using ht
            have HK := Lib.hid (sc_seek_no HT1.out HS.out to ht)
            have HR := Lib.hid (fun W => U.ris_any (ba t) to W hrv)
            rw [ht] at HR
            clear ht
            go_wp2_with fail
            refine HW.out.mono ?_
            rintro e w16 ⟨rfl, rfl⟩
            go_wp2_with fail
            refine HK.out.mono ?_
            rintro e w7 ⟨rfl, h7⟩
            go_wp2_with fail
            refine (HR.out _).mono ?_
            rintro e w8 ⟨rfl, hb8⟩
            have H8 := Lib.hid (h7.on hb8)
            clear h7
            go_wp2_with fail
            refine (sc_place H8.out).mono ?_
            rintro e w9 ⟨rfl, rfl⟩
            go_wp2_with fail
            refine (sc_fetched H8.out).mono ?_
            rintro e w9 ⟨rfl, rfl⟩
            go_wp2_with fail
            go_roundw
            case rel => exact ⟨k, m, i + 1, rfl, rfl, by go_num, by omega, by omega, HI.out, H8.out⟩
            case measure => simp [intOf]; omega
        · have b0 : (kk == 0) = false := by simpa using h0
          clear h0
          by_cases h7 : kk < 7
          · have d7 : decide (kk < 7) = true := by simp [h7]
            clear h7
            have HR := Lib.hid (fun W => U.rat_any (ba t) (k : Int) W hml)
            by_cases hk : k < t.length
            · have hp := wd_pos (s := ba t) (i := k) hk
              have hw4 := wd_le (ba t) k
              have HN := Lib.hid (sc_next HT1.out HS.out hk (by omega))
              rw [syI_nat, wdI_nat] at HR
              have HI2 := Lib.hid HI.out.next
              have mn : min ((wd (ba t) k : Nat) : Int) 1 = 1 := by omega
              have d0 : decide ((0 : Int) < ((wd (ba t) k : Nat) : Int)) = true := by simp; omega
              have d00 : decide (0 < wd (ba t) k) = true := by simp; omega
              generalize sy (ba t) k = y at *
              generalize wd (ba t) k = d at *
              go_wp2_with fail
              refine HW.out.mono ?_
              rintro e w16 ⟨rfl, rfl⟩
              go_wp2_with fail
              refine HN.out.mono ?_
              rintro e w7 ⟨rfl, h7⟩
              go_wp2_with fail
              refine (HR.out _).mono ?_
              rintro e w8 ⟨rfl, hb8⟩
              have H8 := Lib.hid (h7.on hb8)
              clear h7
              have HP := sc_place H8.out
              have HF := sc_fetched H8.out
              rw [show ((k + d : Nat) : Int) = (k : Int) + (d : Int) by omega] at HP
              rw [show ((m + 1 : Nat) : Int) = (m : Int) + 1 by omega] at HF
              have HP := Lib.hid HP
              have HF := Lib.hid HF
              go_wp2_with fail
              refine HP.out.mono ?_
              rintro e w9 ⟨rfl, rfl⟩
              go_wp2_with fail
              refine HF.out.mono ?_
              rintro e w9 ⟨rfl, rfl⟩
              go_wp2_with fail
              go_roundw
              case rel => exact ⟨k + d, m + 1, i + 1, by go_num, by go_num, by go_num, by omega, by omega, HI2.out, H8.out⟩
              case measure => simp [intOf]; omega
            · have HN := Lib.hid (sc_next_end HS.out (by omega))
              rw [syI_nat, wdI_nat, wd_out (s := ba t) (i := k) (by rw [ba_size]; omega), sy_out (s := ba t) (i := k) (by rw [ba_size]; omega)] at HR
              go_wp2_with fail
              refine HW.out.mono ?_
              rintro e w16 ⟨rfl, rfl⟩
              go_wp2_with fail
              refine HN.out.mono ?_
              rintro e w7 ⟨rfl, h7⟩
              go_wp2_with fail
              refine (HR.out _).mono ?_
              rintro e w8 ⟨rfl, hb8⟩
              have H8 := Lib.hid (h7.on hb8)
              clear h7
              go_wp2_with fail
              refine (sc_place H8.out).mono ?_
              rintro e w9 ⟨rfl, rfl⟩
              go_wp2_with fail
              refine (sc_fetched H8.out).mono ?_
              rintro e w9 ⟨rfl, rfl⟩
              go_wp2_with fail
              go_roundw
              case rel => exact ⟨k, m, i + 1, by go_num, by go_num, by go_num, by omega, by omega, HI.out, H8.out⟩
              case measure => simp [intOf]; omega
          · have d7 : decide (kk < 7) = false := decide_eq_false h7
            clear h7
            have HR := Lib.hid (fun W => U.rbefore_any (ba t) (k : Int) W hrv)
            by_cases hk : 0 < k
            · have hw := U.pw_wd HI.out hk
              have HN := Lib.hid (sc_prev HT1.out HS.out hk hkl HI.out (by omega))
              rw [(bef_nat HI.out hk).1, (bef_nat HI.out hk).2] at HR
              have HI2 := Lib.hid hw.2.2.2.2
              have hp1 := hw.1
              have hp2 := hw.2.1
              have hp3 := hw.2.2.1
              clear hw
              have mn : min ((U.pw (ba t) k : Nat) : Int) 1 = 1 := by omega
              have d0 : decide ((0 : Int) < ((U.pw (ba t) k : Nat) : Int)) = true := by simp; omega
              have d00 : decide (0 < U.pw (ba t) k) = true := by simp; omega
              have hkd : ((k - U.pw (ba t) k : Nat) : Int) = (k : Int) - (U.pw (ba t) k : Int) := by omega
              generalize sy (ba t) (k - U.pw (ba t) k) = y at *
              generalize hkd2 : k - U.pw (ba t) k = kd at *
              generalize U.pw (ba t) k = d at *
              have HKD := Lib.hid hkd
              clear hkd hkd2
              go_wp2_with fail
              refine HW.out.mono ?_
              rintro e w16 ⟨rfl, rfl⟩
              go_wp2_with fail
              refine HN.out.mono ?_
              rintro e w7 ⟨rfl, h7⟩
              go_wp2_with fail
              refine (HR.out _).mono ?_
              rintro e w8 ⟨rfl, hb8⟩
              have H8 := Lib.hid (h7.on hb8)
              clear h7
              have HP := sc_place H8.out
              have HF := sc_fetched H8.out
              rw [HKD.out] at HP
              rw [show ((m + 1 : Nat) : Int) = (m : Int) + 1 by omega] at HF
              have HP := Lib.hid HP
              have HF := Lib.hid HF
              go_wp2_with fail
              refine HP.out.mono ?_
              rintro e w9 ⟨rfl, rfl⟩
              go_wp2_with fail
              refine HF.out.mono ?_
              rintro e w9 ⟨rfl, rfl⟩
              go_wp2_with fail
              go_roundw
              case rel => exact ⟨kd, m + 1, i + 1, by rw [HKD.out], by go_num, by go_num, by omega, by omega, HI2.out, H8.out⟩
              case measure => simp [intOf]; omega
            · have hk0 : k = 0 := by omega
              have HN := Lib.hid (sc_prev_end HS.out hk0)
              rw [(bef_zero (s := ba t) hk0).1, (bef_zero (s := ba t) hk0).2] at HR
              clear hk hk0
              go_wp2_with fail
              refine HW.out.mono ?_
              rintro e w16 ⟨rfl, rfl⟩
              go_wp2_with fail
              refine HN.out.mono ?_
              rintro e w7 ⟨rfl, h7⟩
              go_wp2_with fail
              refine (HR.out _).mono ?_
              rintro e w8 ⟨rfl, hb8⟩
              have H8 := Lib.hid (h7.on hb8)
              clear h7
              go_wp2_with fail
              refine (sc_place H8.out).mono ?_
              rintro e w9 ⟨rfl, rfl⟩
              go_wp2_with fail
              refine (sc_fetched H8.out).mono ?_
              rintro e w9 ⟨rfl, rfl⟩
              go_wp2_with fail
              go_roundw
              case rel => exact ⟨k, m, i + 1, by go_num, by go_num, by go_num, by omega, by omega, HI.out, H8.out⟩
              case measure => simp [intOf]; omega
      · have d12 : decide (i < n2) = false ∨ (decide (i < n2) = true ∧ decide ((i : Int) < 120) = false) := by
          by_cases h1 : i < n2
          · exact .inr ⟨by simp [h1], decide_eq_false (by omega)⟩
          · exact .inl (by simpa using h1)
        clear hc
        rcases d12 with d1 | ⟨d1, d2⟩
        all_goals (
          go_wp2_with fail
          go_ret
          exact ⟨rfl, bel_trans hb1 HS.out.below⟩)
end Go.Proofs.YtdpjcbljeklhmaaDoor
