/-
  The statement on the words of two texts put together (LexJoins) answers true for all texts. Condition: the two tables of unicode/utf8 lie as their text lays them.
-/
import Derived.Test.YtekpliookdihlaaDoorV3
import Derived.Test.YtekpliookdihlaaDoorV4
import Derived.Deep.Cut
namespace Go.Proofs.YtekpliookdihlaaDoor
open Go.RowKit ObUtf ObSets ObLex

theorem tok_err2 {s : ByteArray} {er : Int} {a : Nat} (h : toks s 0 = .error (er, a)) (w : World) (hT : U.Tb w) (hs : s.size ≤ 100000) :
    Calls Tryd.prog 13 #[.string s] w fun e w' => e = .returned (.tuple #[nls, fv er (a : Int)]) ∧ Below w.heap.size w w' ∧ (er = 4 ∨ er = 5 ∨ er = 7) := by
  have ht := tokens_any s w hT hs
  rw [h] at ht
  exact ht
theorem bytes2 (s : ByteArray) (i : Nat) (h : i + 2 = s.size) : (s.extract i s.size).toList = [s[i]'(by omega), s[i + 1]'(by omega)] := by
  rw [ByteArray.toList_eq, ByteArray.data_extract, Array.toList_extract]
  simp only [List.extract_eq_take_drop]
  have hl : s.data.toList.length = s.size := Array.length_toList
  have e : ∀ k (hk : k < s.size), s.data.toList[k]'(by rw [hl]; exact hk) = s[k]'hk := fun k hk => by simp [ByteArray.getElem_eq_getElem_data]
  rw [show s.data.toList.drop i = s.data.toList[i]'(by omega) :: s.data.toList[i + 1]'(by omega) :: s.data.toList.drop (i + 2) by
    rw [List.drop_eq_getElem_cons (by omega), List.drop_eq_getElem_cons (by omega)]]
  rw [e i (by omega), e (i + 1) (by omega)]
  rw [show s.size - i = 2 by omega]
  simp
theorem paren {a : ByteArray} (h1 : 1 < a.size) (h40 : bt a (a.size - 2) = 40) (h63 : bt a (a.size - 1) = 63) : ((a.extract (a.size - 2) a.size).toList == [40, 63]) = true := by
  rw [bytes2 a (a.size - 2) (by omega)]
  rw [show a.size - 1 = a.size - 2 + 1 by omega] at h63
  rw [U.bt_eq a _ (by omega)] at h40 h63
  have a0 : a[a.size - 2]'(by omega) = 40 := UInt8.toNat_inj.1 h40
  have a1 : a[a.size - 2 + 1]'(by omega) = 63 := UInt8.toNat_inj.1 h63
  rw [a0, a1]
  rfl
/-- The first words so much further, the others as they were. -/
def shTo (n : Nat) (l : List T) (i : Nat) : List T := (l.take i).map (sht n) ++ l.drop i
theorem shTo_all (n : Nat) (l : List T) : shTo n l l.length = l.map (sht n) := by simp [shTo]
theorem shTo_at {n : Nat} {l : List T} {i : Nat} {t : T} (h : l[i]? = some t) : shTo n l i = (l.take i).map (sht n) ++ t :: l.drop (i + 1) ∧ shTo n l (i + 1) = (l.take i).map (sht n) ++ sht n t :: l.drop (i + 1) ∧ ((l.take i).map (sht n)).length = i := by
  have hi : i < l.length := (List.getElem?_eq_some_iff.1 h).1
  have e : l[i] = t := (List.getElem?_eq_some_iff.1 h).2
  refine ⟨?_, ?_, by simp; omega⟩
  · unfold shTo; rw [List.drop_eq_getElem_cons hi, e]
  · unfold shTo; rw [List.take_add_one, h]; simp
set_option maxHeartbeats 4000000 in
set_option maxRecDepth 100000 in
theorem joins_walk (x y : ByteArray) (w : World) (hT : U.Tb w) : Calls Tryd.prog 7 #[.string x, .string y] w fun e w' => e = .returned (.bool true) ∧ Below w.heap.size w w' := by
  have HT := Lib.hid hT; clear hT
  have WK := Lib.hid (fun W (h : U.Tb W) => wakes_any W h)
  have hq := fun (a b : Int) (w : World) => eqf a b w
  have hgt := Tryd.eqGuardType32
  have CA := Lib.hid (U.cut_any x 60 w (by decide))
  have CB := Lib.hid (U.cut_any y 60 w (by decide))
  have za : (U.cutB x (60 : Int).toNat).size ≤ 60 := U.cutB_size x _
  have zb : (U.cutB y (60 : Int).toNat).size ≤ 60 := U.cutB_size y _
  generalize U.cutB x (60 : Int).toNat = a at *
  generalize U.cutB y (60 : Int).toNat = b at *
  go_enter Tryd.func7, Tryd.ntmps7
  go_wp2_with fail
  refine CA.out.mono ?_
  rintro e w1 ⟨rfl, rfl⟩
  go_wp2_with fail
  refine CB.out.mono ?_
  rintro e w1 ⟨rfl, rfl⟩
  clear CA CB
  cases hta : toks a 0 with
  | error f =>
    obtain ⟨er, at'⟩ := f
    have K := Lib.hid (fun W h => tok_err2 hta W h (by omega))
    go_wp2_with fail
    refine (K.out _ HT.out).mono ?_
    rintro e w1 ⟨rfl, hb1, hee⟩
    have en : (er != 0) = true := by simp; omega
    have ba := (Below.refl w1.heap.size w1).alloc (Nat.le_refl _) (.cells #[.int .i64 er, .int .i64 (at' : Int)] 32)
    have T1 := Lib.hid ((HT.out.below hb1).below ba)
    have B1 := Lib.hid (bel_trans hb1 ba)
    obtain ⟨f0, f1, _, _⟩ := blk2 (heap_new w1 (.cells #[.int .i64 er, .int .i64 (at' : Int)] 32))
    clear hb1 ba
    go_wp2_with fail
    refine (WK.out _ T1.out).mono ?_
    rintro e w2 ⟨rfl, hb2⟩
    go_wp2_with fail
    go_ret
    exact ⟨rfl, bel_trans B1.out hb2⟩
  | ok l =>
    have K := Lib.hid (fun W h => tok_ok hta W h (by omega))
    go_wp2_with fail
    refine (K.out _ HT.out).mono ?_
    rintro e w1 ⟨A1, k1, rfl, htk1, hb1⟩
    have ba := (Below.refl w1.heap.size w1).alloc (Nat.le_refl _) (.cells #[.int .i64 0, .int .i64 0] 32)
    have T1 := Lib.hid ((HT.out.below hb1).below ba)
    have B1 := Lib.hid (bel_trans hb1 ba)
    have TK1 := Lib.hid (htk1.below ba)
    have HF1 := Lib.hid (heap_new w1 (.cells #[.int .i64 0, .int .i64 0] 32))
    obtain ⟨hl1, hl2⟩ := toks_few _ 0 l (Nat.le_refl _) hta
    have HL2 := Lib.hid hl2
    clear hb1 ba htk1 hl2 K
    obtain ⟨ln, hln⟩ : ∃ ln, l.length = ln := ⟨_, rfl⟩
    rw [hln] at hl1 TK1 ⊢
    go_upto_region 3 with fail
    obtain ⟨f0, f1, _, _⟩ := blk2 HF1.out
    generalize hc1 : w1.heap.size = c1 at *
    generalize w1.alloc (.cells #[.int .i64 0, .int .i64 0] 32) = W1 at *
    go_cut [64] from 65 (fun v wc => ∃ c : Bool, v = .bool c ∧ Hid (c = false → Fresh b ∧ ObLex.Shut a) ∧ W1 = wc)
    case first =>
      go_wp2_with fail
      all_goals (
        go_meet
        refine ⟨_, rfl, Lib.hid (fun hc => ⟨fun h0 => ?_, fun h0 => ?_, fun h1 h40 h63 => ?_⟩), rfl⟩
        · first
          | (cases hc; done)
          | (have h3 := U.bt_eq b 0 h0; omega)
        · first
          | (cases hc; done)
          | (have h3 := U.bt_eq a (a.size - 1) (by omega); omega)
        · first
          | (cases hc; done)
          | (exfalso; omega)
          | (rw [paren h1 h40 h63] at hc; simp at hc))
    case rest =>
      obtain ⟨c, rfl, hcc, rfl⟩ := hcut
      cases c with
      | true =>
        clear hcc
        go_wp2_with fail
        refine (WK.out _ T1.out).mono ?_
        rintro e w2 ⟨rfl, hb2⟩
        go_wp2_with fail
        go_ret
        exact ⟨rfl, bel_trans B1.out hb2⟩
      | false =>
        obtain ⟨hF, hS⟩ := hcc.out rfl
        clear hcc
        have hcat := toks_cat hF hS hta
        clear hF hS
        cases htb : toks b 0 with
        | error f =>
          obtain ⟨er, at'⟩ := f
          rw [htb] at hcat
          have hpl := toks_err _ 0 er at' (Nat.le_refl _) htb
          have k2 := fun W h => tok_err (show toks (a ++ b) 0 = .error (er, a.size + at') from hcat) W h (by rw [size_cat]; omega)
          rw [plus_int] at k2
          have K2 := Lib.hid (fun W h => tok_err2 htb W h (by omega))
          have K3 := Lib.hid k2
          clear k2 hcat
          go_wp2_with fail
          refine (K2.out _ T1.out).mono ?_
          rintro e w2 ⟨rfl, hb2, hee⟩
          have en : (er != 0) = true := by simp; omega
          have ba := (Below.refl w2.heap.size w2).alloc (Nat.le_refl _) (.cells #[.int .i64 er, .int .i64 (at' : Int)] 32)
          have T2 := Lib.hid ((T1.out.below hb2).below ba)
          have B2 := Lib.hid (bel_trans (bel_trans B1.out hb2) ba)
          have HF2 := Lib.hid (heap_new w2 (.cells #[.int .i64 er, .int .i64 (at' : Int)] 32))
          clear hb2 ba
          go_wp2_with fail
          refine (K3.out _ T2.out).mono ?_
          rintro e w3 ⟨rfl, hb3⟩
          have ba := (Below.refl w3.heap.size w3).alloc (Nat.le_refl _) (.cells #[.int .i64 er, .int .i64 ((at' : Int) + (a.size : Int))] 32)
          have T3 := Lib.hid ((T2.out.below hb3).below ba)
          have B3 := Lib.hid (bel_trans (bel_trans B2.out hb3) ba)
          obtain ⟨g0, g1, _, _⟩ := blk2 (keepL (keepL HF2.out hb3) ba)
          obtain ⟨h0, h1, _, _⟩ := blk2 (heap_new w3 (.cells #[.int .i64 er, .int .i64 ((at' : Int) + (a.size : Int))] 32))
          clear hb3 ba
          go_wp2_with fail
          refine (WK.out _ T3.out).mono ?_
          rintro e w4 ⟨rfl, hb4⟩
          go_wp2_with fail
          go_ret
          exact ⟨rfl, bel_trans B3.out hb4⟩
        | ok m =>
          rw [htb] at hcat
          have hcat' : toks (a ++ b) 0 = .ok (l ++ m.map (sht a.size)) := hcat
          clear hcat
          obtain ⟨hm1, hm2⟩ := toks_few _ 0 m (Nat.le_refl _) htb
          have HMA := Lib.hid (toks_at _ 0 m (Nat.le_refl _) htb)
          obtain ⟨hn1, hn2⟩ := toks_few _ 0 _ (Nat.le_refl _) hcat'
          have k2 := fun W h => tok_ok htb W h (by omega)
          have k3 := fun W h => tok_ok hcat' W h (by rw [size_cat]; omega)
          have HQ := Lib.hid (show l ++ m.map (sht a.size) = l ++ m.map (sht a.size) from rfl)
          obtain ⟨q, hqq⟩ : ∃ q, l ++ m.map (sht a.size) = q := ⟨_, rfl⟩
          rw [hqq] at k3 hn1 hn2
          obtain ⟨nq, hnq⟩ : ∃ nq, q.length = nq := ⟨_, rfl⟩
          obtain ⟨lm, hlm⟩ : ∃ lm, m.length = lm := ⟨_, rfl⟩
          rw [hlm] at k2 hm1
          rw [hnq] at k3 hn1
          rw [size_cat] at hn1 hn2
          have K2 := Lib.hid k2
          have K3 := Lib.hid k3
          have HM2 := Lib.hid hm2
          have HN2 := Lib.hid hn2
          have HQQ := Lib.hid hqq
          have HNQ := Lib.hid hnq
          have HLM := Lib.hid hlm
          have HLN := Lib.hid hln
          clear k2 k3 hm2 hn2 hqq hnq hlm HQ hcat' htb hta
          go_wp2_with fail
          refine (K2.out _ T1.out).mono ?_
          rintro e w2 ⟨A2, k2, rfl, htk2, hb2⟩
          have ba2 := (Below.refl w2.heap.size w2).alloc (Nat.le_refl _) (.cells #[.int .i64 0, .int .i64 0] 32)
          have T2 := Lib.hid ((T1.out.below hb2).below ba2)
          have D2 := Lib.hid (bel_trans hb2 ba2)
          have HF2 := Lib.hid (heap_new w2 (.cells #[.int .i64 0, .int .i64 0] 32))
          have HC := Lib.hid (show ∃ c, (m ≠ [] → A2 = some ⟨c, 0, none⟩) ∧ W1.heap.size ≤ c ∧ c < (w2.alloc (.cells #[.int .i64 0, .int .i64 0] 32)).heap.size by
            have hs := hb2.size
            by_cases hm0 : m = []
            · exact ⟨W1.heap.size, fun h => absurd hm0 h, Nat.le_refl _, by simp; omega⟩
            · obtain ⟨g, cap, hv, hBg, hlt, _⟩ := htk2.block hm0
              injection hv with hv _ _
              exact ⟨g, fun _ => hv, hBg, by simp; omega⟩)
          have TK2 := Lib.hid (htk2.below ba2)
          clear htk2 hb2 ba2
          go_wp2_with fail
          refine (K3.out _ T2.out).mono ?_
          rintro e w3 ⟨A3, k3, rfl, htk3, hb3⟩
          have ba3 := (Below.refl w3.heap.size w3).alloc (Nat.le_refl _) (.cells #[.int .i64 0, .int .i64 0] 32)
          have T3 := Lib.hid ((T2.out.below hb3).below ba3)
          have D3 := Lib.hid (bel_trans (bel_trans D2.out hb3) ba3)
          have HF3 := Lib.hid (heap_new w3 (.cells #[.int .i64 0, .int .i64 0] 32))
          have HF23 := Lib.hid (keepL (keepL HF2.out hb3) ba3)
          have TK23 := Lib.hid ((TK2.out.below hb3).below ba3)
          have TK3 := Lib.hid (htk3.below ba3)
          obtain ⟨c, hc, hcl, hcu⟩ := HC.out
          have hb3s := hb3.size
          clear HC htk3 hb3 ba3 T2 TK2 D2 HF2 K2 K3
          go_upto_region 7 with fail
          generalize hc3 : w3.heap.size = c3 at *
          generalize w3.alloc (.cells #[.int .i64 0, .int .i64 0] 32) = W3 at *
          generalize hs2 : (w2.alloc (.cells #[.int .i64 0, .int .i64 0] 32)).heap.size = s2 at *
          generalize hc2 : w2.heap.size = c2 at *
          obtain ⟨g0, g1, _, _⟩ := blk2 HF23.out
          have HCC := Lib.hid hc
          clear hc
          have hlb : lm ≤ 60 := by omega
          go_wp2_with fail
          go_loopw [11] (fun ti wr => ∃ i : Nat, ti = .int .i64 (i : Int) ∧ i ≤ lm ∧ Hid (Tk wr W1.heap.size (.slice A2 lm k2) (shTo a.size m i)) ∧ Hid (Ex c W3 wr)) (fun ti _ => lm - (intOf ti).toNat)
          case atStart => exact ⟨0, rfl, Nat.zero_le _, Lib.hid (by rw [show shTo a.size m 0 = m by simp [shTo]]; exact TK23.out), Lib.hid (Ex.refl _ _)⟩
          case round =>
            obtain ⟨i, rfl, hi, HK, HX⟩ := hrel
            by_cases hil : i < lm
            · have d1 : decide (i < lm) = true := decide_eq_true hil
              have hil' : (i : Int) < (lm : Int) := by omega
              obtain ⟨t, ht⟩ : ∃ t, m[i]? = some t := ⟨_, List.getElem?_eq_getElem (by rw [HLM.out]; exact hil)⟩
              obtain ⟨e1, e2, e3⟩ := shTo_at (n := a.size) ht
              have hat := HMA.out t (List.mem_of_getElem? ht)
              obtain rfl := HCC.out (fun h => by rw [h] at ht; simp at ht)
              have hk := HK.out
              rw [e1] at hk
              obtain ⟨b', o', eb, hlt, hcell⟩ := hk.reads (by simp)
              injection eb with eb
              injection eb with eb1 eb2 _
              subst eb1 eb2
              obtain ⟨S, q', x0, x1, x2, x3, x4, _⟩ := hcell i t (by rw [List.getElem?_append_right (by omega), e3]; simp)
              obtain ⟨g, cap, hv, _, _, hfz⟩ := hk.block (by simp)
              have hg : c = g := by
                injection hv with hv _ _
                injection hv with hv
                injection hv
              clear hv
              subst hg
              have hf := hfz (i * 5 + 1)
              have HPUT := Lib.hid (hk.put (t.at_ + (a.size : Int)))
              rw [e3] at HPUT
              have E2 := Lib.hid e2
              have HSH := Lib.hid (show sht a.size t = { t with at_ := t.at_ + (a.size : Int) } from rfl)
              simp only [Nat.zero_add] at x1
              generalize t.at_ = at' at *
              clear hk hcell hlt x0 x2 x3 x4 e1 e2 e3 ht hfz
              go_wp2_with fail
              go_roundw
              case rel => exact ⟨i + 1, congrArg (Value.int .i64) (by omega), hil, Lib.hid (by rw [E2.out, HSH.out]; exact HPUT.out), Lib.hid (HX.out.setL _ _)⟩
              case measure => simp [intOf]; omega
            · obtain rfl : i = lm := by omega
              have d1 : decide (i < i) = false := decide_eq_false (by omega)
              have hd := D3.out.trans (HX.out.below D3.out.size hcl)
              have T4 := Lib.hid (T1.out.below hd)
              have B4 := Lib.hid (bel_trans B1.out hd)
              have TL := Lib.hid (TK1.out.below hd)
              have TN := Lib.hid (TK3.out.ex HX.out hcu)
              have tm := HK.out
              rw [show shTo a.size m i = m.map (sht a.size) by rw [← HLM.out]; exact shTo_all _ _] at tm
              have TM := Lib.hid tm
              obtain ⟨h0, h1, _, _⟩ := blk2 (keepB HF3.out HX.out (by omega))
              have ba := (Below.refl wr.heap.size wr).alloc (Nat.le_refl _) (.cells #[] 38)
              have TE := Lib.hid ((Tk.empty (w := wr)).less (show w.heap.size ≤ wr.heap.size from B4.out.size))
              have TL5 := Lib.hid (TL.out.below ba)
              have TM5 := Lib.hid (TM.out.below ba)
              have hB1 := B1.out.size
              have h5 : (wr.alloc (.cells #[] 38)).heap.size = wr.heap.size + 1 := by simp
              clear hd tm HK HX TK1 TK3 TK23 T1 T3 D3 HF3 HF23 ba TL
              go_wp2_with (at_builtin; refine wpList_wanted ?_ ?_)
              intro K hK
              refine wp_append_tk _ _ rfl w.heap.size w.heap.size _ [] l ln rfl TE.out A1 k1 HLN.out rfl TL5.out (by simp; omega) (Nat.le_refl _) wr.heap.size B4.out.size (by omega) (fun k hk => by injection hk with hk; exact Nat.le_of_eq hk) ?_
              intro v6 w6 h6 hv6 hg6
              have ba := (Below.refl wr.heap.size wr).alloc (Nat.le_refl _) (.cells #[] 38)
              have hb6 := ba.trans (below_grown hg6 (by omega) (fun k hk => by injection hk with hk; exact Nat.le_of_eq hk))
              have H6 := Lib.hid h6
              have HV6 := Lib.hid hv6
              have D6 := Lib.hid hb6
              have TM6 := Lib.hid (TM.out.below hb6)
              refine hK _ _ ?_
              clear hK K h6 hv6 hb6 hg6 ba TE TL5 h5
              go_wp2_with (at_builtin; refine wpList_wanted ?_ ?_)
              intro K hK
              refine wp_append_tk _ _ rfl w.heap.size W1.heap.size _ l (m.map (sht a.size)) i rfl H6.out A2 k2 (by rw [List.length_map]; exact HLM.out) rfl TM6.out (by rw [HLN.out]; omega) hB1 wr.heap.size B4.out.size D6.out.size HV6.out ?_
              intro v7 w7 h7 hv7 hg7
              have hb7 := D6.out.trans (below_grown hg7 D6.out.size HV6.out)
              rw [HQQ.out] at h7
              obtain ⟨A7, k7, rfl⟩ := h7.shape
              have he := eqtoks_same A3 A7 k3 k7 q w7 (TN.out.below hb7).reads h7.reads (by rw [HNQ.out]; omega) (fun t ht => by have := HN2.out t ht; omega)
              rw [HNQ.out] at he
              have HE := Lib.hid he
              have B7 := Lib.hid (bel_trans B4.out hb7)
              have T7 := Lib.hid (T4.out.below hb7)
              refine hK _ _ ?_
              clear hK K h7 hv7 hb7 hg7 he
              rw [HNQ.out]
              go_wp2_with fail
              refine HE.out.mono ?_
              rintro e w8 ⟨rfl, hb8⟩
              go_wp2_with fail
              refine (WK.out _ (T7.out.below hb8)).mono ?_
              rintro e w9 ⟨rfl, hb9⟩
              go_wp2_with fail
              go_ret
              exact ⟨rfl, bel_trans B7.out (bel_trans hb8 hb9)⟩
end Go.Proofs.YtekpliookdihlaaDoor
