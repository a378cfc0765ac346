/-
  What the page's own Words and Tokens answer: a text's words, or its first fault. Conditions: the text has at most 100000 bytes.
-/
import Derived.Test.YtceeimolfalmpaaGreatDoorRE
import Derived.Test.YtceeimolfalmpaaGreatDoorL17
namespace Go.Proofs.YtceeimolfalmpaaGreatDoor
open Go.RowKit ObUtf ObSets ObLex

theorem braces_fit {s : ByteArray} {i : Nat} {k a b : Int} {j : Nat} (h : braces s i = .ok (k, a, b, j)) : j ≤ s.size := by
  revert h
  unfold braces
  dsimp only
  intro h
  have fin : ∀ {x : Int × Int × Int × Nat}, x.2.2.2 ≤ s.size → (Except.ok x : Res _) = .ok (k, a, b, j) → j ≤ s.size := fun hx e => by injection e with e; subst e; exact hx
  by_cases h1 : bt s (i + 1) = 126
  · rw [if_pos h1] at h
    by_cases h2 : dg s (i + 2) = 0 ∨ bt s (i + 2 + dg s (i + 2)) ≠ 125
    · rw [if_pos h2] at h; cases h
    · rw [if_neg h2] at h
      have hl : i + 2 + dg s (i + 2) < s.size := bt_in (by omega)
      by_cases h3 : 255 < num s (i + 2)
      · rw [if_pos h3] at h; cases h
      · rw [if_neg h3] at h; exact fin (by dsimp only; omega) h
  · rw [if_neg h1] at h
    by_cases h2 : dg s (i + 1) = 0
    · rw [if_pos h2] at h; cases h
    · rw [if_neg h2] at h
      by_cases h3 : bt s (i + 1 + dg s (i + 1)) = 44
      · rw [if_pos h3] at h
        by_cases h4 : bt s (i + 1 + dg s (i + 1) + 1 + dg s (i + 1 + dg s (i + 1) + 1)) ≠ 125
        · rw [if_pos h4] at h; cases h
        · rw [if_neg h4] at h
          have hl : i + 1 + dg s (i + 1) + 1 + dg s (i + 1 + dg s (i + 1) + 1) < s.size := bt_in (by omega)
          by_cases h5 : 255 < num s (i + 1)
          · rw [if_pos h5] at h; cases h
          · rw [if_neg h5] at h
            by_cases h6 : dg s (i + 1 + dg s (i + 1) + 1) = 0
            · rw [if_pos h6] at h; exact fin (by dsimp only; omega) h
            · rw [if_neg h6] at h
              by_cases h7 : 255 < num s (i + 1 + dg s (i + 1) + 1) ∨ num s (i + 1 + dg s (i + 1) + 1) < num s (i + 1)
              · rw [if_pos h7] at h; cases h
              · rw [if_neg h7] at h; exact fin (by dsimp only; omega) h
      · rw [if_neg h3] at h
        by_cases h4 : bt s (i + 1 + dg s (i + 1)) = 125
        · rw [if_pos h4] at h
          have hl : i + 1 + dg s (i + 1) < s.size := bt_in (by omega)
          by_cases h5 : 255 < num s (i + 1)
          · rw [if_pos h5] at h; cases h
          · rw [if_neg h5] at h; exact fin (by dsimp only; omega) h
        · rw [if_neg h4] at h; cases h
theorem cls_fit {s : ByteArray} {i : Nat} {l : List R} {j : Nat} (h : cls s i = .ok (l, j)) : j ≤ s.size := by
  revert h
  unfold cls
  cases hc : cend s (i + 1) with
  | none => intro h; cases h
  | some to =>
    have := cend_some hc
    dsimp only
    generalize (if bt s (i + 1) = 94 then i + 2 else i + 1) = f
    intro h
    by_cases ht : to = f
    · rw [if_pos ht] at h; cases h
    · rw [if_neg ht] at h
      cases hr : items s to f with
      | error e => rw [hr] at h; cases h
      | ok m => rw [hr] at h; injection h with h; injection h with _ h; omega
theorem word_fit {s : ByteArray} {i : Nat} {t : T} {j : Nat} (hi : i < s.size) (h : word s i = .ok (t, j)) : j ≤ s.size := by
  have hw : i + wd s i ≤ s.size := wd_fit (by omega)
  have hw1 : i + 1 + wd s (i + 1) ≤ s.size := wd_fit (by omega)
  have fin : ∀ {x : T × Nat}, x.2 ≤ s.size → (Except.ok x : Res _) = .ok (t, j) → j ≤ s.size := fun hx e => by injection e with e; subst e; exact hx
  revert h
  unfold word
  dsimp only
  intro h
  by_cases h1 : bt s i = 92
  · rw [if_pos h1] at h
    cases he : esc s i with
    | bad e => rw [he] at h; cases h
    | one x n => rw [he] at h; have := esc_one_wd he; exact fin (by dsimp only; omega) h
    | many l => rw [he] at h; have := esc_many_wd he; exact fin (by dsimp only; omega) h
  · rw [if_neg h1] at h
    by_cases h2 : bt s i = 91
    · rw [if_pos h2] at h
      cases hc : cls s i with
      | error f => rw [hc] at h; cases h
      | ok y => obtain ⟨l, q⟩ := y; rw [hc] at h; exact fin (cls_fit hc) h
    · rw [if_neg h2] at h
      by_cases h3 : bt s i = 123
      · rw [if_pos h3] at h
        cases hb : braces s i with
        | error f => rw [hb] at h; cases h
        | ok y => obtain ⟨k, a, b, q⟩ := y; rw [hb] at h; exact fin (braces_fit hb) h
      · rw [if_neg h3] at h
        by_cases h4 : bt s i = 93 ∨ bt s i = 125
        · rw [if_pos h4] at h; cases h
        · rw [if_neg h4] at h
          by_cases h5 : bt s i = 46
          · rw [if_pos h5] at h; exact fin (by dsimp only; omega) h
          · rw [if_neg h5] at h
            by_cases h6 : bt s i = 40
            · rw [if_pos h6] at h
              by_cases h7 : bt s (i + 1) = 63 ∧ bt s (i + 2) = 58
              · rw [if_pos h7] at h
                have : i + 2 < s.size := bt_in (by omega)
                exact fin (by dsimp only; omega) h
              · rw [if_neg h7] at h; exact fin (by dsimp only; omega) h
            · rw [if_neg h6] at h
              revert h
              repeat' split
              all_goals exact fin (by dsimp only; omega)
theorem Tk.drew1 {w : World} {B : Nat} {v : Value} {l : List T} (h : Tk w B v l) : Tk w.drew B v l := h.below (Below.refl _ _).drew
theorem Tk.new1 {w : World} {B : Nat} {v : Value} {l : List T} (h : Tk w B v l) (o : Obj) : Tk (w.alloc o) B v l := h.below ((Below.refl _ w).alloc (Nat.le_refl _) o)
theorem Tk.set1 {w : World} {B r : Nat} {v : Value} {l : List T} (h : Tk w B v l) (hr : r < B) (k : Nat) (u : Value) : Tk (w.setCell ⟨r, k, none⟩ u) B v l := h.ex (Ex.one r w k u) hr
/-- What Words hands back. -/
def RetV (r : Res (List T)) (w : World) (e : Ending) (w' : World) : Prop :=
  match r with
  | .error (er, a) => (∃ A n k, e = .returned (.tuple #[.slice A n k, fv er (a : Int)])) ∧ Below w.heap.size w w' ∧ (er = 4 ∨ er = 5 ∨ er = 7)
  | .ok l => ∃ A k, e = .returned (.tuple #[.slice A l.length k, fv 0 0]) ∧ Tk w' w.heap.size (.slice A l.length k) l ∧ Below w.heap.size w w'
set_option maxHeartbeats 2000000 in
set_option maxRecDepth 100000 in
theorem rwords_any (s : ByteArray) (w : World) (hs : s.size ≤ 100000) : Calls Tryz.prog 20 #[.string s] w (RetV (toks s 0) w) := by
  obtain ⟨i0, hi0, hz0, hz1, hz2⟩ := info_parts info38
  have HF0 := Lib.hid (heap_new w fo)
  have HB0 := Lib.hid ((Below.refl w.heap.size w).alloc (Nat.le_refl _) fo)
  have HZ0 := Lib.hid (show w.heap.size + 1 ≤ (w.alloc fo).heap.size by simp)
  obtain ⟨r, hr⟩ : ∃ r, r = toks s 0 := ⟨_, rfl⟩
  rw [← hr]
  have HRES := Lib.hid hr
  clear hr
  go_enter Tryz.func20, Tryz.ntmps20
  go_wp2_with fail
  go_loopw [4, 5] (fun v t wr => ∃ (i : Nat) (l : List T), t = .int .i64 (i : Int) ∧ Hid (Tk wr (w.heap.size + 1) v l) ∧ Hid (r = pre l (toks s i)) ∧ Hid (wr.heap[w.heap.size]? = some fo) ∧ Hid (Below w.heap.size w wr) ∧ Hid (l.length ≤ i) ∧ i ≤ s.size + 100000 ∧ Hid (w.heap.size + 1 ≤ wr.heap.size)) (fun _ t _ => s.size + 200001 - (intOf t).toNat)
  case atStart => exact ⟨0, [], rfl, Tk.nil _ _, by rw [pre_nil]; exact HRES.out, HF0.out, HB0.out, Nat.zero_le _, by omega, HZ0.out⟩
  case round =>
    obtain ⟨i, l, rfl, HK, HI, HF, HB, HL, hib, HZ⟩ := hrel
    by_cases hi : i < s.size
    · have d1 : decide (i < s.size) = true := decide_eq_true hi
      have HWY := Lib.hid (rword_any (s := s) (i := i) wr hs hi)
      cases hw : word s i with
      | error y =>
        obtain ⟨er, a⟩ := y
        rw [hw] at HWY
        have hrr : r = .error (er, a) := by rw [HI.out, toks_bad hi hw]; rfl
        subst hrr
        obtain ⟨Av, kv, hv⟩ := HK.out.shape
        subst hv
        clear HI hw HRES
        generalize l.length = nl at *
        go_wp2_with fail
        refine HWY.out.mono ?_
        rintro e w2 ⟨⟨k, b, A, m, q, x, y, N, rfl⟩, hb2, hee⟩
        have en : (er != 0) = true := by simp; omega
        have hF2 := keepL HF.out hb2
        have s1 : w.heap.size < w2.heap.size := lt_of_heap hF2
        obtain ⟨q0, q1, q2, q3⟩ := blk2 hF2
        have hbw : Below w.heap.size w w2 := HB.out.trans (hb2.mono (by have := HZ.out; omega))
        go_wp2_with fail
        go_region
        all_goals (
          go_wp2_with fail
          refine bodyPost_ret (v := .tuple #[.slice Av nl kv, fv er (a : Int)]) ?_ rfl ⟨⟨_, _, _, rfl⟩, ?_, hee⟩
          · rw [results_tc rfl]; go_simp
          · repeat' (first | with_reducible exact hbw | with_reducible refine Below.drew ?_ | with_reducible refine Below.alloc ?_ ?_ _ | with_reducible refine Below.setCell ?_ ?_ _ | (simp; done) | (simp; omega)))
      | ok y =>
        obtain ⟨t, j⟩ := y
        rw [hw] at HWY
        have hij := (word_next hi hw).1
        have hat := (word_next hi hw).2
        have HI2 := Lib.hid (show r = pre (l ++ [t]) (toks s j) by rw [HI.out, toks_ok hi hw, pre_pre])
        obtain ⟨kd, at_, l0, mn, mx⟩ := t
        obtain rfl : at_ = (i : Int) := hat
        have hjb : j ≤ s.size + 100000 := by have := word_fit hi hw; omega
        clear HI hw HRES
        obtain ⟨L, hL, hown, hsets⟩ := HK.out
        have hLl := HL.out
        rw [← hL] at hLl
        simp only [List.length_map] at hLl
        have HLE := Lib.hid hL
        have HOWN0 := Lib.hid hown
        have HSETS0 := Lib.hid hsets
        clear hown hsets hL
        go_wp2_with fail
        refine HWY.out.mono ?_
        rintro e w2 ⟨A, k, fa, rfl, ho2, hb2⟩
        dsimp only at ho2
        have hz := HZ.out
        have hb2s := hb2.size
        have hF2 := keepL HF.out hb2
        have s1 : w.heap.size < w2.heap.size := lt_of_heap hF2
        have o1 := ((S.own_below HOWN0.out hb2).alloc (.cells #[.int .i64 kd, .int .i64 (i : Int), .slice A l0.length k, .int .i64 mn, .int .i64 mx] 40)).alloc (.cells #[.int .i64 0, .int .i64 fa] 34)
        have HOWN := Lib.hid (o1.alloc (.cells #[.int .i64 kd, .int .i64 (i : Int), .slice A l0.length k, .int .i64 mn, .int .i64 mx] 40))
        have HSETS := Lib.hid (fun p hp => ((((HSETS0.out p hp).below hb2).new (.cells #[.int .i64 kd, .int .i64 (i : Int), .slice A l0.length k, .int .i64 mn, .int .i64 mx] 40)).new (.cells #[.int .i64 0, .int .i64 fa] 34)).new (.cells #[.int .i64 kd, .int .i64 (i : Int), .slice A l0.length k, .int .i64 mn, .int .i64 mx] 40))
        have HNEW := Lib.hid ((((ho2.less (show w.heap.size + 1 ≤ wr.heap.size by omega)).new (.cells #[.int .i64 kd, .int .i64 (i : Int), .slice A l0.length k, .int .i64 mn, .int .i64 mx] 40)).new (.cells #[.int .i64 0, .int .i64 fa] 34)).new (.cells #[.int .i64 kd, .int .i64 (i : Int), .slice A l0.length k, .int .i64 mn, .int .i64 mx] 40))
        have hcell := five_cells ((w2.alloc (.cells #[.int .i64 kd, .int .i64 (i : Int), .slice A l0.length k, .int .i64 mn, .int .i64 mx] 40)).alloc (.cells #[.int .i64 0, .int .i64 fa] 34)) (.int .i64 kd) (.int .i64 (i : Int)) (.slice A l0.length k) (.int .i64 mn) (.int .i64 mx) 40
        rw [show ((w2.alloc (.cells #[.int .i64 kd, .int .i64 (i : Int), .slice A l0.length k, .int .i64 mn, .int .i64 mx] 40)).alloc (.cells #[.int .i64 0, .int .i64 fa] 34)).heap.size = w2.heap.size + 1 + 1 by simp] at hcell
        have HCELL := Lib.hid hcell
        have HF2 := Lib.hid hF2
        clear o1 hcell hF2 ho2
        generalize hn : l0.length = n at *
        go_wp2_with (at_builtin; refine wpList_append_own _ rfl _ _ 31 rfl (w.heap.size + 1) 40 i0 (.agg #[.int .i64 0, .int .i64 0, .slice none 0 0, .int .i64 0, .int .i64 0]) 5 56 Tryz.underlying31 hi0 hz0 hz1 hz2 rfl (by omega) _ _ _ rfl HOWN.out ⟨w2.heap.size + 1 + 1, 0, none⟩ 1 1 [.int .i64 kd, .int .i64 (i : Int), .slice A n k, .int .i64 mn, .int .i64 mx] rfl rfl HCELL.out (ones5 _ _ _ _ _ _ _) ?c3 ?c4 ?c5 ?_)
        case c3 => unfold maxLen; omega
        case c4 => omega
        case c5 => simp; omega
        intro v' w3 hown' hgrow _
        have htk := Tk.push (t := ⟨kd, (i : Int), l0, mn, mx⟩) HOWN.out HSETS.out HNEW.out hown' hgrow
        rw [HLE.out] at htk
        have hbg := below_grown hgrow (B := w.heap.size + 1) (by simp; omega) (fun k hk => (HOWN.out.lt k hk).1)
        have ba : Below w2.heap.size w2 (((w2.alloc (.cells #[.int .i64 kd, .int .i64 (i : Int), .slice A n k, .int .i64 mn, .int .i64 mx] 40)).alloc (.cells #[.int .i64 0, .int .i64 fa] 34)).alloc (.cells #[.int .i64 kd, .int .i64 (i : Int), .slice A n k, .int .i64 mn, .int .i64 mx] 40)) := (((Below.refl w2.heap.size w2).alloc (Nat.le_refl _) _).alloc (by simp) _).alloc (by simp; omega) _
        have HF3 := Lib.hid (keepN (keepL HF2.out ba) hbg (by omega))
        have hbw2 : Below w.heap.size w w2 := HB.out.trans (hb2.mono (by omega))
        have HB3 := Lib.hid ((hbw2.trans (ba.mono (by omega))).trans (hbg.mono (by omega)))
        have HTK := Lib.hid htk
        have HL3 := Lib.hid (show (l ++ [(⟨kd, (i : Int), l0, mn, mx⟩ : T)]).length ≤ j by have := HL.out; simp; omega)
        have HZ3 := Lib.hid (show w.heap.size + 1 ≤ w3.heap.size from Nat.le_trans (by omega) (Nat.le_trans ba.size hbg.size))
        clear htk hbg ba hbw2 hown' hgrow
        go_wp2_with fail
        go_roundw
        case rel => exact ⟨j, _, congrArg (Value.int .i64) (by omega), HTK.out, HI2.out, HF3.out, HB3.out, HL3.out, hjb, HZ3.out⟩
        case measure => simp [intOf]; omega
    · have d1 : decide (i < s.size) = false := decide_eq_false hi
      have hrr : r = .ok l := by rw [HI.out, toks_end (by omega)]; simp [pre]
      subst hrr
      obtain ⟨A, k, hv⟩ := HK.out.shape
      subst hv
      obtain ⟨q0, q1, q2, q3⟩ := blk2 HF.out
      have s1 : w.heap.size < wr.heap.size := lt_of_heap HF.out
      clear HI HRES
      have HK2 := Lib.hid ((HK.out.ex (Ex.one w.heap.size wr 0 (.int .i64 0)) (by omega)).ex (Ex.one w.heap.size (wr.setCell ⟨w.heap.size, 0, none⟩ (.int .i64 0)) 1 (.int .i64 0)) (by omega))
      generalize hn : l.length = n at *
      go_wp2_with fail
      refine bodyPost_ret (v := .tuple #[.slice A n k, fv 0 0]) ?_ rfl ⟨A, k, by rw [hn], ?_, ?_⟩
      · rw [results_tc rfl]; go_simp
      · rw [hn]; exact HK2.out.less (by omega)
      · exact (HB.out.setCell (p := ⟨w.heap.size, 0, none⟩) (Nat.le_refl _) _).setCell (p := ⟨w.heap.size, 1, none⟩) (Nat.le_refl _) _
set_option maxHeartbeats 1000000 in
set_option maxRecDepth 100000 in
theorem rtokens_any (s : ByteArray) (w : World) (hs : s.size ≤ 100000) : Calls Tryz.prog 31 #[.string s] w (RetT (toks s 0) w) := by
  have HF0 := Lib.hid (heap_new w fo)
  have HB0 := Lib.hid ((Below.refl w.heap.size w).alloc (Nat.le_refl _) fo)
  have HW := Lib.hid (rwords_any s (w.alloc fo) hs)
  have HZ0 := Lib.hid (show (w.alloc fo).heap.size = w.heap.size + 1 by simp)
  generalize toks s 0 = r at *
  rcases r with ⟨er, a⟩ | l
  · go_enter Tryz.func31, Tryz.ntmps31
    go_wp2_with fail
    refine HW.out.mono ?_
    rintro e w1 ⟨⟨A, n, k, rfl⟩, hb1, hee⟩
    have en : (er != 0) = true := by simp; omega
    have hF1 := keepL HF0.out hb1
    have s1 : w.heap.size < w1.heap.size := lt_of_heap hF1
    obtain ⟨q0, q1, q2, q3⟩ := blk2 hF1
    have hbw := bel_trans HB0.out hb1
    go_wp2_with fail
    go_region
    all_goals (
      go_wp2_with fail
      refine bodyPost_ret (v := .tuple #[nls, fv er (a : Int)]) ?_ rfl ⟨rfl, ?_, hee⟩
      · rw [results_tc rfl]; go_simp
      · repeat' (first | with_reducible exact hbw | with_reducible refine Below.drew ?_ | with_reducible refine Below.alloc ?_ ?_ _ | with_reducible refine Below.setCell ?_ ?_ _ | (simp; done) | (simp; omega)))
  · go_enter Tryz.func31, Tryz.ntmps31
    go_wp2_with fail
    refine HW.out.mono ?_
    rintro e w1 ⟨A, k, rfl, htk, hb1⟩
    have hF1 := keepL HF0.out hb1
    have s1 : w.heap.size < w1.heap.size := lt_of_heap hF1
    obtain ⟨q0, q1, q2, q3⟩ := blk2 hF1
    have hbw := bel_trans HB0.out hb1
    rw [HZ0.out] at htk
    have HTK := Lib.hid htk
    clear htk
    generalize hn : l.length = n at *
    go_wp2_with fail
    go_region
    all_goals (
      go_wp2_with fail
      refine bodyPost_ret (v := .tuple #[.slice A n k, fv 0 0]) ?_ rfl ⟨A, k, by rw [hn], ?_, ?_⟩
      · rw [results_tc rfl]; go_simp
      · rw [hn]
        refine Tk.less ?_ (show w.heap.size ≤ w.heap.size + 1 by omega)
        repeat' (first | with_reducible exact HTK.out | with_reducible refine Tk.drew1 ?_ | with_reducible refine Tk.new1 ?_ _ | refine Tk.set1 ?_ (by omega) _ _)
      · repeat' (first | with_reducible exact hbw | with_reducible refine Below.drew ?_ | with_reducible refine Below.alloc ?_ ?_ _ | with_reducible refine Below.setCell ?_ ?_ _ | (simp; done) | (simp; omega)))
end Go.Proofs.YtceeimolfalmpaaGreatDoor
