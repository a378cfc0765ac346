/-
  What the page's own text and place answer and leave: Move, Insert, Delete, Cut, Byte; the remainder of a number; a text cut short. For every text that fits its bound, and every argument.
-/
import Derived.Test.YtlobaokeagpefaaW8
namespace Go.Proofs.Ytlobaokeagpefaa
open Go.RowKit ObGap

theorem Tx.putS {w : World} {t mx : Nat} {s : Bs} {p : Nat} (h : Tx w t mx s p) (z : Bs) (hz : z.length ≤ mx) : Tx (w.setCell ⟨t, 1, none⟩ (str z)) t mx z p := by
  refine ⟨?_, hz, h.2.2⟩
  have := heap_set 1 (str z) h.1
  simpa using this
theorem Tx.putP {w : World} {t mx : Nat} {s : Bs} {p : Nat} (h : Tx w t mx s p) (q : Nat) : Tx (w.setCell ⟨t, 2, none⟩ (.int .i64 q)) t mx s q := by
  refine ⟨?_, h.2⟩
  have := heap_set 2 (.int .i64 (q : Int)) h.1
  simpa using this
theorem bs_app (u v : Bs) : (⟨⟨u⟩⟩ : ByteArray) ++ ⟨⟨v⟩⟩ = ⟨⟨u ++ v⟩⟩ := by
  apply ByteArray.ext
  simp
theorem bs_ext (s : Bs) (a b : Nat) : (⟨⟨s⟩⟩ : ByteArray).extract a b = ⟨⟨(s.take b).drop a⟩⟩ := by
  apply ByteArray.ext
  apply Array.ext'
  simp [List.drop_take]
theorem outs {s : Bs} {i : Int} (h : out s i = true) : decide (i < 0) = true ∨ (decide (i < 0) = false ∧ decide ((s.length : Int) < i) = true) := by
  unfold out at h
  cases h1 : decide (i < 0)
  · rw [h1] at h; exact .inr ⟨rfl, by simpa using h⟩
  · exact .inl rfl
theorem ins {s : Bs} {i : Int} (h : out s i = false) : decide (i < 0) = false ∧ decide ((s.length : Int) < i) = false := by
  unfold out at h
  simpa using h

set_option maxHeartbeats 400000 in
theorem rmove_tx {w : World} {t mx : Nat} {s : Bs} {p : Nat} (h : Tx w t mx s p) (i : Int) :
    Calls Try.prog 30 #[ptr t, .int .i64 i] w fun e w' => e = .returned (.int .i64 (movE s i)) ∧ Tx w' t mx s (movP s p i) ∧ Ex t t w w' := by
  obtain ⟨c0, c1, c2, cf⟩ := h.cells
  have f2 := cf 2
  have HT := Lib.hid h
  have hl := h.2.1
  have hm := h.2.2
  clear h cf
  cases ho : out s i
  · rw [movE_in ho, movP_in ho]
    obtain ⟨d1, d2⟩ := ins ho
    have hr := out_false ho
    obtain ⟨a, rfl⟩ : ∃ a : Nat, i = a := ⟨i.toNat, by omega⟩
    have d3 : decide (s.length < a) = false := by simp; omega
    rw [Int.toNat_natCast]
    clear ho hr d2
    go_enter Try.func30, Try.ntmps30
    go_wp2_with fail
    go_ret
    exact ⟨rfl, HT.out.putP a, (Ex.refl _ _ _).setL _ _⟩
  · rw [movE_out ho, movP_out ho]
    rcases outs ho with d1 | ⟨d1, d2⟩
    · clear ho
      go_enter Try.func30, Try.ntmps30
      go_wp2_with fail
      go_ret
      exact ⟨rfl, HT.out, Ex.refl _ _ _⟩
    · clear ho
      go_enter Try.func30, Try.ntmps30
      go_wp2_with fail
      go_ret
      exact ⟨rfl, HT.out, Ex.refl _ _ _⟩
set_option maxHeartbeats 400000 in
theorem rinsert_tx {w : World} {t mx : Nat} {s : Bs} {p : Nat} (h : Tx w t mx s p) (i : Int) (x : Bs) :
    Calls Try.prog 28 #[ptr t, .int .i64 i, str x] w fun e w' => e = .returned (.int .i64 (insE mx s i x)) ∧ Tx w' t mx (insS mx s i x) (insP mx s p i x) ∧ Ex t t w w' := by
  obtain ⟨c0, c1, c2, cf⟩ := h.cells
  have f1 := cf 1
  have f2 := cf 2
  have HT := Lib.hid h
  have hl := h.2.1
  have hm := h.2.2
  clear h cf
  cases ho : out s i
  · obtain ⟨d1, d2⟩ := ins ho
    have hr := out_false ho
    obtain ⟨a, rfl⟩ : ∃ a : Nat, i = a := ⟨i.toNat, by omega⟩
    have d3 : decide (s.length < a) = false := by simp; omega
    have wq : IntKind.i64.wrap ((mx : Int) - (s.length : Int)) = (mx : Int) - s.length := IntWalk.i64_in _ (by omega)
    by_cases hbig : mx < s.length + x.length
    · rw [insE_big ho hbig, insS_big ho hbig, insP_big ho hbig]
      have d4 : decide ((mx : Int) - (s.length : Int) < (x.length : Int)) = true := by simp; omega
      clear ho hr d2 hbig
      go_enter Try.func28, Try.ntmps28
      go_wp2_with fail
      go_quiet (fail)
      go_wp2_with fail
      go_ret
      exact ⟨rfl, HT.out, (Ex.refl _ _ _).drews nq⟩
    · rw [insE_in ho hbig, insS_in ho hbig, insP_in ho hbig]
      have d4 : decide ((mx : Int) - (s.length : Int) < (x.length : Int)) = false := by simp; omega
      rw [Int.toNat_natCast]
      have i1 : (a : Int) ≤ (s.length : Int) := by omega
      have wb : IntKind.i64.wrap ((a : Int) + (x.length : Int)) = ((a + x.length : Nat) : Int) := (IntWalk.i64_in _ (by omega)).trans (by omega)
      obtain ⟨u, hu⟩ : ∃ u, u = s.take a := ⟨_, rfl⟩
      obtain ⟨v, hv⟩ : ∃ v, v = s.drop a := ⟨_, rfl⟩
      have e1 : (⟨⟨s⟩⟩ : ByteArray).extract 0 a = ⟨⟨u⟩⟩ := by rw [bs_ext, hu]; rfl
      have e2 : (⟨⟨s⟩⟩ : ByteArray).extract a s.length = ⟨⟨v⟩⟩ := by rw [bs_ext, hv, List.take_length]
      have lu : u.length = a := by rw [hu]; simp; omega
      have lv : v.length = s.length - a := by rw [hv]; simp
      have s1 : ¬ 9223372036854775807 < u.length + x.length := by omega
      have s2 : ¬ 9223372036854775807 < u.length + x.length + v.length := by omega
      have HL := Lib.hid (show (u ++ (x ++ v)).length ≤ mx by simp; omega)
      rw [← hu, ← hv]
      clear ho hr d2 hbig lu lv hu hv
      go_enter Try.func28, Try.ntmps28
      go_wp2_with fail
      go_quiet (fail)
      go_wp2_with fail
      go_region
      rw [bs_app, bs_app, List.append_assoc]
      have HT2 := Lib.hid (Tx.putS (w := w.drewN (nq + 1)) (t := t) HT.out (u ++ (x ++ v)) HL.out)
      have HX2 := Lib.hid (((Ex.refl t t w).drews (nq + 1)).setL 1 (str (u ++ (x ++ v))))
      obtain ⟨W, hW⟩ : ∃ W, W = (w.drewN (nq + 1)).setCell ⟨t, 1, none⟩ (str (u ++ (x ++ v))) := ⟨_, rfl⟩
      rw [← hW] at HT2 HX2 ⊢
      obtain ⟨k0, k1, k2, kf⟩ := HT2.out.cells
      have kf := kf 2
      clear hW c0 c1 c2 f1 f2
      go_wp2_with fail
      go_ret
      exact ⟨rfl, HT2.out.putP _, HX2.out.setL _ _⟩
  · rw [insE_out ho, insS_out ho, insP_out ho]
    rcases outs ho with d1 | ⟨d1, d2⟩
    · clear ho
      go_enter Try.func28, Try.ntmps28
      go_wp2_with fail
      go_ret
      exact ⟨rfl, HT.out, Ex.refl _ _ _⟩
    · clear ho
      go_enter Try.func28, Try.ntmps28
      go_wp2_with fail
      go_ret
      exact ⟨rfl, HT.out, Ex.refl _ _ _⟩
theorem dels {s : Bs} {i n : Int} (h : delB s i n = true) (ho : out s i = false) : decide (n < 0) = true ∨ (decide (n < 0) = false ∧ decide ((s.length : Int) - i < n) = true) := by
  unfold delB at h
  rw [ho] at h
  cases h1 : decide (n < 0)
  · rw [h1] at h; exact .inr ⟨rfl, by simpa using h⟩
  · exact .inl rfl
set_option maxHeartbeats 400000 in
theorem rdelete_tx {w : World} {t mx : Nat} {s : Bs} {p : Nat} (h : Tx w t mx s p) (i n : Int) :
    Calls Try.prog 29 #[ptr t, .int .i64 i, .int .i64 n] w fun e w' => e = .returned (.int .i64 (delE s i n)) ∧ Tx w' t mx (delS s i n) (delP s p i n) ∧ Ex t t w w' := by
  obtain ⟨c0, c1, c2, cf⟩ := h.cells
  have f1 := cf 1
  have f2 := cf 2
  have HT := Lib.hid h
  have hl := h.2.1
  have hm := h.2.2
  clear h cf
  cases ho : out s i
  · obtain ⟨d1, d2⟩ := ins ho
    have hr := out_false ho
    obtain ⟨a, rfl⟩ : ∃ a : Nat, i = a := ⟨i.toNat, by omega⟩
    have d3 : decide (s.length < a) = false := by simp; omega
    have wq : IntKind.i64.wrap ((s.length : Int) - (a : Int)) = (s.length : Int) - a := IntWalk.i64_in _ (by omega)
    cases hd : delB s a n
    · rw [delE_f hd, delS_f hd, delP_f hd]
      have hn : 0 ≤ n ∧ n ≤ (s.length : Int) - a := by unfold delB at hd; rw [ho] at hd; simp at hd; omega
      obtain ⟨k, rfl⟩ : ∃ k : Nat, n = k := ⟨n.toNat, by omega⟩
      have d4 : decide ((k : Int) < 0) = false := by simp
      have d5 : decide ((s.length : Int) - a < (k : Int)) = false := by simp; omega
      rw [Int.toNat_natCast, Int.toNat_natCast]
      have i1 : (a : Int) ≤ (s.length : Int) := by omega
      have i2 : ((a + k : Nat) : Int) ≤ (s.length : Int) := by omega
      have wb : IntKind.i64.wrap ((a : Int) + (k : Int)) = ((a + k : Nat) : Int) := (IntWalk.i64_in _ (by omega)).trans (by omega)
      obtain ⟨u, hu⟩ : ∃ u, u = s.take a := ⟨_, rfl⟩
      obtain ⟨v, hv⟩ : ∃ v, v = s.drop (a + k) := ⟨_, rfl⟩
      have e1 : (⟨⟨s⟩⟩ : ByteArray).extract 0 a = ⟨⟨u⟩⟩ := by rw [bs_ext, hu]; rfl
      have e2 : (⟨⟨s⟩⟩ : ByteArray).extract (a + k) s.length = ⟨⟨v⟩⟩ := by rw [bs_ext, hv, List.take_length]
      have lu : u.length = a := by rw [hu]; simp; omega
      have lv : v.length = s.length - (a + k) := by rw [hv]; simp
      have s1 : ¬ 9223372036854775807 < u.length + v.length := by omega
      have HL := Lib.hid (show (u ++ v).length ≤ mx by simp; omega)
      rw [← hu, ← hv]
      clear ho hr d2 lu lv hu hv hn hd
      generalize a + k = q at *
      go_enter Try.func29, Try.ntmps29
      go_wp2_with fail
      go_region
      rw [bs_app]
      have HT2 := Lib.hid (show Tx (w.setCell ⟨t, 1, none⟩ (str (u ++ v))).drew t mx (u ++ v) p from HT.out.putS (u ++ v) HL.out)
      have HX2 := Lib.hid ((Ex.refl t t w).setL 1 (str (u ++ v))).drew
      obtain ⟨W, hW⟩ : ∃ W, W = (w.setCell ⟨t, 1, none⟩ (str (u ++ v))).drew := ⟨_, rfl⟩
      rw [← hW] at HT2 HX2 ⊢
      obtain ⟨k0, k1, k2, kf⟩ := HT2.out.cells
      have kf := kf 2
      clear hW c0 c1 c2 f1 f2
      go_wp2_with fail
      go_ret
      exact ⟨rfl, HT2.out.putP _, HX2.out.setL _ _⟩
    · rw [delE_t hd, delS_t hd, delP_t hd]
      rcases dels hd ho with d4 | ⟨d4, d5⟩
      · clear ho hr d2 hd
        go_enter Try.func29, Try.ntmps29
        go_wp2_with fail
        go_ret
        exact ⟨rfl, HT.out, Ex.refl _ _ _⟩
      · clear ho hr d2 hd
        go_enter Try.func29, Try.ntmps29
        go_wp2_with fail
        go_ret
        exact ⟨rfl, HT.out, Ex.refl _ _ _⟩
  · have hd := delB_out (n := n) ho
    rw [delE_t hd, delS_t hd, delP_t hd]
    rcases outs ho with d1 | ⟨d1, d2⟩
    · clear ho hd
      go_enter Try.func29, Try.ntmps29
      go_wp2_with fail
      go_ret
      exact ⟨rfl, HT.out, Ex.refl _ _ _⟩
    · clear ho hd
      go_enter Try.func29, Try.ntmps29
      go_wp2_with fail
      go_ret
      exact ⟨rfl, HT.out, Ex.refl _ _ _⟩
set_option maxHeartbeats 400000 in
theorem rbyte_any (s : Bs) (i : Int) (w : World) : Calls Try.prog 17 #[str s, .int .i64 i] w fun e w' => e = .returned (.int .i64 (byt s i)) ∧ w = w' := by
  obtain ⟨v, hv⟩ : ∃ v, v = byt s i := ⟨_, rfl⟩
  rw [← hv]
  have HV := Lib.hid hv
  clear hv
  by_cases h0 : i < 0
  · have d0 : decide (i < 0) = true := by simp [h0]
    go_enter Try.func17, Try.ntmps17
    go_wp2_with fail
    go_ret
    exact ⟨ret_int (by rw [HV.out]; simp [byt, h0]), rfl⟩
  · have d0 : decide (i < 0) = false := by simpa using h0
    obtain ⟨j, rfl⟩ : ∃ j : Nat, i = j := ⟨i.toNat, by omega⟩
    clear h0
    by_cases h1 : s.length ≤ j
    · have d1 : decide (s.length ≤ j) = true := by simp [h1]
      go_enter Try.func17, Try.ntmps17
      go_wp2_with fail
      go_ret
      exact ⟨ret_int (by
        rw [HV.out]
        unfold byt
        rw [if_neg (by omega), Int.toNat_natCast, List.getElem?_eq_none h1]), rfl⟩
    · have d1 : decide (s.length ≤ j) = false := by simpa using h1
      have hlt : j < s.length := by omega
      have i1 : (j : Int) < (s.length : Int) := by omega
      have HE := Lib.hid (show v = (s[j].toNat : Int) by
        rw [HV.out]
        unfold byt
        rw [if_neg (by omega), Int.toNat_natCast, List.getElem?_eq_getElem hlt])
      generalize hx : s[j] = x at HE
      clear h1
      go_enter Try.func17, Try.ntmps17
      go_wp2_with fail
      go_ret
      exact ⟨ret_int (by rw [HE.out, ← hx]; exact IntWalk.wrap64_in (s[j].toNat : Int) (by have := s[j].toNat_lt; omega)), rfl⟩
/-- The remainder, from 0 on. -/
def wi (i : Int) (n : Nat) : Int := if Int.tmod i n < 0 then Int.tmod i n + n else Int.tmod i n
theorem wi_in (i : Int) (n : Nat) (h : 0 < n) : 0 ≤ wi i n ∧ wi i n < n := by
  have h1 := Int.tmod_lt_of_pos i (show (0 : Int) < n by omega)
  have h2 := Int.lt_tmod_of_pos i (show (0 : Int) < n by omega)
  unfold wi
  split <;> omega
set_option maxHeartbeats 400000 in
theorem within_any (i : Int) (n : Nat) (h : 0 < n) (hm : n ≤ 1000000) (w : World) : Calls Try.prog 18 #[.int .i64 i, .int .i64 (n : Int)] w fun e w' => e = .returned (.int .i64 (wi i n)) ∧ w = w' := by
  have h1 := Int.tmod_lt_of_pos i (show (0 : Int) < n by omega)
  have h2 := Int.lt_tmod_of_pos i (show (0 : Int) < n by omega)
  have hz : ((n : Int) == 0) = false := by simp; omega
  have hz2 : ¬ (n : Int) = 0 := by omega
  have hz3 : ¬ n = 0 := by omega
  have w0 : IntKind.i64.wrap (Int.tmod i n) = Int.tmod i n := IntWalk.i64_in _ (by omega)
  have w1 : IntKind.i64.wrap (Int.tmod i n + n) = Int.tmod i n + n := IntWalk.i64_in _ (by omega)
  obtain ⟨v, hv⟩ : ∃ v, v = wi i n := ⟨_, rfl⟩
  rw [← hv]
  unfold wi at hv
  by_cases hneg : Int.tmod i n < 0
  · have d : decide (Int.tmod i n < 0) = true := by simp [hneg]
    rw [if_pos hneg] at hv
    have HV := Lib.hid hv
    clear hneg hv h1 h2
    go_enter Try.func18, Try.ntmps18
    go_wp2_with fail
    go_ret
    exact ⟨ret_int HV.out.symm, rfl⟩
  · have d : decide (Int.tmod i n < 0) = false := by simpa using hneg
    rw [if_neg hneg] at hv
    have HV := Lib.hid hv
    clear hneg hv h1 h2
    go_enter Try.func18, Try.ntmps18
    go_wp2_with fail
    go_ret
    exact ⟨ret_int HV.out.symm, rfl⟩
set_option maxHeartbeats 400000 in
theorem lcut_any (s : Bs) (n : Nat) (w : World) : Calls Try.prog 27 #[str s, .int .i64 (n : Int)] w fun e w' => e = .returned (str (s.take n)) ∧ w = w' := by
  by_cases h : n < s.length
  · have d : decide (n < s.length) = true := by simp [h]
    have e1 : (⟨⟨s⟩⟩ : ByteArray).extract 0 n = ⟨⟨s.take n⟩⟩ := by rw [bs_ext]; rfl
    have i1 : (n : Int) ≤ (s.length : Int) := by omega
    generalize s.take n = u at *
    clear h
    go_enter Try.func27, Try.ntmps27
    go_wp2_with fail
    go_ret
    exact ⟨rfl, rfl⟩
  · have d : decide (n < s.length) = false := by simpa using h
    rw [List.take_of_length_le (by omega)]
    clear h
    go_enter Try.func27, Try.ntmps27
    go_wp2_with fail
    go_ret
    exact ⟨rfl, rfl⟩
theorem text_chk {w : World} {c g mx : Nat} {s : Bs} {p : Nat} (h : Chk w c g mx s p) : Calls Try.prog 45 #[ptr c] w fun e w' => e = .returned (str s) ∧ Below w.heap.size w w' := by
  obtain ⟨L, K, r, hk, _, rfl⟩ := h
  exact text_ck hk
theorem byte_chk {w : World} {c g mx : Nat} {s : Bs} {p : Nat} (h : Chk w c g mx s p) (i : Int) : Calls Try.prog 33 #[ptr c, .int .i64 i] w fun e w' => e = .returned (.int .i64 (byt s i)) ∧ Below w.heap.size w w' := by
  obtain ⟨L, K, r, hk, _, rfl⟩ := h
  exact byte_ck hk i
end Go.Proofs.Ytlobaokeagpefaa
