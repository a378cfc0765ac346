/-
  What Move, Delete and Cut of a chunk answer and leave, for every chunk and every argument, and for none.
-/
import Derived.Test.YtdpjcbljeklhmaaDoorW4
namespace Go.Proofs.YtdpjcbljeklhmaaDoor
open Go.RowKit ObGap

theorem movE_out {s : Bs} {i : Int} (h : out s i = true) : movE s i = 2 := by unfold movE; rw [if_pos h]
theorem movE_in {s : Bs} {i : Int} (h : out s i = false) : movE s i = 0 := by unfold movE; rw [if_neg (by simp [h])]
theorem movP_out {s : Bs} {i : Int} {p : Nat} (h : out s i = true) : movP s p i = p := by unfold movP; rw [if_pos h]
theorem movP_in {s : Bs} {i : Int} {p : Nat} (h : out s i = false) : movP s p i = i.toNat := by unfold movP; rw [if_neg (by simp [h])]
/-- The text of a chunk as it moved. -/
theorem Moved.chk {w w' : World} {c g : Nat} {L : Bs} {K p r a : Nat} (h : Moved w c g L K p r a w') : Chk w' c g L.length (L.take p ++ L.drop r) a := by
  obtain ⟨⟨M, hM, e, ht⟩, _⟩ := h
  exact ⟨M, K, _, hM, e, ht.symm⟩

theorem delB_out {s : Bs} {i n : Int} (h : out s i = true) : delB s i n = true := by unfold delB; simp [h]
theorem delE_t {s : Bs} {i n : Int} (h : delB s i n = true) : delE s i n = 2 := by unfold delE; rw [if_pos h]
theorem delE_f {s : Bs} {i n : Int} (h : delB s i n = false) : delE s i n = 0 := by unfold delE; rw [if_neg (by simp [h])]
theorem delS_t {s : Bs} {i n : Int} (h : delB s i n = true) : delS s i n = s := by unfold delS; rw [if_pos h]
theorem delS_f {s : Bs} {i n : Int} (h : delB s i n = false) : delS s i n = s.take i.toNat ++ s.drop (i.toNat + n.toNat) := by unfold delS; rw [if_neg (by simp [h])]
theorem delP_t {s : Bs} {i n : Int} {p : Nat} (h : delB s i n = true) : delP s p i n = p := by unfold delP; rw [if_pos h]
theorem delP_f {s : Bs} {i n : Int} {p : Nat} (h : delB s i n = false) : delP s p i n = i.toNat := by unfold delP; rw [if_neg (by simp [h])]
theorem len_chk {w : World} {c g mx : Nat} {s : Bs} {p : Nat} (h : Chk w c g mx s p) : Calls Tryd.prog 66 #[ptr c] w fun e w' => e = .returned (.int .i64 (s.length : Int)) ∧ Below w.heap.size w w' := by
  obtain ⟨L, K, r, hk, _, rfl⟩ := h
  exact len_ck hk

set_option maxHeartbeats 400000 in
theorem delete_nil (i n : Int) (w : World) : Calls Tryd.prog 61 #[.pointer none, .int .i64 i, .int .i64 n] w fun e w' => e = .returned (.int .i64 1) ∧ Below w.heap.size w w' := by
  go_enter Tryd.func61, Tryd.ntmps61
  go_wp2_with fail
  refine (refuse_nil i w).mono ?_
  rintro e w1 ⟨rfl, hb1⟩
  go_wp2_with fail
  go_ret
  exact ⟨rfl, hb1⟩
/-- Behind a shift the gap's end goes up. -/
theorem Moved.del {w w' : World} {c g : Nat} {L : Bs} {K p r a k : Nat} (h : Moved w c g L K p r a w') (hk : a + k ≤ (L.take p ++ L.drop r).length) (hp : p ≤ r) (hr : r ≤ L.length) (q : Nat) (hq : q = a + (r - p) + k) :
    Chk (w'.setCell ⟨c, 2, none⟩ (.int .i64 q)) c g L.length ((L.take p ++ L.drop r).take a ++ (L.take p ++ L.drop r).drop (a + k)) a := by
  subst hq
  rw [parts_len hp hr] at hk
  obtain ⟨⟨M, hM, e, ht⟩, _⟩ := h
  refine ⟨M, K, a + (r - p) + k, hM.putR (by omega) (by omega), e, ?_⟩
  rw [← ht, parts_take (by omega) (by omega), parts_drop k (by omega) (by omega)]
set_option maxHeartbeats 1000000 in
theorem delete_chk {w : World} {c g mx : Nat} {s : Bs} {p : Nat} (h : Chk w c g mx s p) (i n : Int) :
    Calls Tryd.prog 61 #[ptr c, .int .i64 i, .int .i64 n] w fun e w' => e = .returned (.int .i64 (delE s i n)) ∧ Chk w' c g mx (delS s i n) (delP s p i n) ∧ Ex c g w w' := by
  have HC := Lib.hid h
  have HL := Lib.hid (fun w' (hb : Below w.heap.size w w') => len_chk (h.on hb))
  have hlen := h.len
  obtain ⟨L, K, r, hk, hmx, hs⟩ := h
  have HF := refuse_ck hk i
  rw [← hs] at HF
  have HS := Lib.hid hs
  have HX := Lib.hid hmx
  have HK := Lib.hid hk
  clear hs hk hmx
  by_cases ho : out s i = true
  · have hd := delB_out (n := n) ho
    rw [movE_out ho] at HF
    rw [delE_t hd, delS_t hd, delP_t hd]
    have HF2 := Lib.hid HF
    clear HF ho hd
    go_enter Tryd.func61, Tryd.ntmps61
    go_wp2_with fail
    refine HF2.out.mono ?_
    rintro e w1 ⟨rfl, hb1⟩
    go_wp2_with fail
    go_ret
    exact ⟨rfl, HC.out.on hb1, Ex.of hb1⟩
  · have ho : out s i = false := by simpa using ho
    rw [movE_in ho] at HF
    have hr := out_false ho
    obtain ⟨a, rfl⟩ : ∃ a : Nat, i = a := ⟨i.toNat, by omega⟩
    have HA := Lib.hid (show a ≤ s.length by omega)
    have HF2 := Lib.hid HF
    have wq : IntKind.i64.wrap ((s.length : Int) - (a : Int)) = (s.length : Int) - a := IntWalk.i64_in _ (by omega)
    clear HF
    by_cases hn : n < 0
    · have hd : delB s a n = true := by unfold delB; simp [hn]
      have d1 : decide (n < 0) = true := by simp [hn]
      rw [delE_t hd, delS_t hd, delP_t hd]
      clear hn ho hd hr
      go_enter Tryd.func61, Tryd.ntmps61
      go_wp2_with fail
      refine HF2.out.mono ?_
      rintro e w1 ⟨rfl, hb1⟩
      go_wp2_with fail
      go_ret
      exact ⟨rfl, HC.out.on hb1, Ex.of hb1⟩
    · have d1 : decide (n < 0) = false := by simpa using hn
      by_cases hn2 : (s.length : Int) - a < n
      · have hd : delB s a n = true := by unfold delB; simp [hn2]
        have d2 : decide ((s.length : Int) - a < n) = true := by simp [hn2]
        rw [delE_t hd, delS_t hd, delP_t hd]
        clear hn ho hd hr hn2
        go_enter Tryd.func61, Tryd.ntmps61
        go_wp2_with fail
        refine HF2.out.mono ?_
        rintro e w1 ⟨rfl, hb1⟩
        have HB := Lib.hid hb1
        clear hb1
        go_wp2_with fail
        refine (HL.out _ HB.out).mono ?_
        rintro e w2 ⟨rfl, hb2⟩
        go_wp2_with fail
        go_ret
        exact ⟨rfl, HC.out.on (bel_trans HB.out hb2), Ex.of (bel_trans HB.out hb2)⟩
      · have d2 : decide ((s.length : Int) - a < n) = false := by simpa using hn2
        have hd : delB s a n = false := by unfold delB; rw [ho, d1, d2]; rfl
        rw [delE_f hd, delS_f hd, delP_f hd]
        obtain ⟨k, rfl⟩ : ∃ k : Nat, n = k := ⟨n.toNat, by omega⟩
        rw [Int.toNat_natCast, Int.toNat_natCast]
        have HK2 := Lib.hid (show a + k ≤ s.length by omega)
        have HPR := Lib.hid (show p ≤ r ∧ r ≤ L.length from ⟨HK.out.2.2.2.1, HK.out.2.2.2.2.1⟩)
        have HLS := Lib.hid (show s.length ≤ mx ∧ mx ≤ 4096 from ⟨hlen.1, hlen.2.1⟩)
        have HRW := Lib.hid (show a + (r - p) + k ≤ 4096 by
          have h1 := HS.out; have h2 := HPR.out; have h3 := HX.out
          have h4 := parts_len h2.1 h2.2
          rw [← h1] at h4
          omega)
        clear hn ho hd hr hn2 hlen
        go_enter Tryd.func61, Tryd.ntmps61
        go_wp2_with fail
        refine HF2.out.mono ?_
        rintro e w1 ⟨rfl, hb1⟩
        have HB := Lib.hid hb1
        clear hb1
        go_wp2_with fail
        refine (HL.out _ HB.out).mono ?_
        rintro e w2 ⟨rfl, hb2⟩
        have HB2 := Lib.hid (bel_trans HB.out hb2)
        clear hb2
        go_wp2_with fail
        refine (shift_ck (HK.out.on HB2.out) a (by rw [← HS.out]; exact HA.out)).mono ?_
        rintro e w3 ⟨rfl, hm3⟩
        have HM3 := Lib.hid hm3
        obtain ⟨⟨M, hM, eM, _⟩, _⟩ := hm3
        obtain ⟨c0, c1, c2, f2⟩ := hM.cells
        have f2 := f2 2
        have wk : IntKind.i64.wrap (((a + (r - p) : Nat) : Int) + (k : Int)) = ((a + (r - p) + k : Nat) : Int) := (IntWalk.i64_in _ (by have := HRW.out; omega)).trans (by omega)
        have HMk := Lib.hid hM
        clear hM eM
        generalize hq : a + (r - p) = q at *
        generalize hqk : q + k = qk at *
        have HQ := Lib.hid hq
        have HQK := Lib.hid hqk
        clear hq hqk
        go_wp2_with fail
        go_ret
        refine ⟨rfl, ?_, ((Ex.of HB2.out).trans HM3.out.2).setL _ _⟩
        rw [← HX.out, HS.out]
        exact HM3.out.del (by rw [← HS.out]; exact HK2.out) HPR.out.1 HPR.out.2 _ (by rw [HQ.out]; exact HQK.out.symm)
end Go.Proofs.YtdpjcbljeklhmaaDoor
