/-
  What the reader's ways of reading a sign (escape, open, mark, repeat, dot, stray, plain) answer and leave. Conditions: the reader's block is as it should be, its place within the text; the two tables of unicode/utf8 lie as their text lays them.
  What the reader's escape and open answer and leave; strings.HasPrefix at the three bytes of a plain group. Conditions: the reader's block is as it should be, its place at a 92 or at a ( ; the two tables of unicode/utf8 lie as their text lays them.
-/
import Derived.Test.YtceeimolfalmpaaDoorLC
import Derived.Test.YtceeimolfalmpaaDoorLD
import Derived.Laws.Strings
import Derived.Test.YtceeimolfalmpaaDoorSC
namespace Go.Proofs.YtceeimolfalmpaaDoor
open Go.RowKit ObUtf ObSets ObLex
section
variable {w : World} {c : Nat} {s : ByteArray} {i : Nat}
set_option maxHeartbeats 1000000 in
set_option maxRecDepth 100000 in
theorem plain_any (h : Rd w c s i) : Calls Tryd.prog 25 #[ptr c] w (RetW (.ok (⟨1, (i : Int), [(sy s i, sy s i)], 0, 0⟩, i + wd s i)) c s w) := by
  have hlt := h.lt
  have h2 := h.2.1
  have HT := Lib.hid (w0_tok w)
  have HF := Lib.hid (w0_fault w)
  have HX0 := Lib.hid (Ex.of (c := c) (w0_below w))
  have HK := Lib.hid (take_rd h.w0)
  clear h
  generalize sy s i = x at *
  generalize wd s i = d at *
  go_enter Tryd.func25, Tryd.ntmps25
  go_wp2_with fail
  refine HK.out.mono ?_
  rintro e w1 ⟨rfl, hR1, hx1⟩
  go_wp2_with fail
  refine (one_any x w1).mono ?_
  intro e w2 hr2
  obtain ⟨g, k, rfl, ho2, hb2⟩ := RetR.some_ hr2 (by simp)
  go_wp2_with fail
  refine (setWord_any _ _ _ _).mono ?_
  rintro e w3 ⟨rfl, hb3⟩
  have hb := bel_trans hb2 hb3
  have hx13 := hx1.on hb
  have hT3 := keepB HT.out hx13 (by omega)
  have hF3 := keepB HF.out hx13 (by omega)
  obtain ⟨⟨t0, t1, t2, t3, t4⟩, f0, f1, f2, f3, f4⟩ := blk5 hT3
  obtain ⟨q0, q1, q2, q3⟩ := blk2 hF3
  have hx := HX0.out.trans hx13
  have hR3 := hR1.on hb
  have ho3 := ho2.below hb3
  have s1 : w.heap.size + 1 < w1.heap.size := lt_of_heap (keepB HF.out hx1 (by omega))
  go_wp2_with fail
  refine bodyPost_ret (v := .tuple #[tv 1 0 (.slice (some ⟨g, 0, none⟩) 1 k) 0 0, fv 0 0]) ?_ rfl ⟨_, _, rfl, ?_, ?_, ?_⟩
  · rw [results_cc rfl]; go_simp
  · refine S.Ow.less ?_ (show w.heap.size ≤ w1.heap.size by omega)
    repeat' (first | with_reducible exact ho3 | refine S.Ow.set ?_ (by omega) _ _)
  · repeat' (first | with_reducible exact hR3 | with_reducible refine Rd.alloc ?_ _ | with_reducible refine Rd.drew ?_ | refine Rd.set ?_ (by omega) (by omega) _ _)
  · repeat' (first | with_reducible exact hx | with_reducible refine Ex.alloc ?_ _ | with_reducible refine Ex.drew ?_ | refine Ex.set ?_ (by omega) _ _)
set_option maxHeartbeats 1000000 in
set_option maxRecDepth 100000 in
theorem dot_any (h : Rd w c s i) (hc : bt s i = 46) : Calls Tryd.prog 23 #[ptr c] w (RetW (.ok (⟨1, (i : Int), notL [(10, 10)], 0, 0⟩, i + 1)) c s w) := by
  have hlt := h.lt
  have h2 := h.2.1
  have HT := Lib.hid (w0_tok w)
  have HF := Lib.hid (w0_fault w)
  have HX0 := Lib.hid (Ex.of (c := c) (w0_below w))
  have HK := Lib.hid (take_low h.w0 hc (by omega) (by omega))
  have HNN := Lib.hid (fun (A : Option Addr) (k : Nat) (W : World) (h : S.Rgs W W.heap.size A [(10, 10)]) => S.not_any A k [(10, 10)] W h (by simp))
  obtain ⟨m, hm⟩ : ∃ m, m = notL [(10, 10)] := ⟨_, rfl⟩
  rw [← hm] at HNN ⊢
  clear h hc hm
  go_enter Tryd.func23, Tryd.ntmps23
  go_wp2_with fail
  refine HK.out.mono ?_
  rintro e w1 ⟨rfl, hR1, hx1⟩
  go_wp2_with fail
  refine (one_any 10 w1).mono ?_
  intro e w2 hr2
  obtain ⟨A, k, rfl, _, hrg, hb2⟩ := RetR.shape hr2
  go_wp2_with fail
  refine (HNN.out _ _ _ hrg).mono ?_
  intro e w3 hr3
  obtain ⟨A3, k3, rfl, ho3, _, hb3⟩ := RetR.shape hr3
  go_wp2_with fail
  refine (setWord_any _ _ _ _).mono ?_
  rintro e w4 ⟨rfl, hb4⟩
  have hb := bel_trans (bel_trans hb2 hb3) hb4
  have hx13 := hx1.on hb
  have hT3 := keepB HT.out hx13 (by omega)
  have hF3 := keepB HF.out hx13 (by omega)
  obtain ⟨⟨t0, t1, t2, t3, t4⟩, f0, f1, f2, f3, f4⟩ := blk5 hT3
  obtain ⟨q0, q1, q2, q3⟩ := blk2 hF3
  have hx := HX0.out.trans hx13
  have hR3 := hR1.on hb
  have ho4 := ho3.below hb4
  have s1 : w.heap.size + 1 < w1.heap.size := lt_of_heap (keepB HF.out hx1 (by omega))
  have s2 := hb2.size
  clear hr2 hr3 hrg ho3
  generalize hmn : m.length = n at *
  go_wp2_with fail
  refine bodyPost_ret (v := .tuple #[tv 1 0 (.slice A3 n k3) 0 0, fv 0 0]) ?_ rfl ⟨A3, k3, by rw [hmn], ?_, ?_, ?_⟩
  · rw [results_cc rfl]; go_simp
  · dsimp only
    rw [hmn]
    refine S.Ow.less ?_ (show w.heap.size ≤ w2.heap.size by omega)
    repeat' (first | with_reducible exact ho4 | refine S.Ow.set ?_ (by omega) _ _)
  · repeat' (first | with_reducible exact hR3 | with_reducible refine Rd.alloc ?_ _ | with_reducible refine Rd.drew ?_ | refine Rd.set ?_ (by omega) (by omega) _ _)
  · repeat' (first | with_reducible exact hx | with_reducible refine Ex.alloc ?_ _ | with_reducible refine Ex.drew ?_ | refine Ex.set ?_ (by omega) _ _)
set_option maxHeartbeats 1000000 in
set_option maxRecDepth 100000 in
theorem stray_any (h : Rd w c s i) : Calls Tryd.prog 24 #[ptr c] w (RetW (.error (4, i)) c s w) := by
  have hlt := h.lt
  obtain ⟨c0, c1, _⟩ := h.w0.cells
  have HT := Lib.hid (w0_tok w)
  have HF := Lib.hid (w0_fault w)
  have HX0 := Lib.hid (Ex.of (c := c) (w0_below w))
  clear h
  go_enter Tryd.func24, Tryd.ntmps24
  go_wp2_with fail
  refine (syntaxAt_any _ _).mono ?_
  rintro e w1 ⟨rfl, hb1⟩
  obtain ⟨⟨t0, t1, t2, t3, t4⟩, f0, f1, f2, f3, f4⟩ := blk5 (keepL HT.out hb1)
  obtain ⟨q0, q1, q2, q3⟩ := blk2 (keepL HF.out hb1)
  have hx := HX0.out.on hb1
  go_wp2_with fail
  refine bodyPost_ret (v := .tuple #[tv 0 0 nls 0 0, fv 4 (i : Int)]) ?_ rfl ⟨rfl, ?_, .inl rfl⟩
  · rw [results_cc rfl]; go_simp
  · repeat' (first | with_reducible exact hx | with_reducible refine Ex.alloc ?_ _ | with_reducible refine Ex.drew ?_ | refine Ex.set ?_ (by omega) _ _)
set_option maxHeartbeats 1000000 in
set_option maxRecDepth 100000 in
theorem repeat_any (h : Rd w c s i) {b : Nat} {m n : Int} (hb : bt s i = b) (hcs : b = 42 ∧ m = 0 ∧ n = -1 ∨ b = 43 ∧ m = 1 ∧ n = -1 ∨ b = 63 ∧ m = 0 ∧ n = 1) : Calls Tryd.prog 22 #[ptr c] w (RetW (.ok (⟨6, (i : Int), [], m, n⟩, i + 1)) c s w) := by
  have hlt := h.lt
  have h2 := h.2.1
  have HT := Lib.hid (w0_tok w)
  have HF := Lib.hid (w0_fault w)
  have HX0 := Lib.hid (Ex.of (c := c) (w0_below w))
  have HK := Lib.hid (take_low h.w0 hb (by omega) (by omega))
  clear h hb
  rcases hcs with ⟨rfl, rfl, rfl⟩ | ⟨rfl, rfl, rfl⟩ | ⟨rfl, rfl, rfl⟩
  all_goals (
    go_enter Tryd.func22, Tryd.ntmps22
    go_wp2_with fail
    refine HK.out.mono ?_
    rintro e w1 ⟨rfl, hR1, hx1⟩
    go_wp2_with fail
    refine (repWord_any _ _ _).mono ?_
    rintro e w2 ⟨rfl, hb2⟩
    have hx12 := hx1.on hb2
    obtain ⟨⟨t0, t1, t2, t3, t4⟩, f0, f1, f2, f3, f4⟩ := blk5 (keepB HT.out hx12 (by omega))
    obtain ⟨q0, q1, q2, q3⟩ := blk2 (keepB HF.out hx12 (by omega))
    have hx := HX0.out.trans hx12
    have hR2 := hR1.on hb2
    go_wp2_with fail
    refine bodyPost_ret (v := .tuple #[tv 6 0 nls _ _, fv 0 0]) ?_ rfl ⟨none, 0, rfl, S.Ow.nil _ _, ?_, ?_⟩
    · rw [results_cc rfl]; go_simp
    · repeat' (first | with_reducible exact hR2 | with_reducible refine Rd.alloc ?_ _ | with_reducible refine Rd.drew ?_ | refine Rd.set ?_ (by omega) (by omega) _ _)
    · repeat' (first | with_reducible exact hx | with_reducible refine Ex.alloc ?_ _ | with_reducible refine Ex.drew ?_ | refine Ex.set ?_ (by omega) _ _))
set_option maxHeartbeats 1000000 in
set_option maxRecDepth 100000 in
theorem mark_any (h : Rd w c s i) {b : Nat} {k : Int} (hb : bt s i = b) (hcs : b = 41 ∧ k = 4 ∨ b = 124 ∧ k = 5 ∨ b = 94 ∧ k = 8 ∨ b = 36 ∧ k = 9) : Calls Tryd.prog 21 #[ptr c] w (RetW (.ok (⟨k, (i : Int), [], 0, 0⟩, i + 1)) c s w) := by
  have hlt := h.lt
  have h2 := h.2.1
  have HT := Lib.hid (w0_tok w)
  have HF := Lib.hid (w0_fault w)
  have HX0 := Lib.hid (Ex.of (c := c) (w0_below w))
  have HK := Lib.hid (take_low h.w0 hb (by omega) (by omega))
  clear h hb
  rcases hcs with ⟨rfl, rfl⟩ | ⟨rfl, rfl⟩ | ⟨rfl, rfl⟩ | ⟨rfl, rfl⟩
  all_goals (
    go_enter Tryd.func21, Tryd.ntmps21
    go_wp2_with fail
    refine HK.out.mono ?_
    rintro e w1 ⟨rfl, hR1, hx1⟩
    obtain ⟨⟨t0, t1, t2, t3, t4⟩, f0, f1, f2, f3, f4⟩ := blk5 (keepB HT.out hx1 (by omega))
    obtain ⟨q0, q1, q2, q3⟩ := blk2 (keepB HF.out hx1 (by omega))
    have hx := HX0.out.trans hx1
    go_wp2_with fail
    refine bodyPost_ret (v := .tuple #[tv _ 0 nls 0 0, fv 0 0]) ?_ rfl ⟨none, 0, rfl, S.Ow.nil _ _, ?_, ?_⟩
    · rw [results_cc rfl]; go_simp
    · repeat' (first | with_reducible exact hR1 | with_reducible refine Rd.alloc ?_ _ | with_reducible refine Rd.drew ?_ | refine Rd.set ?_ (by omega) (by omega) _ _)
    · repeat' (first | with_reducible exact hx | with_reducible refine Ex.alloc ?_ _ | with_reducible refine Ex.drew ?_ | refine Ex.set ?_ (by omega) _ _))
end
end Go.Proofs.YtceeimolfalmpaaDoor

namespace Go.Proofs.YtceeimolfalmpaaDoor
open Go.RowKit ObUtf ObSets ObLex

theorem bytes3 (s : ByteArray) (i : Nat) (h : i + 3 ≤ s.size) : ((s.extract i s.size).extract 0 3).toList = [s[i]'(by omega), s[i + 1]'(by omega), s[i + 2]'(by omega)] := by
  rw [ByteArray.toList_eq, ByteArray.data_extract, ByteArray.data_extract, Array.toList_extract, Array.toList_extract]
  simp only [List.extract_eq_take_drop]
  have hl : s.data.toList.length = s.size := Array.length_toList
  have e : ∀ k (hk : k < s.size), s.data.toList[k]'(by rw [hl]; exact hk) = s[k]'hk := fun k hk => by simp [ByteArray.getElem_eq_getElem_data]
  rw [show s.data.toList.drop i = s.data.toList[i]'(by omega) :: s.data.toList[i + 1]'(by omega) :: s.data.toList[i + 2]'(by omega) :: s.data.toList.drop (i + 3) by
    rw [List.drop_eq_getElem_cons (by omega), List.drop_eq_getElem_cons (by omega), List.drop_eq_getElem_cons (by omega)]]
  rw [e i (by omega), e (i + 1) (by omega), e (i + 2) (by omega)]
  rw [show s.size - i = (s.size - i - 3) + 3 by omega]
  simp
theorem pre_yes {s : ByteArray} {i : Nat} (h0 : bt s i = 40) (h1 : bt s (i + 1) = 63) (h2 : bt s (i + 2) = 58) : (((s.extract i s.size).extract 0 3).toList == [40, 63, 58]) = true := by
  have hi : i + 2 < s.size := bt_in (by omega)
  rw [bytes3 s i (by omega)]
  rw [U.bt_eq s _ (by omega)] at h0 h1 h2
  have a0 : s[i]'(by omega) = 40 := UInt8.toNat_inj.1 h0
  have a1 : s[i + 1]'(by omega) = 63 := UInt8.toNat_inj.1 h1
  have a2 : s[i + 2]'(by omega) = 58 := UInt8.toNat_inj.1 h2
  rw [a0, a1, a2]
  rfl
theorem pre_no {s : ByteArray} {i : Nat} (hi : i + 3 ≤ s.size) (h : ¬ (bt s (i + 1) = 63 ∧ bt s (i + 2) = 58)) : (((s.extract i s.size).extract 0 3).toList == [40, 63, 58]) = false := by
  rw [bytes3 s i hi]
  rw [U.bt_eq s (i + 1) (by omega), U.bt_eq s (i + 2) (by omega)] at h
  refine beq_eq_false_iff_ne.2 fun e => h ?_
  injection e with e0 e1
  injection e1 with e1 e2
  injection e2 with e2 _
  rw [e1, e2]
  exact ⟨rfl, rfl⟩
set_option maxHeartbeats 1000000 in
set_option maxRecDepth 100000 in
theorem hasPrefix_any (u : ByteArray) {b : Bool} (hb : b = (decide (3 ≤ u.size) && ((u.extract 0 3).toList == [40, 63, 58]))) (w : World) : Calls Tryd.prog 43 #[.string u, .string ⟨#[40, 63, 58]⟩] w fun e w' => e = .returned (.bool b) ∧ w = w' := by
  have h69 : Calls Tryd.prog 60 #[.string u, .string ⟨#[40, 63, 58]⟩] w fun e w' => e = .returned (.bool b) ∧ w = w' := by
    by_cases hu : 3 ≤ u.size
    · have d1 : decide (3 ≤ u.size) = true := decide_eq_true hu
      have hb' : b = ((u.extract 0 3).toList == [40, 63, 58]) := by rw [hb, d1]; rfl
      clear hb
      go_enter Tryd.func60, Tryd.ntmps60
      go_wp2_with fail
      go_ret
      exact ⟨ret_bool hb'.symm, rfl⟩
    · have d1 : decide (3 ≤ u.size) = false := decide_eq_false hu
      have hb' : b = false := by rw [hb, d1]; rfl
      subst hb'
      clear hb
      go_enter Tryd.func60, Tryd.ntmps60
      go_wp2_with fail
      go_ret
      exact ⟨rfl, rfl⟩
  have H := Lib.hid h69
  clear h69 hb
  go_enter Tryd.func43, Tryd.ntmps43
  go_wp2_with fail
  refine H.out.mono ?_
  rintro e w' ⟨rfl, rfl⟩
  go_wp2_with fail
  go_ret
  exact ⟨rfl, rfl⟩
section
variable {w : World} {c : Nat} {s : ByteArray} {i : Nat}
theorem isPlain {s : ByteArray} {i : Nat} (h0 : bt s i = 40) (b : Bool) (hb : b = decide (bt s (i + 1) = 63 ∧ bt s (i + 2) = 58)) : b = (decide (3 ≤ (s.extract i s.size).size) && (((s.extract i s.size).extract 0 3).toList == [40, 63, 58])) := by
  have hi : i < s.size := bt_in (by omega)
  have hsz : (s.extract i s.size).size = s.size - i := by rw [ByteArray.size_extract]; omega
  rw [hsz]
  by_cases h : bt s (i + 1) = 63 ∧ bt s (i + 2) = 58
  · have h2 : i + 2 < s.size := bt_in (by omega)
    rw [hb, pre_yes h0 h.1 h.2, decide_eq_true h, decide_eq_true (by omega)]
    rfl
  · rw [hb, decide_eq_false h]
    by_cases h3 : 3 ≤ s.size - i
    · rw [pre_no (by omega) h, Bool.and_false]
    · rw [decide_eq_false h3, Bool.false_and]
set_option maxHeartbeats 1000000 in
set_option maxRecDepth 100000 in
theorem open_plain (h : Rd w c s i) (h0 : bt s i = 40) (hp : bt s (i + 1) = 63 ∧ bt s (i + 2) = 58) : Calls Tryd.prog 20 #[ptr c] w (RetW (.ok (⟨3, (i : Int), [], 0, 0⟩, i + 3)) c s w) := by
  have hlt := h.lt
  have h2 := h.2.1
  have hz := h.2.2.2
  have hi2 : i + 2 < s.size := bt_in (by omega)
  obtain ⟨c0, c1, c2⟩ := h.w0.cells
  have cf := c2 1
  clear c2
  have HT := Lib.hid (w0_tok w)
  have HF := Lib.hid (w0_fault w)
  have HX0 := Lib.hid (Ex.of (c := c) (w0_below w))
  have HR := Lib.hid h.w0
  have HP := Lib.hid (hasPrefix_any (s.extract i s.size) (isPlain h0 true (by rw [decide_eq_true hp])))
  clear h h0 hp
  go_enter Tryd.func20, Tryd.ntmps20
  go_wp2_with fail
  go_quiet (first | (go_at_call 43; exact S.quiet_eq (HP.out _)))
  obtain ⟨⟨t0, t1, t2, t3, t4⟩, f0, f1, f2, f3, f4⟩ := blk5 HT.out
  obtain ⟨q0, q1, q2, q3⟩ := blk2 HF.out
  go_wp2_with fail
  refine bodyPost_ret (v := .tuple #[tv 3 0 nls 0 0, fv 0 0]) ?_ rfl ⟨none, 0, rfl, S.Ow.nil _ _, ?_, ?_⟩
  · rw [results_cc rfl]; go_simp
  · have hp := (HR.out.drews nq).put (i + 3) (by omega)
    rw [show ((i + 3 : Nat) : Int) = (i : Int) + 3 by omega] at hp
    repeat' (first | with_reducible exact hp | refine Rd.set ?_ (by omega) (by omega) _ _)
  · have hx := (HX0.out.drews nq).setL 1 (.int .i64 ((i : Int) + 3))
    repeat' (first | with_reducible exact hx | with_reducible refine Ex.drew ?_ | refine Ex.set ?_ (by omega) _ _)
set_option maxHeartbeats 1000000 in
set_option maxRecDepth 100000 in
theorem open_group (h : Rd w c s i) (h0 : bt s i = 40) (hp : ¬ (bt s (i + 1) = 63 ∧ bt s (i + 2) = 58)) : Calls Tryd.prog 20 #[ptr c] w (RetW (.ok (⟨2, (i : Int), [], 0, 0⟩, i + 1)) c s w) := by
  have hlt := h.lt
  have h2 := h.2.1
  have hz := h.2.2.2
  have hi2 : i < s.size := bt_in (by omega)
  obtain ⟨c0, c1, c2⟩ := h.w0.cells
  have cf := c2 1
  clear c2
  have HT := Lib.hid (w0_tok w)
  have HF := Lib.hid (w0_fault w)
  have HX0 := Lib.hid (Ex.of (c := c) (w0_below w))
  have HR := Lib.hid h.w0
  have H0 := Lib.hid h0
  have HP := Lib.hid (hasPrefix_any (s.extract i s.size) (isPlain h0 false (by rw [decide_eq_false hp])))
  clear h h0 hp
  go_enter Tryd.func20, Tryd.ntmps20
  go_wp2_with fail
  go_quiet (first | (go_at_call 43; exact S.quiet_eq (HP.out _)))
  go_wp2_with fail
  refine (take_low (HR.out.drews nq) H0.out (by omega) (by omega)).mono ?_
  rintro e w1 ⟨rfl, hR1, hx1⟩
  have hx12 := (Ex.of (c := c) (below_drews (Below.refl _ (W0 w)) nq)).trans hx1
  obtain ⟨⟨t0, t1, t2, t3, t4⟩, f0, f1, f2, f3, f4⟩ := blk5 (keepB HT.out hx12 (by omega))
  obtain ⟨q0, q1, q2, q3⟩ := blk2 (keepB HF.out hx12 (by omega))
  have hx := HX0.out.trans hx12
  go_wp2_with fail
  refine bodyPost_ret (v := .tuple #[tv 2 0 nls 0 0, fv 0 0]) ?_ rfl ⟨none, 0, rfl, S.Ow.nil _ _, ?_, ?_⟩
  · rw [results_cc rfl]; go_simp
  · repeat' (first | with_reducible exact hR1 | with_reducible refine Rd.alloc ?_ _ | with_reducible refine Rd.drew ?_ | refine Rd.set ?_ (by omega) (by omega) _ _)
  · repeat' (first | with_reducible exact hx | with_reducible refine Ex.alloc ?_ _ | with_reducible refine Ex.drew ?_ | refine Ex.set ?_ (by omega) _ _)
end
end Go.Proofs.YtceeimolfalmpaaDoor
