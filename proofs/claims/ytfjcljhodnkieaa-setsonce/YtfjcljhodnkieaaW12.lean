/-
  What Count answers, of the program and of the page's own: how many symbols a list has. Condition: at most 1000000 ranges.
-/
import Derived.Test.YtfjcljhodnkieaaW9
import Derived.Test.YtfjcljhodnkieaaPlain3
namespace Go.Proofs.Ytfjcljhodnkieaa
open Go.RowKit ObSets

theorem rk_same (x : Int) : rk x = ObSets.rk x := rfl
theorem cn_take {m : List R} {k : Nat} {p q : Int} (h : m[k]? = some (p, q)) : cn (m.take (k + 1)) = cn (m.take k) + (rk q - rk p + 1) := by
  rw [List.take_add_one, h, cn_append]
  show cn (m.take k) + cn [(p, q)] = _
  simp [cn, rk_same]
theorem cn_take_bd {m : List R} (h : ∀ r ∈ m, V r) (k : Nat) : 0 ≤ cn (m.take k) ∧ cn (m.take k) ≤ k * 2000000 := by
  have h1 := cn_bd (m := m.take k) fun r hr => h r (List.mem_of_mem_take hr)
  have h2 : (m.take k).length ≤ k := by rw [List.length_take]; omega
  omega

set_option maxHeartbeats 1000000 in
set_option maxRecDepth 100000 in
theorem count_any (A : Option Addr) (c : Nat) (l : List R) (w : World) (h : Rgs w w.heap.size A l) (hl : l.length ≤ 1000000) :
    Calls Try.prog 18 #[.slice A l.length c] w fun e w' => e = .returned (.int .i64 (cn (nrm l))) ∧ Below w.heap.size w w' := by
  have HC := Lib.hid (norm_any A c l w h hl)
  have hnl := Lib.hid (show (nrm l).length ≤ 1000000 by have := nrm_len l; omega)
  have HV := Lib.hid (nrm_ok l).1.1
  generalize nrm l = m at *
  generalize l.length = n at *
  clear h hl
  go_enter Try.func18, Try.ntmps18
  go_wp2_with (go_at_call 14; refine HC.out.mono ?_; rintro e w1 ⟨v, rfl, hown, hb⟩; obtain ⟨A1, cap, rfl, hc1, hc2, hr, _⟩ := hown.shape)
  have hml := hnl.out
  have HR := Lib.hid hr
  clear hown HC hr hnl hc1 hc2
  generalize hn2 : m.length = k0 at *
  have HN := Lib.hid hn2
  clear hn2
  go_loopw [3, 9] (fun s t wr => ∃ k : Nat, k ≤ k0 ∧ t = .int .i64 k ∧ s = .int .i64 (cn (m.take k)) ∧ Below w1.heap.size w1 wr) (fun _ t _ => k0 - (intOf t).toNat)
  case atStart => exact ⟨0, by omega, rfl, rfl, Below.refl _ _⟩
  case round =>
    obtain ⟨k, hk, rfl, rfl, hb2⟩ := hrel
    by_cases hkn : k < k0
    · obtain ⟨b, off, p, q, rfl, hbl, e1, f1, f2⟩ := (HR.out.below hb2).at_ (k := k) (by rw [HN.out]; exact hkn)
      have hk1 : (k : Int) < (k0 : Int) := by omega
      have HT := Lib.hid (cn_take e1)
      have hv := HV.out (p, q) (List.mem_of_getElem? e1)
      have H1 := Lib.hid (fun w => rank_any p w hv.1)
      have H2 := Lib.hid (fun w => rank_any q w hv.2.1)
      have b1 := rk_bd hv.1; have b2 := rk_bd hv.2.1; have b3 := rk_mono' hv.1 hv.2.1 hv.2.2
      rw [← rk_same] at b1 b2
      rw [← rk_same, ← rk_same] at b3
      have b4 := cn_take_bd HV.out k
      simp only at b1 b2 b3
      clear hv e1
      generalize rk p = rp at *
      generalize rk q = rq at *
      generalize cn (m.take k) = s at *
      obtain ⟨b11, b12⟩ := b1; obtain ⟨b21, b22⟩ := b2; obtain ⟨b41, b42⟩ := b4
      have w1 : IntKind.i64.wrap (rq - rp) = rq - rp := IntWalk.i64_in _ (by omega)
      have w2 : IntKind.i64.wrap (rq - rp + 1) = rq - rp + 1 := IntWalk.i64_in _ (by omega)
      have w3 : IntKind.i64.wrap (s + (rq - rp + 1)) = s + (rq - rp + 1) := IntWalk.i64_in _ (by omega)
      go_wp2
      go_quiet (first | (go_at_call_of 42 p; exact quiet_eq (H1.out _)) | (go_at_call_of 42 q; exact quiet_eq (H2.out _)))
      go_wp2
      go_roundw
      case rel => exact ⟨k + 1, by omega, by go_num, by rw [HT.out], below_drews (hb2.alloc (by have := hb2.size; omega) _) nq⟩
      case measure => simp [intOf]; omega
    · have hk1 : decide (k < k0) = false := by simp; omega
      obtain rfl : k = k0 := by omega
      have HE := Lib.hid (show m.take k = m by rw [← HN.out, List.take_length])
      go_wp2
      go_ret
      exact ⟨ret_int (by rw [HE.out]), bel_trans hb hb2⟩

set_option maxHeartbeats 1000000 in
set_option maxRecDepth 100000 in
theorem rcount_any (A : Option Addr) (c : Nat) (l : List R) (w : World) (h : Rgs w w.heap.size A l) (hl : l.length ≤ 1000000) :
    Calls Try.prog 19 #[.slice A l.length c] w fun e w' => e = .returned (.int .i64 (cn (nrm l))) ∧ Below w.heap.size w w' := by
  have HC := Lib.hid (rnorm_any A c l w h hl)
  have hnl := Lib.hid (show (nrm l).length ≤ 1000000 by have := nrm_len l; omega)
  have HV := Lib.hid (nrm_ok l).1.1
  generalize nrm l = m at *
  generalize l.length = n at *
  clear h hl
  go_enter Try.func19, Try.ntmps19
  go_wp2_with (go_at_call 15; refine HC.out.mono ?_; rintro e w1 ⟨v, rfl, hown, hb⟩)
  obtain ⟨A1, cap, rfl, hc1, hc2, hr, _⟩ := hown.shape
  have hml := hnl.out
  have HR := Lib.hid hr
  clear hown HC hr hnl hc1 hc2
  generalize hn2 : m.length = k0 at *
  have HN := Lib.hid hn2
  clear hn2
  go_wp2
  go_loopw [3, 5] (fun s t wr => ∃ k : Nat, k ≤ k0 ∧ t = .int .i64 k ∧ s = .int .i64 (cn (m.take k)) ∧ Below w1.heap.size w1 wr) (fun _ t _ => k0 - (intOf t).toNat)
  case atStart => exact ⟨0, by omega, rfl, rfl, Below.refl _ _⟩
  case round =>
    obtain ⟨k, hk, rfl, rfl, hb2⟩ := hrel
    by_cases hkn : k < k0
    · obtain ⟨b, off, p, q, rfl, hbl, e1, f1, f2⟩ := (HR.out.below hb2).at_ (k := k) (by rw [HN.out]; exact hkn)
      have hk1 : (k : Int) < (k0 : Int) := by omega
      have HT := Lib.hid (cn_take e1)
      have hv := HV.out (p, q) (List.mem_of_getElem? e1)
      have H1 := Lib.hid (fun w => rrank_any p w hv.1)
      have H2 := Lib.hid (fun w => rrank_any q w hv.2.1)
      have b1 := rk_bd hv.1; have b2 := rk_bd hv.2.1; have b3 := rk_mono' hv.1 hv.2.1 hv.2.2
      rw [← rk_same] at b1 b2
      rw [← rk_same, ← rk_same] at b3
      have b4 := cn_take_bd HV.out k
      simp only at b1 b2 b3
      clear hv e1
      generalize rk p = rp at *
      generalize rk q = rq at *
      generalize cn (m.take k) = s at *
      obtain ⟨b11, b12⟩ := b1; obtain ⟨b21, b22⟩ := b2; obtain ⟨b41, b42⟩ := b4
      have w1 : IntKind.i64.wrap (s + rq) = s + rq := IntWalk.i64_in _ (by omega)
      have w2 : IntKind.i64.wrap (s + rq - rp) = s + rq - rp := IntWalk.i64_in _ (by omega)
      have w3 : IntKind.i64.wrap (s + rq - rp + 1) = s + rq - rp + 1 := IntWalk.i64_in _ (by omega)
      go_wp2
      go_quiet (first | (go_at_call_of 43 p; exact quiet_eq (H1.out _)) | (go_at_call_of 43 q; exact quiet_eq (H2.out _)))
      go_wp2
      go_roundw
      case rel => exact ⟨k + 1, by omega, by go_num, congrArg (Value.int .i64) (by rw [HT.out]; omega), below_drews hb2 nq⟩
      case measure => simp [intOf]; omega
    · have hk1 : decide (k < k0) = false := by simp; omega
      obtain rfl : k = k0 := by omega
      have HE := Lib.hid (show m.take k = m by rw [← HN.out, List.take_length])
      go_wp2
      go_ret
      exact ⟨ret_int (by rw [HE.out]), bel_trans hb hb2⟩
end Go.Proofs.Ytfjcljhodnkieaa
