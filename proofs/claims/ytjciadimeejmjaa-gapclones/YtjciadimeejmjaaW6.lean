/-
  What Cut of a chunk answers and leaves, for every chunk and every argument, and for none.
-/
import Derived.Test.YtjciadimeejmjaaW5
namespace Go.Proofs.Ytjciadimeejmjaa
open Go.RowKit ObGap

theorem cutT_out {s : Bs} {i : Int} (h : out s i = true) : cutT s i = [] := by unfold cutT; rw [if_pos h]
theorem cutT_in {s : Bs} {i : Int} (h : out s i = false) : cutT s i = s.drop i.toNat := by unfold cutT; rw [if_neg (by simp [h])]
theorem cutS_out {s : Bs} {i : Int} (h : out s i = true) : cutS s i = s := by unfold cutS; rw [if_pos h]
theorem cutS_in {s : Bs} {i : Int} (h : out s i = false) : cutS s i = s.take i.toNat := by unfold cutS; rw [if_neg (by simp [h])]
set_option maxHeartbeats 400000 in
theorem cut_nil (i : Int) (w : World) : Calls Try.prog 21 #[.pointer none, .int .i64 i] w fun e w' => e = .returned (.tuple #[str [], .int .i64 1]) ∧ Below w.heap.size w w' := by
  go_enter Try.func21, Try.ntmps21
  go_wp2_with fail
  refine (refuse_nil i w).mono ?_
  rintro e w1 ⟨rfl, hb1⟩
  go_wp2_with fail
  go_ret2
  exact ⟨rfl, hb1⟩
theorem Moved.cut {w w' : World} {c g : Nat} {L : Bs} {K p r a : Nat} (h : Moved w c g L K p r a w') (hk : a ≤ (L.take p ++ L.drop r).length) (hp : p ≤ r) (hr : r ≤ L.length) :
    Chk (w'.setCell ⟨c, 2, none⟩ (.int .i64 L.length)) c g L.length ((L.take p ++ L.drop r).take a) a := by
  rw [parts_len hp hr] at hk
  obtain ⟨⟨M, hM, e, ht⟩, _⟩ := h
  refine ⟨M, K, L.length, hM.putR (by omega) (by omega), e, ?_⟩
  rw [← ht, parts_take (by omega) (by omega), ← e, List.drop_length, List.append_nil]
theorem Moved.drews {w w' : World} {c g : Nat} {L : Bs} {K p r a : Nat} (h : Moved w c g L K p r a w') (n : Nat) : Moved w c g L K p r a (w'.drewN n) := ⟨h.1, h.2.drews n⟩
theorem ret_two {a b : Bs} {x : Int} (h : a = b) : Ending.returned (.tuple #[.string ⟨⟨a⟩⟩, .int .i64 x]) = .returned (.tuple #[.string ⟨⟨b⟩⟩, .int .i64 x]) := by rw [h]
set_option maxHeartbeats 1000000 in
theorem cut_chk {w : World} {c g mx : Nat} {s : Bs} {p : Nat} (h : Chk w c g mx s p) (i : Int) :
    Calls Try.prog 21 #[ptr c, .int .i64 i] w fun e w' => e = .returned (.tuple #[str (cutT s i), .int .i64 (movE s i)]) ∧ Chk w' c g mx (cutS s i) (movP s p i) ∧ Ex c g w w' := by
  have HC := Lib.hid h
  obtain ⟨L, K, r, hk, hmx, hs⟩ := h
  have HF := refuse_ck hk i
  rw [← hs] at HF
  have HS := Lib.hid hs
  have HX := Lib.hid hmx
  have HK := Lib.hid hk
  have HPR := Lib.hid (show p ≤ r ∧ r ≤ L.length ∧ L.length ≤ 4096 from ⟨hk.2.2.2.1, hk.2.2.2.2.1, hk.2.2.2.2.2.2⟩)
  clear hs hk hmx
  by_cases ho : out s i = true
  · rw [movE_out ho] at HF
    rw [movE_out ho, movP_out ho, cutT_out ho, cutS_out ho]
    have HF2 := Lib.hid HF
    clear HF ho
    go_enter Try.func21, Try.ntmps21
    go_wp2_with fail
    refine HF2.out.mono ?_
    rintro e w1 ⟨rfl, hb1⟩
    go_wp2_with fail
    go_ret2
    exact ⟨rfl, HC.out.on hb1, Ex.of hb1⟩
  · have ho : out s i = false := by simpa using ho
    rw [movE_in ho] at HF
    rw [movE_in ho, movP_in ho, cutT_in ho, cutS_in ho]
    have hr := out_false ho
    obtain ⟨a, rfl⟩ : ∃ a : Nat, i = a := ⟨i.toNat, by omega⟩
    have HA := Lib.hid (show a ≤ s.length by omega)
    rw [Int.toNat_natCast]
    have HF2 := Lib.hid HF
    clear HF ho hr
    obtain ⟨tl, htl⟩ : ∃ tl, tl = s.drop a := ⟨_, rfl⟩
    rw [← htl]
    have HT := Lib.hid htl
    clear htl
    go_enter Try.func21, Try.ntmps21
    go_wp2_with fail
    refine HF2.out.mono ?_
    rintro e w1 ⟨rfl, hb1⟩
    have HB := Lib.hid hb1
    clear hb1
    go_wp2_with fail
    refine (shift_ck (HK.out.on HB.out) a (by rw [← HS.out]; exact HA.out)).mono ?_
    rintro e w2 ⟨rfl, hm2⟩
    have HM := Lib.hid hm2
    obtain ⟨⟨M, hM, eM, ht⟩, _⟩ := hm2
    have hle := hM.2.2.2.2.1
    have hcap := hM.cap
    have hle0 := hM.2.2.2.1
    have HMT := Lib.hid (show tl = M.drop (a + (r - p)) by
      rw [HT.out, HS.out, ← ht]
      exact parts_drop 0 hle0 hle)
    have HMk := Lib.hid hM
    generalize hq : a + (r - p) = q at *
    obtain ⟨c0, c1, c2, f2⟩ := hM.cells
    have f2 := f2 2
    have HE := Lib.hid eM
    clear hq hM ht hle0
    have i1 : (q : Int) ≤ (M.length : Int) := by omega
    by_cases hqn : K = q
    · obtain rfl : M.length = K := by omega
      subst hqn
      have cv := HMk.out.str 0 0 0 (by omega)
      clear eM
      go_wp2_with fail
      go_quiet (fail)
      go_wp2_with fail
      go_ret2
      refine ⟨ret_two (by rw [HMT.out]; simp), ?_, ((Ex.of HB.out).trans (HM.out.drews nq).2).setL _ _⟩
      rw [← HX.out, HS.out, HE.out]
      exact (HM.out.drews nq).cut (by rw [← HS.out]; exact HA.out) HPR.out.1 HPR.out.2.1
    · have hqn2 : (K = q) = False := by simp [hqn]
      have cv := HMk.out.str q (M.length - q) (K - q) (by omega)
      clear eM
      go_wp2_with fail
      go_quiet (fail)
      go_wp2_with fail
      go_ret2
      refine ⟨ret_two (by rw [HMT.out]; exact List.take_of_length_le (by simp)), ?_, ((Ex.of HB.out).trans (HM.out.drews nq).2).setL _ _⟩
      rw [← HX.out, HS.out, HE.out]
      exact (HM.out.drews nq).cut (by rw [← HS.out]; exact HA.out) HPR.out.1 HPR.out.2.1
end Go.Proofs.Ytjciadimeejmjaa
