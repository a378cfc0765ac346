/-
  What Text of a chunk answers.
-/
import Derived.Test.YtdpjcbljeklhmaaDoorW1
namespace Go.Proofs.YtdpjcbljeklhmaaDoor
open Go.RowKit ObGap

set_option maxHeartbeats 400000 in
theorem text_ck {w : World} {c g : Nat} {L : Bs} {K p r : Nat} (h : Ck w c g L K p r) : Calls Tryd.prog 52 #[ptr c] w fun e w' => e = .returned (str (L.take p ++ L.drop r)) ∧ Below w.heap.size w w' := by
  obtain ⟨c0, c1, c2, _⟩ := h.cells
  have hk := Lib.hid h
  have hcap := h.cap
  obtain ⟨_, _, _, h1, h2, h3, h4⟩ := h
  have hn0 : (K = 0) = False := by simp; omega
  have hp1 : (p : Int) ≤ (K : Int) := by omega
  have hr1 : (r : Int) ≤ (L.length : Int) := by omega
  have cv1 := hk.out.str 0 p K (by omega)
  by_cases hrn : K = r
  · obtain rfl : L.length = K := by omega
    subst hrn
    have cv2 := hk.out.str 0 0 0 (by omega)
    go_enter Tryd.func52, Tryd.ntmps52
    go_wp2_with fail
    go_quiet (fail)
    go_wp2_with fail
    go_ret
    exact ⟨ret_str (by simp), below_drews (Below.refl _ _) nq⟩
  · have hrn2 : (K = r) = False := by simp [hrn]
    have cv2 := hk.out.str r (L.length - r) (K - r) (by omega)
    go_enter Tryd.func52, Tryd.ntmps52
    go_wp2_with fail
    go_quiet (fail)
    go_wp2_with fail
    go_ret
    exact ⟨ret_str (by show L.take p ++ List.take (L.length - r) (L.drop r) = _; congr 1; exact List.take_of_length_le (by simp)), below_drews (Below.refl _ _) nq⟩
end Go.Proofs.YtdpjcbljeklhmaaDoor
