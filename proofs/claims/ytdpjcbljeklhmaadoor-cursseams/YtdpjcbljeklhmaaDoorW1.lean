/-
  What Size, Len, Place, Byte and Text of a chunk answer, and its small helpers: for every chunk as New and the edits leave it, and for none.
-/
import Derived.Test.YtdpjcbljeklhmaaDoorMem
namespace Go.Proofs.YtdpjcbljeklhmaaDoor
open Go.RowKit ObGap

set_option maxHeartbeats 400000 in
theorem free_ck {w : World} {c g : Nat} {L : Bs} {K p r : Nat} (h : Ck w c g L K p r) : Calls Tryd.prog 67 #[ptr c] w fun e w' => e = .returned (.int .i64 ((r : Int) - p)) ∧ Below w.heap.size w w' := by
  obtain ⟨c0, c1, c2, _⟩ := h.cells
  obtain ⟨_, _, _, h1, h2, h3, h4⟩ := h
  have wq : IntKind.i64.wrap ((r : Int) - p) = (r : Int) - p := IntWalk.i64_in _ (by omega)
  go_enter Tryd.func67, Tryd.ntmps67
  go_wp2_with fail
  go_quiet (fail)
  go_wp2_with fail
  go_ret
  exact ⟨rfl, below_drews (Below.refl _ _) nq⟩
set_option maxHeartbeats 400000 in
theorem len_ck {w : World} {c g : Nat} {L : Bs} {K p r : Nat} (h : Ck w c g L K p r) : Calls Tryd.prog 66 #[ptr c] w fun e w' => e = .returned (.int .i64 ((L.take p ++ L.drop r).length : Int)) ∧ Below w.heap.size w w' := by
  obtain ⟨c0, c1, c2, _⟩ := h.cells
  have HF := Lib.hid (fun w' (hb : Below w.heap.size w w') => free_ck (h.on hb))
  have HC := Lib.hid (show ∀ w', Below w.heap.size w w' → w'.cell? ⟨c, 0, none⟩ = some (.slice (some ⟨g, 0, none⟩) L.length K) from fun w' hb => (hb.cell h.lt.1).trans c0)
  obtain ⟨_, _, _, h1, h2, h3, h4⟩ := h
  rw [parts_len h1 h2]
  have wq : IntKind.i64.wrap ((L.length : Int) - ((r : Int) - p)) = (L.length : Int) - ((r : Int) - p) := IntWalk.i64_in _ (by omega)
  go_enter Tryd.func66, Tryd.ntmps66
  go_wp2_with fail
  go_region_held3 (fun W => W.cell? ⟨c, 0, none⟩ = some (.slice (some ⟨g, 0, none⟩) L.length K)) (first | exact HC.out _ (Below.refl _ _).drew | exact HC.out _ (undrew hb3)) (first
    | (go_at_call 67; refine (HF.out _ (Below.refl _ _).drew).mono ?_; rintro e w3 ⟨rfl, hb3⟩))
  all_goals (
    go_wp2_with fail
    go_ret
    exact ⟨ret_int (by omega), undrew hb3⟩)
set_option maxHeartbeats 400000 in
theorem len_nil (w : World) : Calls Tryd.prog 66 #[.pointer none] w fun e w' => e = .returned (.int .i64 0) ∧ Below w.heap.size w w' := by
  go_enter Tryd.func66, Tryd.ntmps66
  go_wp2_with fail
  go_ret
  exact ⟨rfl, Below.refl _ _⟩
set_option maxHeartbeats 400000 in
theorem refuse_nil (i : Int) (w : World) : Calls Tryd.prog 70 #[.pointer none, .int .i64 i] w fun e w' => e = .returned (.int .i64 1) ∧ Below w.heap.size w w' := by
  go_enter Tryd.func70, Tryd.ntmps70
  go_wp2_with fail
  go_ret
  exact ⟨rfl, Below.refl _ _⟩
set_option maxHeartbeats 400000 in
theorem refuse_ck {w : World} {c g : Nat} {L : Bs} {K p r : Nat} (h : Ck w c g L K p r) (i : Int) : Calls Tryd.prog 70 #[ptr c, .int .i64 i] w fun e w' => e = .returned (.int .i64 (movE (L.take p ++ L.drop r) i)) ∧ Below w.heap.size w w' := by
  have HF := Lib.hid (len_ck h)
  obtain ⟨v, hv⟩ : ∃ v, v = movE (L.take p ++ L.drop r) i := ⟨_, rfl⟩
  rw [← hv]
  unfold movE out at hv
  generalize (L.take p ++ L.drop r).length = n at *
  have HV := Lib.hid hv
  clear h hv
  by_cases h0 : i < 0
  · have d0 : decide (i < 0) = true := by simp [h0]
    go_enter Tryd.func70, Tryd.ntmps70
    go_wp2_with fail
    go_ret
    exact ⟨ret_int (by rw [HV.out]; simp [d0]), Below.refl _ _⟩
  · have d0 : decide (i < 0) = false := by simpa using h0
    clear h0
    by_cases h1 : (n : Int) < i
    · have d1 : decide ((n : Int) < i) = true := by simp [h1]
      go_enter Tryd.func70, Tryd.ntmps70
      go_wp2_with fail
      refine HF.out.mono ?_
      rintro e w1 ⟨rfl, hb1⟩
      go_wp2_with fail
      go_ret
      exact ⟨ret_int (by rw [HV.out]; simp [d1]), hb1⟩
    · have d1 : decide ((n : Int) < i) = false := by simpa using h1
      clear h1
      go_enter Tryd.func70, Tryd.ntmps70
      go_wp2_with fail
      refine HF.out.mono ?_
      rintro e w1 ⟨rfl, hb1⟩
      go_wp2_with fail
      go_ret
      exact ⟨ret_int (by rw [HV.out, d0, d1]; rfl), hb1⟩

set_option maxHeartbeats 400000 in
theorem byte_nil (i : Int) (w : World) : Calls Tryd.prog 54 #[.pointer none, .int .i64 i] w fun e w' => e = .returned (.int .i64 (-1)) ∧ Below w.heap.size w w' := by
  go_enter Tryd.func54, Tryd.ntmps54
  go_wp2_with fail
  go_ret
  exact ⟨rfl, Below.refl _ _⟩
set_option maxHeartbeats 400000 in
theorem byte_ck {w : World} {c g : Nat} {L : Bs} {K p r : Nat} (h : Ck w c g L K p r) (i : Int) : Calls Tryd.prog 54 #[ptr c, .int .i64 i] w fun e w' => e = .returned (.int .i64 (byt (L.take p ++ L.drop r) i)) ∧ Below w.heap.size w w' := by
  have HK := Lib.hid h
  have HF := Lib.hid (len_ck h)
  obtain ⟨v, hv⟩ : ∃ v, v = byt (L.take p ++ L.drop r) i := ⟨_, rfl⟩
  rw [← hv]
  have HV := Lib.hid hv
  have HN := Lib.hid (parts_len h.2.2.2.1 h.2.2.2.2.1)
  generalize hn : (L.take p ++ L.drop r).length = n at *
  have HN2 := Lib.hid hn
  obtain ⟨_, _, _, k1, k2, k3, k4⟩ := h
  clear hv hn
  by_cases h0 : i < 0
  · have d0 : decide (i < 0) = true := by simp [h0]
    go_enter Tryd.func54, Tryd.ntmps54
    go_wp2_with fail
    go_ret
    exact ⟨ret_int (by rw [HV.out]; simp [byt, h0]), Below.refl _ _⟩
  · have d0 : decide (i < 0) = false := by simpa using h0
    obtain ⟨j, rfl⟩ : ∃ j : Nat, i = j := ⟨i.toNat, by omega⟩
    clear h0
    by_cases h1 : n ≤ j
    · have d1 : decide (n ≤ j) = true := by simp [h1]
      go_enter Tryd.func54, Tryd.ntmps54
      go_wp2_with fail
      refine HF.out.mono ?_
      rintro e w1 ⟨rfl, hb1⟩
      go_wp2_with fail
      go_ret
      exact ⟨ret_int (by
        rw [HV.out]
        unfold byt
        rw [if_neg (by omega), Int.toNat_natCast, List.getElem?_eq_none (by rw [HN2.out]; exact h1)]), hb1⟩
    · have d1 : decide (n ≤ j) = false := by simpa using h1
      have hjn := HN.out
      by_cases h2 : p ≤ j
      · have d2 : decide (p ≤ j) = true := by simp [h2]
        have wq : IntKind.i64.wrap ((j : Int) + ((r : Int) - p)) = ((j + (r - p) : Nat) : Int) := (IntWalk.i64_in _ (by omega)).trans (by omega)
        have hlt : j + (r - p) < L.length := by omega
        have HE := Lib.hid (show v = (L[j + (r - p)].toNat : Int) by
          rw [HV.out]
          unfold byt
          rw [if_neg (by omega), Int.toNat_natCast, parts_at k1 k2, if_neg (by omega), List.getElem?_eq_getElem hlt])
        generalize hx : L[j + (r - p)] = x at HE
        have hlt2 := Lib.hid hlt
        clear h1 h2 hjn
        go_enter Tryd.func54, Tryd.ntmps54
        go_wp2_with fail
        refine HF.out.mono ?_
        rintro e w1 ⟨rfl, hb1⟩
        obtain ⟨c0, c1, c2, _⟩ := (HK.out.on hb1).cells
        go_wp2_with fail
        refine (free_ck (HK.out.on hb1)).mono ?_
        rintro e w2 ⟨rfl, hb2⟩
        obtain ⟨m0, m1, m2, _⟩ := ((HK.out.on hb1).on hb2).cells
        have m3 := ((HK.out.on hb1).on hb2).byte (j + (r - p)) hlt
        rw [hx] at m3
        have hi1 : ((j + (r - p) : Nat) : Int) < (L.length : Int) := by omega
        generalize j + (r - p) = q at *
        go_wp2_with fail
        go_ret
        exact ⟨ret_int ((IntWalk.wrap64_in _ (by have := x.toNat_lt; omega)).trans HE.out.symm), bel_trans hb1 hb2⟩
      · have d2 : decide (p ≤ j) = false := by simpa using h2
        have hlt : j < L.length := by omega
        have HE := Lib.hid (show v = (L[j].toNat : Int) by
          rw [HV.out]
          unfold byt
          rw [if_neg (by omega), Int.toNat_natCast, parts_at k1 k2, if_pos (by omega), List.getElem?_eq_getElem hlt])
        generalize hx : L[j] = x at HE
        have hi1 : (j : Int) < (L.length : Int) := by omega
        clear h1 h2 hjn
        go_enter Tryd.func54, Tryd.ntmps54
        go_wp2_with fail
        refine HF.out.mono ?_
        rintro e w1 ⟨rfl, hb1⟩
        obtain ⟨c0, c1, c2, _⟩ := (HK.out.on hb1).cells
        have m3 := (HK.out.on hb1).byte j hlt
        rw [hx] at m3
        go_wp2_with fail
        go_ret
        exact ⟨ret_int ((IntWalk.wrap64_in _ (by have := x.toNat_lt; omega)).trans HE.out.symm), hb1⟩
set_option maxHeartbeats 400000 in
theorem text_nil (w : World) : Calls Tryd.prog 52 #[.pointer none] w fun e w' => e = .returned (str []) ∧ Below w.heap.size w w' := by
  go_enter Tryd.func52, Tryd.ntmps52
  go_wp2_with fail
  go_ret
  exact ⟨rfl, Below.refl _ _⟩
end Go.Proofs.YtdpjcbljeklhmaaDoor
