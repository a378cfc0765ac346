/-
  What Len, Place, Text, Slice and Byte of a buffer answer, for every buffer as New and the edits leave it, and for none; what the page's own Slice answers.
-/
import Derived.Test.YtdpjcbljeklhmaaDoorB2
namespace Go.Proofs.YtdpjcbljeklhmaaDoor
open Go.RowKit ObGap

/-- A piece of a text: is there none? -/
def slB (s : Bs) (f t : Int) : Bool := decide (f < 0) || decide (t < f) || decide ((s.length : Int) < t)
def slE (s : Bs) (f t : Int) : Int := if slB s f t = true then 2 else 0
def slT (s : Bs) (f t : Int) : Bs := if slB s f t = true then [] else (s.take t.toNat).drop f.toNat
theorem ret_two {a b : Bs} {x y : Int} (h : a = b) (k : x = y) : Ending.returned (.tuple #[.string ⟨⟨a⟩⟩, .int .i64 x]) = .returned (.tuple #[.string ⟨⟨b⟩⟩, .int .i64 y]) := by rw [h, k]
/-- The three tests of a piece. -/
theorem sl_cases (s : Bs) (f t : Int) : (slB s f t = true ∧ (decide (f < 0) = true ∨ (decide (f < 0) = false ∧ decide (t < f) = true) ∨ (decide (f < 0) = false ∧ decide (t < f) = false ∧ decide ((s.length : Int) < t) = true))) ∨
    (slB s f t = false ∧ ∃ a b : Nat, f = a ∧ t = b ∧ a ≤ b ∧ b ≤ s.length) := by
  unfold slB
  cases h1 : decide (f < 0)
  · cases h2 : decide (t < f)
    · cases h3 : decide ((s.length : Int) < t)
      · right
        simp at h1 h2 h3
        exact ⟨rfl, f.toNat, t.toNat, by omega, by omega, by omega, by omega⟩
      · left; exact ⟨rfl, .inr (.inr ⟨rfl, rfl, rfl⟩)⟩
    · left; exact ⟨rfl, .inr (.inl ⟨rfl, rfl⟩)⟩
  · left; exact ⟨rfl, .inl rfl⟩
theorem sl_no {s : Bs} {f t : Int} (h : slB s f t = true) : slE s f t = 2 ∧ slT s f t = [] := by unfold slE slT; rw [h]; simp
theorem sl_yes {s : Bs} {a b : Nat} (h : slB s a b = false) : slE s a b = 0 ∧ slT s a b = (s.take b).drop a := by unfold slE slT; rw [h]; simp

section
variable {w : World} {F : Nat → Prop} {b mx : Nat} {s : Bs} {p : Nat}
theorem blen_bu (h : Bu w F b mx s p) : Calls Tryd.prog 30 #[ptr b] w fun e w' => e = .returned (.int .i64 (s.length : Nat)) ∧ w = w' := by
  obtain ⟨V, qs, U, h1, h2, h3, h4, h5, h6, h7⟩ := h
  have := blen_bx h1 (by rw [ends_len]; simp)
  rw [List.length_map, stE_ends (by simp), show qs.length = (txs qs).length by simp, st_all, h4] at this
  exact this
theorem brefuse_bu (h : Bu w F b mx s p) (i : Int) : Calls Tryd.prog 43 #[ptr b, .int .i64 i] w fun e w' => e = .returned (.int .i64 (movE s i)) ∧ w = w' := by
  obtain ⟨V, qs, U, h1, h2, h3, h4, h5, h6, h7⟩ := h
  refine brefuse_bx h1 (by rw [ends_len]; simp) s ?_ i
  rw [List.length_map, stE_ends (by simp), show qs.length = (txs qs).length by simp, st_all, h4]
theorem broom_bu (h : Bu w F b mx s p) : Calls Tryd.prog 44 #[ptr b] w fun e w' => e = .returned (.int .i64 (1048576 - (s.length : Int))) ∧ w = w' := by
  obtain ⟨V, qs, U, h1, h2, h3, h4, h5, h6, h7⟩ := h
  refine broom_bx h1 (by rw [ends_len]; simp) s.length ?_ h6
  rw [List.length_map, stE_ends (by simp), show qs.length = (txs qs).length by simp, st_all, h4]
theorem piece_bu (h : Bu w F b mx s p) (f t : Nat) (hft : f ≤ t) (ht : t ≤ s.length) :
    Calls Tryd.prog 33 #[ptr b, .int .i64 (f : Int), .int .i64 (t : Int)] w fun e w' => e = .returned (str ((s.take t).drop f)) ∧ Below w.heap.size w w' := by
  obtain ⟨V, qs, U, h1, h2, h3, h4, h5, h6, h7⟩ := h
  subst h4
  exact piece_bx h1 h2 f t hft ht h6
set_option maxHeartbeats 400000 in
theorem btext_bu (h : Bu w F b mx s p) : Calls Tryd.prog 11 #[ptr b] w fun e w' => e = .returned (str s) ∧ Below w.heap.size w w' := by
  have HL := Lib.hid (blen_bu h)
  have HP := piece_bu h 0 s.length (Nat.zero_le _) (Nat.le_refl _)
  rw [List.take_length, List.drop_zero] at HP
  have HP2 := Lib.hid HP
  clear HP h
  go_enter Tryd.func11, Tryd.ntmps11
  go_wp2_with fail
  refine HL.out.mono ?_
  rintro e w1 ⟨rfl, rfl⟩
  go_wp2_with fail
  refine HP2.out.mono ?_
  rintro e w2 ⟨rfl, hb2⟩
  go_wp2_with fail
  go_ret
  exact ⟨rfl, hb2⟩
def CellsB (b r i : Nat) (V : Value) (c : Nat) (W : World) : Prop := W.cell? ⟨b, 1, none⟩ = some V ∧ W.cell? ⟨r, i, none⟩ = some (ptr c)
set_option maxHeartbeats 1000000 in
theorem bbyte_bu (h : Bu w F b mx s p) (i : Int) : Calls Tryd.prog 35 #[ptr b, .int .i64 i] w fun e w' => e = .returned (.int .i64 (byt s i)) ∧ Below w.heap.size w w' := by
  have HL := Lib.hid (blen_bu h)
  obtain ⟨v, hv⟩ : ∃ v, v = byt s i := ⟨_, rfl⟩
  rw [← hv]
  have HV := Lib.hid hv
  clear hv
  by_cases h0 : i < 0
  · have d0 : decide (i < 0) = true := by simp [h0]
    clear h
    go_enter Tryd.func35, Tryd.ntmps35
    go_wp2_with fail
    go_ret
    exact ⟨ret_int (by rw [HV.out]; simp [byt, h0]), Below.refl _ _⟩
  · have d0 : decide (i < 0) = false := by simpa using h0
    obtain ⟨a, rfl⟩ : ∃ a : Nat, i = a := ⟨i.toNat, by omega⟩
    clear h0
    by_cases h1 : s.length ≤ a
    · have d1 : decide (s.length ≤ a) = true := by simp [h1]
      clear h
      go_enter Tryd.func35, Tryd.ntmps35
      go_wp2_with fail
      refine HL.out.mono ?_
      rintro e w1 ⟨rfl, rfl⟩
      go_wp2_with fail
      go_ret
      exact ⟨ret_int (by
        rw [HV.out]
        unfold byt
        rw [if_neg (by omega), Int.toNat_natCast, List.getElem?_eq_none h1]), Below.refl _ _⟩
    · have d1 : decide (s.length ≤ a) = false := by simpa using h1
      obtain ⟨V, qs, U, hx, hc, h3, h4, h5, h6, h7⟩ := h
      have HW := Lib.hid (with_bx hx rfl a (by omega))
      have HX := Lib.hid hx
      have HC := Lib.hid hc
      have HS4 := Lib.hid h4
      clear hx hc h5 h3
      go_enter Tryd.func35, Tryd.ntmps35
      go_wp2_with fail
      refine HL.out.mono ?_
      rintro e w1 ⟨rfl, rfl⟩
      go_wp2_with fail
      refine HW.out.mono ?_
      rintro e w2 ⟨k, rfl, hk, rfl⟩
      have hkT : k < (txs qs).length := hk.in_ (by rw [HS4.out]; omega)
      have hkn : k < qs.length := by simpa using hkT
      have hkl := hk.2.1
      have hkh := hk.2.2 hkT
      rw [st_succ hkT] at hkh
      obtain ⟨c0, c1, c2, c3, _⟩ := HX.out.cells
      obtain ⟨A, cap, rfl, k1, k2, k3, k4⟩ := own_see HX.out.row
      rw [List.length_map] at *
      rcases k4 with ⟨_, _, k5⟩ | ⟨r, rfl, _, k5, _, k6⟩
      · omega
      have m3 := k6 k (ptr qs[k].c) (by simp [hkn])
      obtain ⟨_, _, q0, hck⟩ := HC.out.1 qs[k] (List.getElem_mem hkn)
      have HST := Lib.hid (show stE (ends (txs qs)) k = st (txs qs) k from stE_ends (by omega))
      have HSS := Lib.hid (show ∀ W, Below w.heap.size w W → Calls Tryd.prog 46 #[ptr b, .int .i64 (k : Int)] W fun e w' => e = .returned (.int .i64 (st (txs qs) k : Nat)) ∧ W = w' from fun W hb => by
        have hst := start_bx (HX.out.on hb) k (by rw [ends_len]; simp; omega)
        rw [HST.out] at hst
        exact hst)
      have hqs : (txs qs)[k] = qs[k].s := by simp
      rw [hqs] at hkh
      have HVE := Lib.hid (show v = byt qs[k].s ((a - st (txs qs) k : Nat) : Int) by
        rw [HV.out]
        unfold byt
        rw [if_neg (by omega), if_neg (by omega), Int.toNat_natCast, Int.toNat_natCast]
        have := flat_at (T := txs qs) (i := k) (by simpa using hkn) (k := a - st (txs qs) k) (by rw [hqs]; omega)
        rw [show st (txs qs) k + (a - st (txs qs) k) = a by omega, HS4.out, hqs] at this
        rw [this])
      have wq : IntKind.i64.wrap ((a : Int) - (st (txs qs) k : Nat)) = ((a - st (txs qs) k : Nat) : Int) := (IntWalk.i64_in _ (by omega)).trans (by omega)
      generalize hx : qs[k] = x at *
      obtain ⟨xc, xg, xs⟩ := x
      simp only at *
      generalize st (txs qs) k = z at *
      have HB := Lib.hid (fun W (hb : Below w.heap.size w W) => byte_chk (hck.on hb) ((a - z : Nat) : Int))
      have i1 : (k : Int) < (qs.length : Int) := by omega
      have HCK := Lib.hid (show ∀ W, Below w.heap.size w W → W.cell? ⟨b, 1, none⟩ = some (.slice (some ⟨r, 0, none⟩) qs.length cap) ∧ W.cell? ⟨r, k, none⟩ = some (ptr xc) from fun W hb => ⟨(hb.cell HX.out.lt).trans c1, (hb.cell k5).trans m3⟩)
      clear k6 k3 hk hck hqs hx h4
      go_wp2_with fail
      go_region_held3 (fun W => W.cell? ⟨b, 1, none⟩ = some (.slice (some ⟨r, 0, none⟩) qs.length cap) ∧ W.cell? ⟨r, k, none⟩ = some (ptr xc)) (first | exact HCK.out _ (Below.refl _ _).drew | exact HCK.out _ (undrew hb4)) (first
        | (go_at_call 46; refine (HSS.out _ (Below.refl _ _).drew).mono ?_; rintro e w3 ⟨rfl, rfl⟩)
        | (go_at_call 54; refine (HB.out _ (Below.refl _ _).drew).mono ?_; rintro e w4 ⟨rfl, hb4⟩))
      all_goals (
        go_wp2_with fail
        go_ret
        exact ⟨ret_int HVE.out.symm, undrew hb4⟩)
end
set_option maxHeartbeats 400000 in
theorem blen_nil (w : World) : Calls Tryd.prog 30 #[.pointer none] w fun e w' => e = .returned (.int .i64 0) ∧ Below w.heap.size w w' := by
  go_enter Tryd.func30, Tryd.ntmps30
  go_wp2_with fail
  go_ret
  exact ⟨rfl, Below.refl _ _⟩
set_option maxHeartbeats 400000 in
theorem btext_nil (w : World) : Calls Tryd.prog 11 #[.pointer none] w fun e w' => e = .returned (str []) ∧ Below w.heap.size w w' := by
  go_enter Tryd.func11, Tryd.ntmps11
  go_wp2_with fail
  go_ret
  exact ⟨rfl, Below.refl _ _⟩
set_option maxHeartbeats 400000 in
theorem bbyte_nil (i : Int) (w : World) : Calls Tryd.prog 35 #[.pointer none, .int .i64 i] w fun e w' => e = .returned (.int .i64 (-1)) ∧ Below w.heap.size w w' := by
  go_enter Tryd.func35, Tryd.ntmps35
  go_wp2_with fail
  go_ret
  exact ⟨rfl, Below.refl _ _⟩
set_option maxHeartbeats 400000 in
theorem brefuse_nil (i : Int) (w : World) : Calls Tryd.prog 43 #[.pointer none, .int .i64 i] w fun e w' => e = .returned (.int .i64 1) ∧ Below w.heap.size w w' := by
  go_enter Tryd.func43, Tryd.ntmps43
  go_wp2_with fail
  go_ret
  exact ⟨rfl, Below.refl _ _⟩
set_option maxHeartbeats 400000 in
theorem bmove_nil (i : Int) (w : World) : Calls Tryd.prog 29 #[.pointer none, .int .i64 i] w fun e w' => e = .returned (.int .i64 1) ∧ Below w.heap.size w w' := by
  go_enter Tryd.func29, Tryd.ntmps29
  go_wp2_with fail
  refine (brefuse_nil i w).mono ?_
  rintro e w1 ⟨rfl, hb1⟩
  go_wp2_with fail
  go_ret
  exact ⟨rfl, hb1⟩
set_option maxHeartbeats 400000 in
theorem binsert_nil (i : Int) (x : Bs) (w : World) : Calls Tryd.prog 28 #[.pointer none, .int .i64 i, str x] w fun e w' => e = .returned (.int .i64 1) ∧ Below w.heap.size w w' := by
  go_enter Tryd.func28, Tryd.ntmps28
  go_wp2_with fail
  refine (brefuse_nil i w).mono ?_
  rintro e w1 ⟨rfl, hb1⟩
  go_wp2_with fail
  go_ret
  exact ⟨rfl, hb1⟩
set_option maxHeartbeats 400000 in
theorem bdelete_nil (i n : Int) (w : World) : Calls Tryd.prog 31 #[.pointer none, .int .i64 i, .int .i64 n] w fun e w' => e = .returned (.int .i64 1) ∧ Below w.heap.size w w' := by
  go_enter Tryd.func31, Tryd.ntmps31
  go_wp2_with fail
  refine (brefuse_nil i w).mono ?_
  rintro e w1 ⟨rfl, hb1⟩
  go_wp2_with fail
  go_ret
  exact ⟨rfl, hb1⟩
end Go.Proofs.YtdpjcbljeklhmaaDoor
