/-
  A cursor in memory; what its small functions (tell, Place, Fetched), Next and Prev answer and leave. Conditions: those of the buffer's invariant; the cursor's block is none of the buffer's; for Prev: it stands at a boundary; the two tables of unicode/utf8 lie as their text lays them.
-/
import Derived.Test.YtdpjcbljeklhmaaDoorC1
namespace Go.Proofs.YtdpjcbljeklhmaaDoor
open Go.RowKit ObGap ObUtf

/-- The cursor's block: its buffer, its place, how many it has told. -/
def Cu (w : World) (c b at' n : Nat) : Prop := w.heap[c]? = some (.cells #[ptr b, .int .i64 (at' : Int), .int .i64 (n : Int)] 59 (0, 0))
theorem Cu.lt {w : World} {c b at' n : Nat} (h : Cu w c b at' n) : c < w.heap.size := lt_of_heap h
theorem Cu.on {w w' : World} {c b at' n : Nat} (h : Cu w c b at' n) (hb : Below w.heap.size w w') : Cu w' c b at' n := (hb.block _ h.lt).trans h
theorem Cu.cells {w : World} {c b at' n : Nat} (h : Cu w c b at' n) : w.cell? ⟨c, 0, none⟩ = some (ptr b) ∧ w.cell? ⟨c, 1, none⟩ = some (.int .i64 (at' : Int)) ∧ w.cell? ⟨c, 2, none⟩ = some (.int .i64 (n : Int)) ∧ (∀ i, w.frozen? ⟨c, i, none⟩ = false) := by
  have h1 : w.heap[c]? = _ := h
  refine ⟨by simp [World.cell?, h1], by simp [World.cell?, h1], by simp [World.cell?, h1], fun i => by simp [World.frozen?, h1]⟩
theorem Cu.put {w : World} {c b at' n : Nat} (h : Cu w c b at' n) (k : Nat) : Cu (w.setCell ⟨c, 1, none⟩ (.int .i64 (k : Int))) c b k n := by
  have hs := heap_set 1 (.int .i64 (k : Int)) h
  simpa [Cu] using hs
theorem Cu.count {w : World} {c b at' n : Nat} (h : Cu w c b at' n) (k : Nat) : Cu (w.setCell ⟨c, 2, none⟩ (.int .i64 (k : Int))) c b at' k := by
  have hs := heap_set 2 (.int .i64 (k : Int)) h
  simpa [Cu] using hs
theorem Bu.pastc {w w' : World} {F : Nat → Prop} {b mx : Nat} {s : Bs} {p c : Nat} (h : Bu w F b mx s p) (hx : Ex c c w w') (hc : ¬ F c) : Bu w' F b mx s p :=
  h.past (G := fun k => k = c) (G' := fun k => k = c) ⟨hx.os, hx.tape, hx.output, hx.size, fun k hk h1 => hx.block k hk h1 h1, fun _ h => .inl h⟩ (fun _ hk e => hc (e ▸ hk))

section
variable {w : World} {c b at' n : Nat}
set_option maxHeartbeats 400000 in
theorem tell_none (d x : Int) (hx : x < 0) (w : World) (c : Nat) : Calls Tryd.prog 36 #[ptr c, .int .i64 x, .int .i64 d] w fun e w' => e = .returned (.tuple #[.int .i64 0, .bool false]) ∧ w = w' := by
  have d0 : decide (x < 0) = true := by simp [hx]
  go_enter Tryd.func36, Tryd.ntmps36
  go_wp2_with fail
  go_ret2
  exact ⟨rfl, rfl⟩
set_option maxHeartbeats 400000 in
theorem tell_some (h : Cu w c b at' n) (x d : Int) (hx : 0 ≤ x) (k : Nat) (hk : (at' : Int) + d = k) (hk2 : k ≤ 1099511627776) (hn : n ≤ 1099511627776) :
    Calls Tryd.prog 36 #[ptr c, .int .i64 x, .int .i64 d] w fun e w' => e = .returned (.tuple #[.int .i64 x, .bool true]) ∧ Cu w' c b k (n + 1) ∧ Ex c c w w' := by
  have d0 : decide (x < 0) = false := decide_eq_false (by omega)
  obtain ⟨c0, c1, c2, c3⟩ := h.cells
  have f1 := c3 1
  have f2 := c3 2
  have wq : IntKind.i64.wrap ((at' : Int) + d) = (k : Int) := by rw [hk]; exact IntWalk.i64_in _ (by omega)
  have wn : IntKind.i64.wrap ((n : Int) + 1) = ((n + 1 : Nat) : Int) := by rw [show (n : Int) + 1 = ((n + 1 : Nat) : Int) by omega]; exact IntWalk.i64_in _ (by omega)
  have HX := Lib.hid h
  obtain ⟨m, hm⟩ : ∃ m, m = n + 1 := ⟨_, rfl⟩
  rw [← hm] at wn ⊢
  clear c3 hk hm h
  have g := (HX.out.put k).cells
  have g2 := g.2.2.1
  have g3 := g.2.2.2 2
  clear g
  go_enter Tryd.func36, Tryd.ntmps36
  go_wp2_with fail
  go_ret2
  exact ⟨rfl, (HX.out.put k).count m, ((Ex.refl c c w).setL 1 _).setL 2 _⟩
set_option maxHeartbeats 400000 in
theorem place_cu (h : Cu w c b at' n) : Calls Tryd.prog 20 #[ptr c] w fun e w' => e = .returned (.int .i64 (at' : Int)) ∧ w = w' := by
  obtain ⟨c0, c1, c2, c3⟩ := h.cells
  go_enter Tryd.func20, Tryd.ntmps20
  go_wp2_with fail
  go_ret
  exact ⟨rfl, rfl⟩
set_option maxHeartbeats 400000 in
theorem fetched_cu (h : Cu w c b at' n) : Calls Tryd.prog 21 #[ptr c] w fun e w' => e = .returned (.int .i64 (n : Int)) ∧ w = w' := by
  obtain ⟨c0, c1, c2, c3⟩ := h.cells
  go_enter Tryd.func21, Tryd.ntmps21
  go_wp2_with fail
  go_ret
  exact ⟨rfl, rfl⟩
end

section
variable {w : World} {F : Nat → Prop} {b mx : Nat} {s : Bs} {p c at' n : Nat}
theorem Ex.after {c : Nat} {w w1 w2 : World} (h : Below w.heap.size w w1) (k : Ex c c w1 w2) : Ex c c w w2 := (Ex.of h).trans k
theorem Cu.two {w W : World} {c b at' n : Nat} (h : Cu w c b at' n) (hb : Below w.heap.size w W) : W.cell? ⟨c, 0, none⟩ = some (ptr b) ∧ W.cell? ⟨c, 1, none⟩ = some (.int .i64 (at' : Int)) := ⟨(h.on hb).cells.1, (h.on hb).cells.2.1⟩
theorem window_ba (h : Bu w F b mx s p) (f : Int) (a t : Nat) (hf : max f 0 = (a : Int)) (hal : a ≤ s.length) (v : ByteArray) (hv : v = ba (win s a t)) :
    Calls Tryd.prog 38 #[ptr b, .int .i64 f, .int .i64 (t : Int)] w fun e w' => e = .returned (.string v) ∧ Below w.heap.size w w' := by rw [hv]; exact window_bu h f a t hf hal
set_option maxHeartbeats 1000000 in
set_option maxRecDepth 100000 in
theorem next_none (hB : Bu w F b mx s p) (hC : Cu w c b at' n) (hat : s.length ≤ at') : Calls Tryd.prog 16 #[ptr c] w fun e w' => e = .returned (.tuple #[.int .i64 0, .bool false]) ∧ Below w.heap.size w w' := by
  have HB := Lib.hid (fun W (hb : Below w.heap.size w W) => bbyte_bu (hB.on hb) (at' : Int))
  rw [byt_out (.inr (by omega))] at HB
  have HC := Lib.hid (fun W (hb : Below w.heap.size w W) => hC.two hb)
  clear hB hC
  go_enter Tryd.func16, Tryd.ntmps16
  go_wp2_with fail
  go_region_held3 (fun W => W.cell? ⟨c, 0, none⟩ = some (ptr b) ∧ W.cell? ⟨c, 1, none⟩ = some (.int .i64 (at' : Int))) (first | exact HC.out _ (Below.refl _ _).drew | exact HC.out _ (undrew hb1) | fail) (first
    | (go_at_call 35; refine (HB.out _ (Below.refl _ _).drew).mono ?_; rintro e w1 ⟨rfl, hb1⟩))
  all_goals (
    go_wp2_with (go_at_call 36; refine (tell_none _ _ (by omega) _ _).mono ?_; rintro e w2 ⟨rfl, rfl⟩)
    go_ret2
    exact ⟨rfl, undrew hb1⟩)
set_option maxHeartbeats 1000000 in
set_option maxRecDepth 100000 in
theorem next_some (hB : Bu w F b mx s p) (hC : Cu w c b at' n) (hT : U.Tb w) (hat : at' < s.length) (hn : n ≤ 1099511627776) :
    Calls Tryd.prog 16 #[ptr c] w fun e w' => e = .returned (.tuple #[.int .i64 (sy (ba s) at'), .bool true]) ∧ Cu w' c b (at' + wd (ba s) at') (n + 1) ∧ Ex c c w w' := by
  have HB := Lib.hid (fun W (hb : Below w.heap.size w W) => bbyte_bu (hB.on hb) (at' : Int))
  rw [byt_in hat] at HB
  have HC := Lib.hid (fun W (hb : Below w.heap.size w W) => hC.two hb)
  have HX := Lib.hid (fun W (hb : Below w.heap.size w W) => hC.on hb)
  have hl := hB.lens.1
  have hw4 := wd_le (ba s) at'
  by_cases hx : bt (ba s) at' < 128
  · obtain ⟨e1, e2⟩ := dec_low (s := ba s) (i := at') hat hx
    rw [e1, e2]
    have d0 : decide (bt (ba s) at' < 128) = true := by simp [hx]
    generalize bt (ba s) at' = x at *
    clear hB hC e1 e2
    go_enter Tryd.func16, Tryd.ntmps16
    go_wp2_with fail
    go_region_held3 (fun W => W.cell? ⟨c, 0, none⟩ = some (ptr b) ∧ W.cell? ⟨c, 1, none⟩ = some (.int .i64 (at' : Int))) (first | exact HC.out _ (Below.refl _ _).drew | exact HC.out _ (undrew hb1) | fail) (first
      | (go_at_call 35; refine (HB.out _ (Below.refl _ _).drew).mono ?_; rintro e w1 ⟨rfl, hb1⟩))
    all_goals (
      go_wp2_with (go_at_call 36; refine (tell_some (HX.out _ (undrew hb1)) _ _ (by omega) (at' + 1) (by omega) (by omega) hn).mono ?_; rintro e w2 ⟨rfl, hc2, hx2⟩)
      go_ret2
      exact ⟨rfl, hc2, (Ex.of (undrew hb1)).trans hx2⟩)
  · have d0 : decide (bt (ba s) at' < 128) = false := decide_eq_false (by omega)
    have hnw := next_win (s := s) (n := at') hat
    have hs := (sy_range (s := ba s) (i := at') hat).1
    obtain ⟨v, hv⟩ : ∃ v, v = ba (win s at' (at' + 4)) := ⟨_, rfl⟩
    rw [← hv] at hnw
    have HWn := Lib.hid (fun W (hb : Below w.heap.size w W) => window_ba (hB.on hb) (at' : Int) at' (at' + 4) (by omega) (by omega) v hv)
    have HA := Lib.hid (fun W (hb : Below w.heap.size w W) => U.at_any v 0 W (hT.below hb).1)
    rw [hnw.1, hnw.2] at HA
    clear hv
    have w4 : IntKind.i64.wrap ((at' : Int) + 4) = ((at' + 4 : Nat) : Int) := by rw [show (at' : Int) + 4 = ((at' + 4 : Nat) : Int) by omega]; exact IntWalk.i64_in _ (by omega)
    generalize bt (ba s) at' = x at *
    generalize sy (ba s) at' = y at *
    generalize wd (ba s) at' = d at *
    generalize at' + 4 = at4 at *
    clear hB hC hnw hT
    go_enter Tryd.func16, Tryd.ntmps16
    go_wp2_with fail
    go_region_held3 (fun W => W.cell? ⟨c, 0, none⟩ = some (ptr b) ∧ W.cell? ⟨c, 1, none⟩ = some (.int .i64 (at' : Int))) (first | exact HC.out _ (Below.refl _ _).drew | exact HC.out _ (undrew hb1) | fail) (first
      | (go_at_call 35; refine (HB.out _ (Below.refl _ _).drew).mono ?_; rintro e w1 ⟨rfl, hb1⟩))
    all_goals (
      go_wp2_with fail
      go_region_held3 (fun W => W.cell? ⟨c, 0, none⟩ = some (ptr b) ∧ W.cell? ⟨c, 1, none⟩ = some (.int .i64 (at' : Int))) (first | exact HC.out _ (undrew hb1).drew | exact HC.out _ (bel_trans (undrew hb1) (undrew hb3)) | exact HC.out _ (bel_trans (bel_trans (undrew hb1) (undrew hb3)) hb4) | fail) (first
        | (go_at_call 38; refine (HWn.out _ (undrew hb1).drew).mono ?_; rintro e w3 ⟨rfl, hb3⟩)
        | (go_at_call 37; refine (HA.out _ (bel_trans (undrew hb1) (undrew hb3))).mono ?_; rintro e w4 ⟨rfl, hb4⟩)))
    all_goals (
      go_wp2_with (go_at_call 36; refine (tell_some (HX.out _ (bel_trans (bel_trans (undrew hb1) (undrew hb3)) hb4)) _ _ (by omega) (at' + d) (by omega) (by omega) hn).mono ?_; rintro e w5 ⟨rfl, hc2, hx2⟩)
      go_ret2
      exact ⟨rfl, hc2, (Ex.of (bel_trans (bel_trans (undrew hb1) (undrew hb3)) hb4)).trans hx2⟩)
end
end Go.Proofs.YtdpjcbljeklhmaaDoor
