/-
  What New, Len, Place and the small helpers start, with, refuse, room of a buffer answer; and what slices.BinarySearch answers of a rising row of ints. Conditions: those of the buffer's invariant.
-/
import Derived.Test.YtdpjcbljeklhmaaDoorBMem
import Derived.Deep.LoopGhost
namespace Go.Proofs.YtdpjcbljeklhmaaDoor
open Go.RowKit ObGap

set_option maxHeartbeats 400000 in
theorem bnew_not (n : Int) (w : World) (h : n < 4 ∨ 4096 < n) : Calls Tryd.prog 32 #[.int .i64 n] w fun e w' => e = .returned (.tuple #[.pointer none, .int .i64 3]) ∧ Below w.heap.size w w' := by
  by_cases h1 : n < 4
  · have d1 : decide (n < 4) = true := by simp [h1]
    clear h
    go_enter Tryd.func32, Tryd.ntmps32
    go_wp2_with fail
    go_ret2
    exact ⟨rfl, Below.refl _ _⟩
  · have d1 : decide (n < 4) = false := by simpa using h1
    have d2 : decide (4096 < n) = true := by simp; omega
    clear h h1
    go_enter Tryd.func32, Tryd.ntmps32
    go_wp2_with fail
    go_ret2
    exact ⟨rfl, Below.refl _ _⟩
/-- The blocks that a world has beyond another one. -/
def New (w w' : World) (k : Nat) : Prop := w.heap.size ≤ k ∧ k < w'.heap.size
theorem made_bu (w : World) (n : Nat) (h4 : 4 ≤ n) (h5 : n ≤ 4096) : Bu (w.alloc (.cells #[.int .i64 (n : Int), .slice none 0 0, .slice none 0 0, .int .i64 0] 69)) (New w (w.alloc (.cells #[.int .i64 (n : Int), .slice none 0 0, .slice none 0 0, .int .i64 0] 69))) w.heap.size n [] 0 :=
  ⟨.slice none 0 0, [], .slice none 0 0, ⟨heap_new _ _, World.ownsRow_nil _ _ _ _, World.ownsRow_nil _ _ _ _, ⟨Nat.le_refl _, by simp⟩, (fun g hg => by cases hg), (fun g hg => by cases hg), h4, h5, by simp, by simp [ends]⟩,
    Chs.nil _ _ _, fun k hk => hk.2, rfl, ⟨by simp, trivial⟩, by simp, by simp⟩
set_option maxHeartbeats 400000 in
theorem bnew_bu (n : Nat) (w : World) (h4 : 4 ≤ n) (h5 : n ≤ 4096) : Calls Tryd.prog 32 #[.int .i64 (n : Int)] w fun e w' => e = .returned (.tuple #[ptr w.heap.size, .int .i64 0]) ∧ Bu w' (New w w') w.heap.size n [] 0 ∧ Below w.heap.size w w' := by
  have d1 : decide ((n : Int) < 4) = false := by simp; omega
  have d2 : decide (4096 < (n : Int)) = false := by simp; omega
  have H := Lib.hid (made_bu w n h4 h5)
  clear h4 h5
  go_enter Tryd.func32, Tryd.ntmps32
  go_wp2_with fail
  go_ret2
  exact ⟨rfl, H.out, (Below.refl _ _).alloc (Nat.le_refl _) _⟩

section
variable {w : World} {F : Nat → Prop} {b mx : Nat} {V U : Value} {cs E : List Nat} {p : Nat}
set_option maxHeartbeats 400000 in
theorem start_bx (h : Bx w F b mx V cs U E p) (i : Nat) (hi : i ≤ E.length) : Calls Tryd.prog 46 #[ptr b, .int .i64 (i : Int)] w fun e w' => e = .returned (.int .i64 (stE E i : Nat)) ∧ w = w' := by
  have hel := h.el
  by_cases h0 : i = 0
  · subst h0
    go_enter Tryd.func46, Tryd.ntmps46
    go_wp2_with fail
    go_ret
    exact ⟨ret_int (by simp [stE]), rfl⟩
  · obtain ⟨c0, c1, c2, c3, _⟩ := h.cells
    obtain ⟨A, cap, rfl, k1, k2, k3, k4⟩ := own_see h.en
    rcases k4 with ⟨_, _, k5⟩ | ⟨g, rfl, _, k5, _, k6⟩
    · omega
    · have HE := Lib.hid (show stE E i = E[i - 1] by unfold stE; rw [if_neg h0]; simp [show i - 1 < E.length by omega])
      have m3 := k6 (i - 1) (.int .i64 (E[i - 1] : Int)) (by simp [show i - 1 < E.length by omega])
      generalize hx : E[i - 1] = x at *
      have hz : ((i : Int) == 0) = false := by simp; omega
      have hz2 : ¬ (i : Int) = 0 := by omega
      have wq : IntKind.i64.wrap ((i : Int) - 1) = ((i - 1 : Nat) : Int) := (IntWalk.i64_in _ (by omega)).trans (by omega)
      have e1 : (i : Int) - 1 = ((i - 1 : Nat) : Int) := by omega
      have i1 : ((i - 1 : Nat) : Int) < (E.length : Int) := by omega
      obtain ⟨j, hj⟩ : ∃ j, j = i - 1 := ⟨_, rfl⟩
      rw [← hj] at *
      clear hx h k6 k3 c0 c1 c3
      clear hj
      go_enter Tryd.func46, Tryd.ntmps46
      go_wp2_with fail
      go_ret
      exact ⟨ret_int (by rw [HE.out]), rfl⟩
end
section
variable {w : World} {F : Nat → Prop} {b mx : Nat} {V U : Value} {cs E : List Nat} {p : Nat}
set_option maxHeartbeats 400000 in
theorem blen_bx (h : Bx w F b mx V cs U E p) (hl : cs.length ≤ E.length) : Calls Tryd.prog 30 #[ptr b] w fun e w' => e = .returned (.int .i64 (stE E cs.length : Nat)) ∧ w = w' := by
  have HS := Lib.hid (start_bx h cs.length hl)
  obtain ⟨c0, c1, c2, c3, _⟩ := h.cells
  obtain ⟨A, cap, rfl, k1, k2, k3, k4⟩ := own_see h.row
  clear h k4 k3
  go_enter Tryd.func30, Tryd.ntmps30
  go_wp2_with fail
  refine HS.out.mono ?_
  rintro e w' ⟨rfl, rfl⟩
  go_wp2_with fail
  go_ret
  exact ⟨rfl, rfl⟩
set_option maxHeartbeats 400000 in
theorem brefuse_bx (h : Bx w F b mx V cs U E p) (hl : cs.length ≤ E.length) (s : Bs) (hs : stE E cs.length = s.length) (i : Int) : Calls Tryd.prog 43 #[ptr b, .int .i64 i] w fun e w' => e = .returned (.int .i64 (movE s i)) ∧ w = w' := by
  have HF := blen_bx h hl
  rw [hs] at HF
  have HF2 := Lib.hid HF
  obtain ⟨v, hv⟩ : ∃ v, v = movE s i := ⟨_, rfl⟩
  rw [← hv]
  unfold movE out at hv
  have HV := Lib.hid hv
  clear h hv HF hs hl
  by_cases h0 : i < 0
  · have d0 : decide (i < 0) = true := by simp [h0]
    go_enter Tryd.func43, Tryd.ntmps43
    go_wp2_with fail
    go_ret
    exact ⟨ret_int (by rw [HV.out]; simp [d0]), rfl⟩
  · have d0 : decide (i < 0) = false := by simpa using h0
    clear h0
    by_cases h1 : (s.length : Int) < i
    · have d1 : decide ((s.length : Int) < i) = true := by simp [h1]
      go_enter Tryd.func43, Tryd.ntmps43
      go_wp2_with fail
      refine HF2.out.mono ?_
      rintro e w1 ⟨rfl, rfl⟩
      go_wp2_with fail
      go_ret
      exact ⟨ret_int (by rw [HV.out]; simp [d1]), rfl⟩
    · have d1 : decide ((s.length : Int) < i) = false := by simpa using h1
      clear h1
      go_enter Tryd.func43, Tryd.ntmps43
      go_wp2_with fail
      refine HF2.out.mono ?_
      rintro e w1 ⟨rfl, rfl⟩
      go_wp2_with fail
      go_ret
      exact ⟨ret_int (by rw [HV.out, d0, d1]; rfl), rfl⟩
set_option maxHeartbeats 400000 in
theorem broom_bx (h : Bx w F b mx V cs U E p) (hl : cs.length ≤ E.length) (n : Nat) (hs : stE E cs.length = n) (hn : n ≤ 1048576) : Calls Tryd.prog 44 #[ptr b] w fun e w' => e = .returned (.int .i64 (1048576 - (n : Int))) ∧ w = w' := by
  have HF := blen_bx h hl
  rw [hs] at HF
  have HF2 := Lib.hid HF
  obtain ⟨c0, c1, c2, c3, _⟩ := h.cells
  have h4 := h.h4
  have h5 := h.h5
  have hz : ((mx : Int) == 0) = false := by simp; omega
  have hz2 : ¬ (mx : Int) = 0 := by omega
  have hz3 : ¬ mx = 0 := by omega
  clear h HF hs hl
  go_enter Tryd.func44, Tryd.ntmps44
  go_wp2_with fail
  refine HF2.out.mono ?_
  rintro e w1 ⟨rfl, rfl⟩
  go_wp2_with fail
  go_ret
  exact ⟨rfl, rfl⟩
end
set_option maxHeartbeats 400000 in
theorem isnan_a (x : Int) (w : World) : Calls Tryd.prog 82 #[.int .i64 x] w fun e w' => e = .returned (.bool false) ∧ w = w' := by
  go_enter Tryd.func82, Tryd.ntmps82
  go_wp2_with fail
  go_ret
  exact ⟨by simp, rfl⟩
set_option maxHeartbeats 400000 in
theorem isnan_b (x : Int) (w : World) : Calls Tryd.prog 80 #[.int .i64 x] w fun e w' => e = .returned (.bool false) ∧ w = w' := by
  go_enter Tryd.func80, Tryd.ntmps80
  go_wp2_with fail
  go_ret
  exact ⟨by simp, rfl⟩
set_option maxHeartbeats 400000 in
theorem less_any (x y : Int) (w : World) : Calls Tryd.prog 79 #[.int .i64 x, .int .i64 y] w fun e w' => e = .returned (.bool (decide (x < y))) ∧ w = w' := by
  go_enter Tryd.func79, Tryd.ntmps79
  go_wp2_with (go_at_call 82; refine (isnan_a _ _).mono ?_; rintro e w' ⟨rfl, rfl⟩)
  go_ret
  exact ⟨by simp, rfl⟩
/-- Where a place is found in a rising row: all ahead are less, all from there on are not. -/
def Fnd (E : List Nat) (x i : Nat) : Prop := i ≤ E.length ∧ (∀ j, j < i → E.getD j 0 < x) ∧ (∀ j, i ≤ j → j < E.length → x ≤ E.getD j 0)
def Found (E : List Nat) (x : Nat) (w : World) (e : Ending) (w' : World) : Prop := ∃ (i : Nat) (f : Bool), e = .returned (.tuple #[.int .i64 (i : Int), .bool f]) ∧ Fnd E x i ∧ w = w'
set_option maxHeartbeats 1000000 in
theorem search_any {w : World} {U : Value} {E : List Nat} (h : w.ownsRow 0 3 1 U E.length (nums E)) (hel : E.length ≤ 2097152) (hr : ∀ i j, i ≤ j → j < E.length → E.getD i 0 ≤ E.getD j 0) (x : Nat) :
    Calls Tryd.prog 65 #[U, .int .i64 (x : Int)] w (Found E x w) := by
  obtain ⟨A, cap, rfl, k1, k2, k3, k4⟩ := own_see h
  have HC := Lib.hid (show ∀ j, j < E.length → ∃ g, A = some ⟨g, 0, none⟩ ∧ w.cell? ⟨g, j, none⟩ = some (.int .i64 (E.getD j 0 : Nat)) from fun j hj => by
    rcases k4 with ⟨_, _, k5⟩ | ⟨g, rfl, _, _, _, k6⟩
    · omega
    · exact ⟨g, rfl, k6 j _ (by simp [hj])⟩)
  have HR := Lib.hid hr
  generalize hn : E.length = n at *
  have HN := Lib.hid hn
  clear k4 k3 h hr hn
  go_enter Tryd.func65, Tryd.ntmps65
  go_wp2_with fail
  go_loopg [7, 8] n (fun g s7 s8 wr => ∃ lo hi : Nat, s7 = .int .i64 lo ∧ s8 = .int .i64 hi ∧ lo ≤ hi ∧ hi ≤ n ∧ hi - lo ≤ g ∧ w = wr ∧ (∀ t, t < lo → E.getD t 0 < x) ∧ (∀ t, hi ≤ t → t < n → x ≤ E.getD t 0))
  case atStart => exact ⟨0, n, rfl, rfl, Nat.zero_le _, Nat.le_refl _, by omega, rfl, fun t ht => absurd ht (Nat.not_lt_zero _), fun t h1 h2 => by omega⟩
  case round =>
    obtain ⟨lo, hi, rfl, rfl, hlh, hin, hg, rfl, h1, h2⟩ := hrel
    have I := Lib.hid (show (∀ t, t < lo → E.getD t 0 < x) ∧ (∀ t, hi ≤ t → t < n → x ≤ E.getD t 0) from ⟨h1, h2⟩)
    clear h1 h2
    by_cases hlt : lo < hi
    · obtain ⟨g, rfl, cm⟩ := HC.out ((lo + hi) / 2) (by omega)
      generalize hy : E.getD ((lo + hi) / 2) 0 = y at cm
      have Y := Lib.hid hy
      clear hy
      have hm : (lo + hi) / 2 < n := by omega
      by_cases hyx : y < x
      · go_wp2_with (go_at_call 79; refine (less_any _ _ _).mono ?_; rintro e w' ⟨rfl, rfl⟩)
        go_roundg (hi - ((lo + hi) / 2 + 1))
        case measure => omega
        case rel =>
          refine ⟨(lo + hi) / 2 + 1, hi, by rw [show ((lo : Int) + (hi : Int)) / 2 + 1 = (((lo + hi) / 2 + 1 : Nat) : Int) by omega], rfl, by omega, hin, Nat.le_refl _, rfl, fun t ht => ?_, I.out.2⟩
          have := HR.out t ((lo + hi) / 2) (by omega) (by omega)
          rw [Y.out] at this
          omega
      · go_wp2_with (go_at_call 79; refine (less_any _ _ _).mono ?_; rintro e w' ⟨rfl, rfl⟩)
        go_roundg ((lo + hi) / 2 - lo)
        case measure => omega
        case rel =>
          refine ⟨lo, (lo + hi) / 2, rfl, by rw [show ((lo : Int) + (hi : Int)) / 2 = (((lo + hi) / 2 : Nat) : Int) by omega], by omega, by omega, Nat.le_refl _, rfl, I.out.1, fun t ht htn => ?_⟩
          have := HR.out ((lo + hi) / 2) t ht htn
          rw [Y.out] at this
          omega
    · have : hi = lo := by omega
      subst this
      have HF := Lib.hid (show Fnd E x hi from ⟨by rw [HN.out]; exact hin, I.out.1, by rw [HN.out]; exact I.out.2⟩)
      by_cases hn : hi < n
      · obtain ⟨g, rfl, cl⟩ := HC.out hi hn
        generalize hy : E.getD hi 0 = y at cl
        clear hy
        by_cases hyx : y = x
        · subst hyx
          go_wp2_with (go_at_call 80; refine (isnan_b _ _).mono ?_; rintro e w' ⟨rfl, rfl⟩)
          go_ret2
          exact ⟨_, _, rfl, HF.out, rfl⟩
        · have hyx2 : ¬ (y : Int) = (x : Int) := by omega
          go_wp2_with (go_at_call 80; refine (isnan_b _ _).mono ?_; rintro e w' ⟨rfl, rfl⟩)
          go_ret2
          exact ⟨_, _, rfl, HF.out, rfl⟩
      · go_wp2_with (go_at_call 80; refine (isnan_b _ _).mono ?_; rintro e w' ⟨rfl, rfl⟩)
        go_ret2
        exact ⟨_, _, rfl, HF.out, rfl⟩
theorem ends_rise (T : List Bs) : ∀ i j, i ≤ j → j < (ends T).length → (ends T).getD i 0 ≤ (ends T).getD j 0 := by
  intro i j hij hj
  rw [ends_len] at hj
  rw [List.getD_eq_getElem?_getD, List.getD_eq_getElem?_getD, ends_at hj, ends_at (by omega)]
  exact st_mono (by omega)
theorem Fnd.wth {T : List Bs} {a i : Nat} (h : Fnd (ends T) (a + 1) i) : Wth T a i := by
  obtain ⟨h1, h2, h3⟩ := h
  rw [ends_len] at h1 h3
  refine ⟨h1, ?_, fun hi => ?_⟩
  · rcases Nat.eq_zero_or_pos i with h0 | h0
    · subst h0; rw [st_zero]; omega
    · have := h2 (i - 1) (by omega)
      rw [List.getD_eq_getElem?_getD, ends_at (by omega), show i - 1 + 1 = i by omega] at this
      simp at this; omega
  · have := h3 i (Nat.le_refl _) hi
    rw [List.getD_eq_getElem?_getD, ends_at hi] at this
    simp at this; omega
def WithE (T : List Bs) (a : Nat) (w : World) (e : Ending) (w' : World) : Prop := ∃ i : Nat, e = .returned (.int .i64 (i : Int)) ∧ Wth T a i ∧ w = w'
section
variable {w : World} {F : Nat → Prop} {b mx : Nat} {V U : Value} {cs E : List Nat} {p : Nat}
set_option maxHeartbeats 400000 in
theorem with_bx (h : Bx w F b mx V cs U E p) {T : List Bs} (hE : E = ends T) (a : Nat) (ha : a ≤ 2097152) : Calls Tryd.prog 49 #[ptr b, .int .i64 (a : Int)] w (WithE T a w) := by
  have HS := Lib.hid (search_any h.en h.el (by rw [hE]; exact ends_rise T) (a + 1))
  have HE := Lib.hid hE
  obtain ⟨c0, c1, c2, c3, _⟩ := h.cells
  obtain ⟨A, cap, rfl, k1, k2, k3, k4⟩ := own_see h.en
  clear h k4 k3 hE
  go_enter Tryd.func49, Tryd.ntmps49
  go_wp2_with fail
  refine HS.out.mono ?_
  rintro e w' ⟨i, f, rfl, hf, rfl⟩
  have HF := Lib.hid hf
  clear hf
  go_wp2_with fail
  go_ret
  exact ⟨i, rfl, Fnd.wth (by rw [← HE.out]; exact HF.out), rfl⟩
end
end Go.Proofs.YtdpjcbljeklhmaaDoor
