/-
  A buffer that was made within a call: what each function answers of it; what the statements' own first look answers.
-/
import Derived.Test.YtlobaokeagpefaaB16
namespace Go.Proofs.Ytlobaokeagpefaa
open Go.RowKit ObGap

/-- A buffer whose blocks were all made since w. -/
def Nb (w : World) (b mx : Nat) (s : Bs) (p : Nat) (wr : World) : Prop := (∃ F, Bu wr F b mx s p ∧ ∀ k, F k → w.heap.size ≤ k) ∧ Below w.heap.size w wr
section
variable {w wr w' : World} {b mx : Nat} {s : Bs} {p : Nat}
theorem Nb.on (h : Nb w b mx s p wr) (hb : Below wr.heap.size wr w') : Nb w b mx s p w' := by
  obtain ⟨⟨F, h1, h2⟩, h3⟩ := h
  exact ⟨⟨F, h1.on hb, h2⟩, bel_trans h3 hb⟩
theorem Nb.edt {F : Nat → Prop} {v : Value} {e : Ending} (h2 : ∀ k, F k → w.heap.size ≤ k) (h3 : Below w.heap.size w wr) (h : Edt F b mx s p wr v e w') : Nb w b mx s p w' := by
  obtain ⟨_, h4, h5⟩ := h
  refine ⟨⟨_, h4, fun k hk => ?_⟩, h3.trans (h5.below h2 h3.size)⟩
  rcases hk with h | h
  · exact h2 k h
  · exact Nat.le_trans h3.size h.1
theorem nb_new (h : Below w.heap.size w wr) (n : Nat) (h4 : 4 ≤ n) (h5 : n ≤ 4096) : Calls Try.prog 10 #[.int .i64 (n : Int)] wr fun e w' => e = .returned (.tuple #[ptr wr.heap.size, .int .i64 0]) ∧ Nb w wr.heap.size n [] 0 w' := by
  refine (bnew_bu n wr h4 h5).mono ?_
  rintro e w' ⟨rfl, h1, h2⟩
  exact ⟨rfl, ⟨_, h1, fun k hk => Nat.le_trans h.size hk.1⟩, bel_trans h h2⟩
theorem nb_insert (h : Nb w b mx s p wr) (i : Int) (x : Bs) (hx : x.length ≤ 2097152) : Calls Try.prog 21 #[ptr b, .int .i64 i, str x] wr fun e w' => e = .returned (.int .i64 (insE 1048576 s i x)) ∧ Nb w b mx (insS 1048576 s i x) (insP 1048576 s p i x) w' := by
  obtain ⟨⟨F, h1, h2⟩, h3⟩ := h
  refine (binsert_bu h1 i x hx).mono ?_
  intro e w' he
  exact ⟨he.1, Nb.edt h2 h3 he⟩
theorem nb_delete (h : Nb w b mx s p wr) (i n : Int) : Calls Try.prog 20 #[ptr b, .int .i64 i, .int .i64 n] wr fun e w' => e = .returned (.int .i64 (delE s i n)) ∧ Nb w b mx (delS s i n) (delP s p i n) w' := by
  obtain ⟨⟨F, h1, h2⟩, h3⟩ := h
  refine (bdelete_bu h1 i n).mono ?_
  intro e w' he
  exact ⟨he.1, Nb.edt h2 h3 he⟩
theorem nb_move (h : Nb w b mx s p wr) (i : Int) : Calls Try.prog 24 #[ptr b, .int .i64 i] wr fun e w' => e = .returned (.int .i64 (movE s i)) ∧ Nb w b mx s (movP s p i) w' := by
  obtain ⟨⟨F, h1, h2⟩, h3⟩ := h
  refine (bmove_bu h1 i).mono ?_
  intro e w' he
  exact ⟨he.1, Nb.edt h2 h3 he⟩
theorem nb_text (h : Nb w b mx s p wr) : Calls Try.prog 23 #[ptr b] wr fun e w' => e = .returned (str s) ∧ Nb w b mx s p w' := by
  obtain ⟨F, h1, h2⟩ := h.1
  refine (btext_bu h1).mono ?_
  rintro e w' ⟨rfl, hb⟩
  exact ⟨rfl, h.on hb⟩
theorem nb_len (h : Nb w b mx s p wr) : Calls Try.prog 19 #[ptr b] wr fun e w' => e = .returned (.int .i64 (s.length : Int)) ∧ Nb w b mx s p w' := by
  obtain ⟨F, h1, h2⟩ := h.1
  refine (blen_bu h1).mono ?_
  rintro e w' ⟨rfl, rfl⟩
  exact ⟨rfl, h⟩
theorem nb_place (h : Nb w b mx s p wr) : Calls Try.prog 26 #[ptr b] wr fun e w' => e = .returned (.int .i64 (p : Int)) ∧ Nb w b mx s p w' := by
  obtain ⟨F, h1, h2⟩ := h.1
  refine (bplace_bu h1).mono ?_
  rintro e w' ⟨rfl, rfl⟩
  exact ⟨rfl, h⟩
theorem nb_byte (h : Nb w b mx s p wr) (i : Int) : Calls Try.prog 16 #[ptr b, .int .i64 i] wr fun e w' => e = .returned (.int .i64 (byt s i)) ∧ Nb w b mx s p w' := by
  obtain ⟨F, h1, h2⟩ := h.1
  refine (bbyte_bu h1 i).mono ?_
  rintro e w' ⟨rfl, hb⟩
  exact ⟨rfl, h.on hb⟩
theorem nb_slice (h : Nb w b mx s p wr) (f t : Int) : Calls Try.prog 14 #[ptr b, .int .i64 f, .int .i64 t] wr fun e w' => e = .returned (.tuple #[str (slT s f t), .int .i64 (slE s f t)]) ∧ Nb w b mx s p w' := by
  obtain ⟨F, h1, h2⟩ := h.1
  refine (bslice_bu h1 f t).mono ?_
  rintro e w' ⟨rfl, hb⟩
  exact ⟨rfl, h.on hb⟩
theorem nb_sizes (h : Nb w b mx s p wr) : Calls Try.prog 22 #[ptr b] wr fun e w' => ∃ g T, e = .returned (.slice (some ⟨g, 0, none⟩) T.length T.length) ∧ w'.ownsRow wr.heap.size 3 1 (.slice (some ⟨g, 0, none⟩) T.length T.length) T.length (nums (T.map List.length)) ∧ Snd mx T ∧ T.flatten = s ∧ T.length ≤ 2097152 ∧ Nb w b mx s p w' := by
  obtain ⟨F, h1, h2⟩ := h.1
  refine (bsizes_bu h1).mono ?_
  rintro e w' ⟨g, T, rfl, _, h4, h5, h6, h7, hb⟩
  exact ⟨g, T, rfl, h4, h5, h6, h7, h.on hb⟩
end
set_option maxHeartbeats 4000000 in
set_option maxRecDepth 100000 in
theorem wakes_any (w : World) : Calls Try.prog 9 #[] w fun e w' => e = .returned (.bool true) ∧ Below w.heap.size w w' := by
  go_enter Try.func9, Try.ntmps9
  go_wp2_with fail
  refine (nb_new (Below.refl _ w) 4 (by omega) (by omega)).mono ?_
  rintro e w1 ⟨rfl, h1⟩
  have C1 := Lib.hid h1
  clear h1
  have H2 := nb_insert C1.out 0 [97, 98, 99, 100, 101, 102, 103] (by decide)
  rw [show insE 1048576 [] 0 [97, 98, 99, 100, 101, 102, 103] = 0 from rfl, show insS 1048576 [] 0 [97, 98, 99, 100, 101, 102, 103] = [97, 98, 99, 100, 101, 102, 103] from rfl, show insP 1048576 [] 0 0 [97, 98, 99, 100, 101, 102, 103] = 7 from rfl] at H2
  have G2 := Lib.hid H2
  clear H2
  go_wp2_with fail
  refine G2.out.mono ?_
  rintro e w2 ⟨rfl, h2⟩
  have C2 := Lib.hid h2
  clear h2 C1 G2
  have H3 := nb_delete C2.out 2 3
  rw [show delE [97, 98, 99, 100, 101, 102, 103] 2 3 = 0 from rfl, show delS [97, 98, 99, 100, 101, 102, 103] 2 3 = [97, 98, 102, 103] from rfl, show delP [97, 98, 99, 100, 101, 102, 103] 7 2 3 = 2 from rfl] at H3
  have G3 := Lib.hid H3
  clear H3
  go_wp2_with fail
  refine G3.out.mono ?_
  rintro e w3 ⟨rfl, h3⟩
  have C3 := Lib.hid h3
  clear h3 C2 G3
  have H4 := nb_insert C3.out 9 [120] (by decide)
  rw [show insE 1048576 [97, 98, 102, 103] 9 [120] = 2 from rfl, show insS 1048576 [97, 98, 102, 103] 9 [120] = [97, 98, 102, 103] from rfl, show insP 1048576 [97, 98, 102, 103] 2 9 [120] = 2 from rfl] at H4
  have G4 := Lib.hid H4
  clear H4
  go_wp2_with fail
  refine G4.out.mono ?_
  rintro e w4 ⟨rfl, h4⟩
  have C4 := Lib.hid h4
  clear h4 C3 G4
  have H5 := nb_slice C4.out 1 3
  rw [show slT [97, 98, 102, 103] 1 3 = [98, 102] from rfl, show slE [97, 98, 102, 103] 1 3 = 0 from rfl] at H5
  have G5 := Lib.hid H5
  clear H5
  go_wp2_with fail
  refine G5.out.mono ?_
  rintro e w5 ⟨rfl, h5⟩
  have C5 := Lib.hid h5
  clear h5 C4 G5
  have H6 := nb_text C5.out 
  have G6 := Lib.hid H6
  clear H6
  go_wp2_with fail
  refine G6.out.mono ?_
  rintro e w6 ⟨rfl, h6⟩
  have C6 := Lib.hid h6
  clear h6 C5 G6
  have H7 := nb_place C6.out 
  have G7 := Lib.hid H7
  clear H7
  go_wp2_with fail
  refine G7.out.mono ?_
  rintro e w7 ⟨rfl, h7⟩
  have C7 := Lib.hid h7
  clear h7 C6 G7
  have H8 := nb_len C7.out 
  rw [show ([97, 98, 102, 103] : Bs).length = 4 from rfl] at H8
  have G8 := Lib.hid H8
  clear H8
  go_wp2_with fail
  refine G8.out.mono ?_
  rintro e w8 ⟨rfl, h8⟩
  have C8 := Lib.hid h8
  clear h8 C7 G8
  have H9 := nb_byte C8.out 3
  rw [show byt [97, 98, 102, 103] 3 = 103 from rfl] at H9
  have G9 := Lib.hid H9
  clear H9
  go_wp2_with fail
  refine G9.out.mono ?_
  rintro e w9 ⟨rfl, h9⟩
  have C9 := Lib.hid h9
  clear h9 C8 G9
  have H10 := nb_byte C9.out 4
  rw [show byt [97, 98, 102, 103] 4 = -1 from rfl] at H10
  have G10 := Lib.hid H10
  clear H10
  go_wp2_with fail
  refine G10.out.mono ?_
  rintro e w10 ⟨rfl, h10⟩
  have C10 := Lib.hid h10
  clear h10 C9 G10
  go_wp2_with fail
  refine (nb_sizes C10.out).mono ?_
  rintro e w11 ⟨g, T, rfl, _, _, hT, _, h11⟩
  have C11 := Lib.hid h11
  have d1 : decide (0 < T.length) = true := decide_eq_true (by
    cases T with
    | nil => simp at hT
    | cons _ _ => simp)
  clear h11 C10 hT
  have H12 := nb_move C11.out 4
  rw [show movE [97, 98, 102, 103] 4 = 0 from rfl, show movP [97, 98, 102, 103] 2 4 = 4 from rfl] at H12
  have G12 := Lib.hid H12
  clear H12
  go_wp2_with fail
  refine G12.out.mono ?_
  rintro e w12 ⟨rfl, h12⟩
  have C12 := Lib.hid h12
  clear h12 C11 G12
  go_wp2_with fail
  go_ret
  exact ⟨rfl, C12.out.2⟩
end Go.Proofs.Ytlobaokeagpefaa
