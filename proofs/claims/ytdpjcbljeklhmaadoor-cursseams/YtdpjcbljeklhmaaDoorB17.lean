/-
  A buffer that was made within a call: what each function answers of it; what the statements' own first look answers.
-/
import Derived.Test.YtdpjcbljeklhmaaDoorB13
namespace Go.Proofs.YtdpjcbljeklhmaaDoor
open Go.RowKit ObGap

/-- A buffer whose blocks were all made since w. -/
def Nb (w : World) (b mx : Nat) (s : Bs) (p : Nat) (wr : World) : Prop := (∃ F, Bu wr F b mx s p ∧ ∀ k, F k → w.heap.size ≤ k) ∧ Below w.heap.size w wr
section
variable {w wr w' : World} {b mx : Nat} {s : Bs} {p : Nat}
theorem Nb.on (h : Nb w b mx s p wr) (hb : Below wr.heap.size wr w') : Nb w b mx s p w' := by
  obtain ⟨⟨F, h1, h2⟩, h3⟩ := h
  exact ⟨⟨F, h1.on hb, h2⟩, bel_trans h3 hb⟩
theorem Nb.edt {F : Nat → Prop} {v : Value} {e : Ending} (h2 : ∀ k, F k → w.heap.size ≤ k) (h3 : Below w.heap.size w wr) (h : Edt F b mx s p wr v e w') : Nb w b mx s p w' := by
  obtain ⟨_, h4, h5⟩ := h
  refine ⟨⟨_, h4, fun k hk => ?_⟩, h3.trans (h5.below h2 h3.size)⟩
  rcases hk with h | h
  · exact h2 k h
  · exact Nat.le_trans h3.size h.1
theorem nb_new (h : Below w.heap.size w wr) (n : Nat) (h4 : 4 ≤ n) (h5 : n ≤ 4096) : Calls Tryd.prog 32 #[.int .i64 (n : Int)] wr fun e w' => e = .returned (.tuple #[ptr wr.heap.size, .int .i64 0]) ∧ Nb w wr.heap.size n [] 0 w' := by
  refine (bnew_bu n wr h4 h5).mono ?_
  rintro e w' ⟨rfl, h1, h2⟩
  exact ⟨rfl, ⟨_, h1, fun k hk => Nat.le_trans h.size hk.1⟩, bel_trans h h2⟩
theorem nb_insert (h : Nb w b mx s p wr) (i : Int) (x : Bs) (hx : x.length ≤ 2097152) : Calls Tryd.prog 28 #[ptr b, .int .i64 i, str x] wr fun e w' => e = .returned (.int .i64 (insE 1048576 s i x)) ∧ Nb w b mx (insS 1048576 s i x) (insP 1048576 s p i x) w' := by
  obtain ⟨⟨F, h1, h2⟩, h3⟩ := h
  refine (binsert_bu h1 i x hx).mono ?_
  intro e w' he
  exact ⟨he.1, Nb.edt h2 h3 he⟩
theorem nb_delete (h : Nb w b mx s p wr) (i n : Int) : Calls Tryd.prog 31 #[ptr b, .int .i64 i, .int .i64 n] wr fun e w' => e = .returned (.int .i64 (delE s i n)) ∧ Nb w b mx (delS s i n) (delP s p i n) w' := by
  obtain ⟨⟨F, h1, h2⟩, h3⟩ := h
  refine (bdelete_bu h1 i n).mono ?_
  intro e w' he
  exact ⟨he.1, Nb.edt h2 h3 he⟩
theorem nb_move (h : Nb w b mx s p wr) (i : Int) : Calls Tryd.prog 29 #[ptr b, .int .i64 i] wr fun e w' => e = .returned (.int .i64 (movE s i)) ∧ Nb w b mx s (movP s p i) w' := by
  obtain ⟨⟨F, h1, h2⟩, h3⟩ := h
  refine (bmove_bu h1 i).mono ?_
  intro e w' he
  exact ⟨he.1, Nb.edt h2 h3 he⟩
theorem nb_text (h : Nb w b mx s p wr) : Calls Tryd.prog 11 #[ptr b] wr fun e w' => e = .returned (str s) ∧ Nb w b mx s p w' := by
  obtain ⟨F, h1, h2⟩ := h.1
  refine (btext_bu h1).mono ?_
  rintro e w' ⟨rfl, hb⟩
  exact ⟨rfl, h.on hb⟩
theorem nb_len (h : Nb w b mx s p wr) : Calls Tryd.prog 30 #[ptr b] wr fun e w' => e = .returned (.int .i64 (s.length : Int)) ∧ Nb w b mx s p w' := by
  obtain ⟨F, h1, h2⟩ := h.1
  refine (blen_bu h1).mono ?_
  rintro e w' ⟨rfl, rfl⟩
  exact ⟨rfl, h⟩
theorem nb_byte (h : Nb w b mx s p wr) (i : Int) : Calls Tryd.prog 35 #[ptr b, .int .i64 i] wr fun e w' => e = .returned (.int .i64 (byt s i)) ∧ Nb w b mx s p w' := by
  obtain ⟨F, h1, h2⟩ := h.1
  refine (bbyte_bu h1 i).mono ?_
  rintro e w' ⟨rfl, hb⟩
  exact ⟨rfl, h.on hb⟩
end
end Go.Proofs.YtdpjcbljeklhmaaDoor
