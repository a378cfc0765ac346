/-
  What does answers: true, where the chunk and the page's own text are of one size, one text and one place; and they stay so. Condition: no block of the one is one of the other's.
-/
import Derived.Test.YtjciadimeejmjaaW11
namespace Go.Proofs.Ytjciadimeejmjaa
open Go.RowKit ObGap

/-- All but three blocks stay. -/
structure Ex3 (c g t : Nat) (w w' : World) : Prop where
  os : w'.os = w.os
  tape : w'.tape = w.tape
  output : w'.output = w.output
  size : w.heap.size ≤ w'.heap.size
  block : ∀ k, k < w.heap.size → k ≠ c → k ≠ g → k ≠ t → w'.heap[k]? = w.heap[k]?
theorem Ex3.of {c g t : Nat} {w w' : World} (h : Below w.heap.size w w') : Ex3 c g t w w' := ⟨h.os, h.tape, h.output, h.size, fun k hk _ _ _ => h.block k hk⟩
theorem Ex3.ofC {c g t : Nat} {w w' : World} (h : Ex c g w w') : Ex3 c g t w w' := ⟨h.os, h.tape, h.output, h.size, fun k hk h1 h2 _ => h.block k hk h1 h2⟩
theorem Ex3.ofT {c g t : Nat} {w w' : World} (h : Ex t t w w') : Ex3 c g t w w' := ⟨h.os, h.tape, h.output, h.size, fun k hk _ _ h3 => h.block k hk h3 h3⟩
theorem Ex3.trans {c g t : Nat} {a b d : World} (h : Ex3 c g t a b) (k : Ex3 c g t b d) : Ex3 c g t a d :=
  ⟨k.os.trans h.os, k.tape.trans h.tape, k.output.trans h.output, Nat.le_trans h.size k.size, fun i hi h1 h2 h3 => (k.block i (by have := h.size; omega) h1 h2 h3).trans (h.block i hi h1 h2 h3)⟩
theorem Ex3.below {B c g t : Nat} {w w' : World} (h : Ex3 c g t w w') (hB : B ≤ w.heap.size) (hc : B ≤ c) (hg : B ≤ g) (ht : B ≤ t) : Below B w w' :=
  ⟨h.os, h.tape, h.output, h.size, fun k hk => h.block k (by omega) (by omega) (by omega) (by omega)⟩
/-- The chunk and the page's own text are one behind it, and all else stays. -/
def Did (c g t mx : Nat) (w w' : World) : Prop := (∃ s p, Chk w' c g mx s p ∧ Tx w' t mx s p) ∧ Ex3 c g t w w'
abbrev edv (x : Ed) : Value := .agg #[.int .i64 x.k, .int .i64 x.a, .int .i64 x.n, str x.s]
theorem boxed (w : World) (k a n : Int) (s : Bs) : EdAt (w.alloc (.cells #[.int .i64 k, .int .i64 a, .int .i64 n, str s] 34)) w.heap.size 0 ⟨k, a, n, s⟩ := by
  have h := heap_new w (.cells #[.int .i64 k, .int .i64 a, .int .i64 n, str s] 34)
  refine ⟨?_, ?_, ?_, ?_⟩ <;> (simp only [World.cell?, h]; rfl)
theorem EdAt.ex {W W' : World} {b o c g : Nat} {x : Ed} (h : EdAt W b o x) (hx : Ex c g W W') (hl : b < W.heap.size) (h1 : b ≠ c) (h2 : b ≠ g) : EdAt W' b o x := h.keep (hx.block _ hl h1 h2)
theorem EdAt.drew {W : World} {b o : Nat} {x : Ed} (h : EdAt W b o x) : EdAt W.drew b o x := h
theorem alloc_below (w : World) (o : Obj) : Below w.heap.size w (w.alloc o) := (Below.refl _ _).alloc (Nat.le_refl _) _
theorem wi4 (k : Int) : wi k 4 = 0 ∨ wi k 4 = 1 ∨ wi k 4 = 2 ∨ wi k 4 = 3 := by have := wi_in k 4 (by omega); omega
theorem did_of {c g t mx : Nat} {w w1 w3 w4 : World} {s : Bs} {p : Nat} (hb : Below w.heap.size w w1) (hx : Ex c g w1 w3) (hy : Ex t t w3 w4) (hc : Chk w3 c g mx s p) (h1 : t ≠ c) (h2 : t ≠ g) (ht : Tx w4 t mx s p) : Did c g t mx w w4 :=
  ⟨⟨s, p, hc.past hy (Ne.symm h1) (Ne.symm h1) (Ne.symm h2) (Ne.symm h2), ht⟩, ((Ex3.of hb).trans (Ex3.ofC hx)).trans (Ex3.ofT hy)⟩
set_option maxHeartbeats 1000000 in
theorem does_any {w : World} {c g t mx : Nat} {s : Bs} {p : Nat} (hc : Chk w c g mx s p) (ht : Tx w t mx s p) (h1 : t ≠ c) (h2 : t ≠ g) (x : Ed) : Calls Try.prog 11 #[ptr c, ptr t, edv x] w fun e w' => e = .returned (.bool true) ∧ Did c g t mx w w' := by
  obtain ⟨k, a, n, z⟩ := x
  have HBX := Lib.hid (boxed w k a n z)
  have HBL := Lib.hid (alloc_below w (.cells #[.int .i64 k, .int .i64 a, .int .i64 n, str z] 34))
  have HW := Lib.hid (within_any k 4 (by omega) (by omega))
  have HN := Lib.hid (show w.heap.size ≠ c ∧ w.heap.size ≠ g ∧ w.heap.size ≠ t from ⟨by have := hc.lt; omega, by have := hc.lt; omega, by have := ht.lt; omega⟩)
  have HC := Lib.hid (hc.on HBL.out)
  have HT := Lib.hid (ht.on HBL.out)
  have H12 := Lib.hid (And.intro h1 h2)
  have hk := wi4 k
  generalize wi k 4 = kk at HW hk
  clear hc ht h1 h2
  obtain ⟨W, hW⟩ : ∃ W, W = w.alloc (.cells #[.int .i64 k, .int .i64 a, .int .i64 n, str z] 34) := ⟨_, rfl⟩
  rw [← hW] at HBX HBL HC HT
  have HWE := Lib.hid hW
  have HLT := Lib.hid (show w.heap.size < W.drew.heap.size by rw [hW]; simp)
  clear hW
  rcases hk with rfl | rfl | rfl | rfl
  · go_enter Try.func11, Try.ntmps11
    go_wp2_with fail
    refine (HW.out _).mono ?_
    rintro e w2 ⟨rfl, rfl⟩
    rw [← HWE.out]
    obtain ⟨b0, b1, b2, b3⟩ := HBX.out
    simp only [Nat.zero_add] at b0 b1 b2 b3
    go_wp2_with fail
    go_region_held3 (fun V => V.cell? ⟨w.heap.size, 0, none⟩ = some (.int .i64 k) ∧ V.cell? ⟨w.heap.size, 1, none⟩ = some (.int .i64 a) ∧ V.cell? ⟨w.heap.size, 2, none⟩ = some (.int .i64 n) ∧ V.cell? ⟨w.heap.size, 3, none⟩ = some (str z)) (first | exact HBX.out | exact HBX.out.drew.ex hx3 HLT.out HN.out.1 HN.out.2.1 | exact (HBX.out.drew.ex hx3 HLT.out HN.out.1 HN.out.2.1).ex hx4 (Nat.lt_of_lt_of_le HLT.out hx3.size) HN.out.2.2 HN.out.2.2) (first
      | (go_at_call 17; refine (insert_chk (w := W.drew) HC.out a z).mono ?_; rintro e w3 ⟨rfl, hc3, hx3⟩)
      | (go_at_call 26; refine (rinsert_tx (Tx.past (w := W.drew) HT.out hx3 H12.out.1 H12.out.2) a z).mono ?_; rintro e w4 ⟨rfl, ht4, hx4⟩))
    all_goals (
      go_wp2_with fail
      go_ret
      exact ⟨rfl, did_of (w1 := W.drew) HBL.out.drew hx3 hx4 hc3 H12.out.1 H12.out.2 ht4⟩)
  · go_enter Try.func11, Try.ntmps11
    go_wp2_with fail
    refine (HW.out _).mono ?_
    rintro e w2 ⟨rfl, rfl⟩
    rw [← HWE.out]
    obtain ⟨b0, b1, b2, b3⟩ := HBX.out
    simp only [Nat.zero_add] at b0 b1 b2 b3
    go_wp2_with fail
    go_region_held3 (fun V => V.cell? ⟨w.heap.size, 0, none⟩ = some (.int .i64 k) ∧ V.cell? ⟨w.heap.size, 1, none⟩ = some (.int .i64 a) ∧ V.cell? ⟨w.heap.size, 2, none⟩ = some (.int .i64 n) ∧ V.cell? ⟨w.heap.size, 3, none⟩ = some (str z)) (first | exact HBX.out | exact HBX.out.drew.ex hx3 HLT.out HN.out.1 HN.out.2.1 | exact (HBX.out.drew.ex hx3 HLT.out HN.out.1 HN.out.2.1).ex hx4 (Nat.lt_of_lt_of_le HLT.out hx3.size) HN.out.2.2 HN.out.2.2) (first
      | (go_at_call 18; refine (delete_chk (w := W.drew) HC.out a n).mono ?_; rintro e w3 ⟨rfl, hc3, hx3⟩)
      | (go_at_call 27; refine (rdelete_tx (Tx.past (w := W.drew) HT.out hx3 H12.out.1 H12.out.2) a n).mono ?_; rintro e w4 ⟨rfl, ht4, hx4⟩))
    all_goals (
      go_wp2_with fail
      go_ret
      exact ⟨rfl, did_of (w1 := W.drew) HBL.out.drew hx3 hx4 hc3 H12.out.1 H12.out.2 ht4⟩)
  · go_enter Try.func11, Try.ntmps11
    go_wp2_with fail
    refine (HW.out _).mono ?_
    rintro e w2 ⟨rfl, rfl⟩
    rw [← HWE.out]
    obtain ⟨b0, b1, b2, b3⟩ := HBX.out
    simp only [Nat.zero_add] at b0 b1 b2 b3
    go_wp2_with fail
    go_region_held3 (fun V => V.cell? ⟨w.heap.size, 0, none⟩ = some (.int .i64 k) ∧ V.cell? ⟨w.heap.size, 1, none⟩ = some (.int .i64 a) ∧ V.cell? ⟨w.heap.size, 2, none⟩ = some (.int .i64 n) ∧ V.cell? ⟨w.heap.size, 3, none⟩ = some (str z)) (first | exact HBX.out | exact HBX.out.drew.ex hx3 HLT.out HN.out.1 HN.out.2.1 | exact (HBX.out.drew.ex hx3 HLT.out HN.out.1 HN.out.2.1).ex hx4 (Nat.lt_of_lt_of_le HLT.out hx3.size) HN.out.2.2 HN.out.2.2) (first
      | (go_at_call 15; refine (move_chk (w := W.drew) HC.out a).mono ?_; rintro e w3 ⟨rfl, hc3, hx3⟩)
      | (go_at_call 28; refine (rmove_tx (Tx.past (w := W.drew) HT.out hx3 H12.out.1 H12.out.2) a).mono ?_; rintro e w4 ⟨rfl, ht4, hx4⟩))
    all_goals (
      go_wp2_with fail
      go_ret
      exact ⟨rfl, did_of (w1 := W.drew) HBL.out.drew hx3 hx4 hc3 H12.out.1 H12.out.2 ht4⟩)
  · go_enter Try.func11, Try.ntmps11
    go_wp2_with fail
    refine (HW.out _).mono ?_
    rintro e w2 ⟨rfl, rfl⟩
    rw [← HWE.out]
    obtain ⟨b0, b1, b2, b3⟩ := HBX.out
    simp only [Nat.zero_add] at b0 b1 b2 b3
    go_wp2_with fail
    refine (cut_chk HC.out a).mono ?_
    rintro e w3 ⟨rfl, hc3, hx3⟩
    have HX3 := Lib.hid hx3
    have HC3 := Lib.hid hc3
    obtain ⟨b0, b1, b2, b3⟩ := HBX.out.ex hx3 HLT.out HN.out.1 HN.out.2.1
    simp only [Nat.zero_add] at b0 b1 b2 b3
    clear hx3 hc3
    go_wp2_with fail
    refine (rcut_tx (HT.out.past HX3.out H12.out.1 H12.out.2) a).mono ?_
    rintro e w4 ⟨rfl, ht4, hx4⟩
    have HT4 := Lib.hid ht4
    have HX4 := Lib.hid hx4
    clear ht4 hx4
    go_wp2_with fail
    go_ret
    exact ⟨rfl, did_of HBL.out HX3.out HX4.out HC3.out H12.out.1 H12.out.2 HT4.out⟩
end Go.Proofs.Ytjciadimeejmjaa
