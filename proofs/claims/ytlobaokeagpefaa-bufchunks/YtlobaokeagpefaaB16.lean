/-
  What same and does answer: true, where the buffer and the page's own text are of one text and one place; and they stay so. A buffer that was made within a call; what the statements' own first look answers.
-/
import Derived.Test.YtlobaokeagpefaaB15
namespace Go.Proofs.Ytlobaokeagpefaa
open Go.RowKit ObGap

theorem Edt.from_ {F : Nat → Prop} {b mx : Nat} {s : Bs} {p : Nat} {w wr w' : World} {v : Value} {e : Ending} (h : Edt F b mx s p wr v e w') (hg : Gs F F w wr) (hF : ∀ k, F k → k < w.heap.size) : Edt F b mx s p w v e w' := by
  obtain ⟨h1, h2, h3⟩ := h
  have s1 := hg.size
  have s2 := h3.size
  refine ⟨h1, h2.mono (fun k hk => hk.imp id fun h => ⟨Nat.le_trans s1 h.1, h.2⟩) (fun k hk => hk.lt hF (Nat.le_trans s1 s2)), (hg.trans h3).to fun k hk => ?_⟩
  rcases hk with h | h
  · exact .inl (.inl h)
  · exact .inr h.1
/-- The cells of the page's own, behind what stays. -/
def TxS (w : World) (t mx : Nat) (s : Bs) (p : Nat) (W : World) : Prop := W.cell? ⟨t, 0, none⟩ = some (.int .i64 mx) ∧ W.cell? ⟨t, 1, none⟩ = some (str s) ∧ W.cell? ⟨t, 2, none⟩ = some (.int .i64 p) ∧ Below w.heap.size w W
theorem TxS.mk {w W : World} {t mx : Nat} {s : Bs} {p : Nat} (h : Tx w t mx s p) (hb : Below w.heap.size w W) : TxS w t mx s p W := ⟨(h.on hb).cells.1, (h.on hb).cells.2.1, (h.on hb).cells.2.2.1, hb⟩
theorem txs_below {w W : World} {A B C : Prop} (h : A ∧ B ∧ C ∧ Below w.heap.size w W) : Below w.heap.size w W := h.2.2.2
section
variable {w : World} {F : Nat → Prop} {b t mx : Nat} {s : Bs} {p : Nat}
set_option maxHeartbeats 1000000 in
theorem same_any {tm : Nat} (hc : Bu w F b mx s p) (ht : Tx w t tm s p) : Calls Try.prog 13 #[ptr b, ptr t] w fun e w' => e = .returned (.bool true) ∧ Below w.heap.size w w' := by
  have H1 := Lib.hid (fun W (hb : Below w.heap.size w W) => btext_bu (hc.on hb))
  have H2 := Lib.hid (fun W (hb : Below w.heap.size w W) => blen_bu (hc.on hb))
  have H3 := Lib.hid (fun W (hb : Below w.heap.size w W) => bplace_bu (hc.on hb))
  have HT := Lib.hid ht
  clear hc ht
  go_enter Try.func13, Try.ntmps13
  go_wp2_with fail
  go_region_held3 (fun W => W.cell? ⟨t, 0, none⟩ = some (.int .i64 tm) ∧ W.cell? ⟨t, 1, none⟩ = some (str s) ∧ W.cell? ⟨t, 2, none⟩ = some (.int .i64 p) ∧ Below w.heap.size w W) (first | assumption | exact TxS.mk HT.out (Below.refl _ _).drew | exact TxS.mk HT.out (bel_trans (txs_below (by assumption)) (by assumption))) (first
    | (go_at_call 23; (with_reducible refine (H1.out _ (txs_below (by assumption))).mono ?_); rintro e w3 ⟨rfl, hb3⟩)
    | (go_at_call 19; (with_reducible refine (H2.out _ (txs_below (by assumption))).mono ?_); rintro e w4 ⟨rfl, rfl⟩)
    | (go_at_call 26; (with_reducible refine (H3.out _ (txs_below (by assumption))).mono ?_); rintro e w5 ⟨rfl, rfl⟩))
  all_goals (
    go_wp2_with fail
    go_ret
    exact ⟨rfl, txs_below (by assumption)⟩)
/-- The buffer's blocks, and the page's own. -/
def Ft (F : Nat → Prop) (t : Nat) (k : Nat) : Prop := F k ∨ k = t
/-- The buffer and the page's own text are one behind it, and all else stays. -/
def Did (F : Nat → Prop) (b t mx : Nat) (w w' : World) : Prop := ∃ s p, Bu w' (Fn F w w') b mx s p ∧ Tx w' t 1048576 s p ∧ Gs (Ft F t) (Ft (Fn F w w') t) w w'
theorem not_fn {w w' : World} (h : ¬ F t) (hl : t < w.heap.size) : ¬ Fn F w w' t := fun hf => by
  rcases hf with h1 | h1
  · exact h h1
  · have := h1.1; omega
theorem did_of {w3 w4 : World} {v : Value} {e : Ending} (hd : Edt F b mx s p w v e w3) (hy : Ex t t w3 w4) (ht : Tx w4 t 1048576 s p) (hn : ¬ F t) (hl : t < w.heap.size) (hF : ∀ k, F k → k < w.heap.size) : Did F b t mx w w4 := by
  obtain ⟨_, h2, h3⟩ := hd
  have s1 := h3.size
  have s2 := hy.size
  have hg : Gs (fun k => k = t) (fun k => k = t) w3 w4 := Gs.ex hy rfl rfl
  refine ⟨s, p, (h2.past hg fun k hk e => ?_).mono (fun k hk => hk.mono s2) (fun k hk => hk.lt hF (Nat.le_trans s1 s2)), ht, ?_⟩
  · subst e; exact not_fn hn hl hk
  · refine ⟨hy.os.trans h3.os, hy.tape.trans h3.tape, hy.output.trans h3.output, Nat.le_trans s1 s2, fun k hk hnk => ?_, fun k hk => ?_⟩
    · have h1 : k ≠ t := fun e => hnk (.inr e)
      exact (hy.block k (by omega) h1 h1).trans (h3.block k hk fun hf => hnk (.inl hf))
    · rcases hk with (h | h) | h
      · exact .inl (.inl h)
      · exact .inr h.1
      · exact .inl (.inr h)
abbrev edv (x : Ed) : Value := .agg #[.int .i64 x.k, .int .i64 x.a, .int .i64 x.n, str x.s]
theorem boxed (w : World) (k a n : Int) (s : Bs) : EdAt (w.alloc (.cells #[.int .i64 k, .int .i64 a, .int .i64 n, str s] 34)) w.heap.size 0 ⟨k, a, n, s⟩ := by
  have h := heap_new w (.cells #[.int .i64 k, .int .i64 a, .int .i64 n, str s] 34)
  refine ⟨?_, ?_, ?_, ?_⟩ <;> (simp only [World.cell?, h]; rfl)
theorem EdAt.ex {W W' : World} {b o c g : Nat} {x : Ed} (h : EdAt W b o x) (hx : Ex c g W W') (hl : b < W.heap.size) (h1 : b ≠ c) (h2 : b ≠ g) : EdAt W' b o x := h.keep (hx.block _ hl h1 h2)
theorem EdAt.gs {W W' : World} {b o : Nat} {x : Ed} {G G' : Nat → Prop} (h : EdAt W b o x) (hx : Gs G G' W W') (hl : b < W.heap.size) (h1 : ¬ G b) : EdAt W' b o x := h.keep (hx.block _ hl h1)
theorem EdAt.drew {W : World} {b o : Nat} {x : Ed} (h : EdAt W b o x) : EdAt W.drew b o x := h
theorem alloc_below (w : World) (o : Obj) : Below w.heap.size w (w.alloc o) := (Below.refl _ _).alloc (Nat.le_refl _) _
theorem Tx.gs {W W' : World} {tm : Nat} {G G' : Nat → Prop} (h : Tx W t tm s p) (hx : Gs G G' W W') (h1 : ¬ G t) : Tx W' t tm s p := ⟨(hx.block _ h.lt h1).trans h.1, h.2⟩
theorem wi3 (k : Int) : wi k 3 = 0 ∨ wi k 3 = 1 ∨ wi k 3 = 2 := by have := wi_in k 3 (by omega); omega
set_option maxHeartbeats 1000000 in
theorem does_any (hc : Bu w F b mx s p) (ht : Tx w t 1048576 s p) (hn : ¬ F t) (x : Ed) (hx : x.s.length ≤ 2097152) : Calls Try.prog 12 #[ptr b, ptr t, edv x] w fun e w' => e = .returned (.bool true) ∧ Did F b t mx w w' := by
  obtain ⟨k, a, n, z⟩ := x
  simp only at hx
  have HBX := Lib.hid (boxed w k a n z)
  have HBL := Lib.hid (alloc_below w (.cells #[.int .i64 k, .int .i64 a, .int .i64 n, str z] 34))
  have HW := Lib.hid (within_any k 3 (by omega) (by omega))
  have HF := Lib.hid hc.hF
  have HN := Lib.hid (show ¬ F w.heap.size ∧ w.heap.size ≠ t ∧ t < w.heap.size from ⟨fun h => by have := hc.hF _ h; omega, by have := ht.lt; omega, ht.lt⟩)
  have HC := Lib.hid (hc.on HBL.out.drew)
  have HT := Lib.hid (ht.on HBL.out)
  have HNT := Lib.hid hn
  have hk := wi3 k
  generalize wi k 3 = kk at HW hk
  clear hc ht hn
  obtain ⟨W, hW⟩ : ∃ W, W = w.alloc (.cells #[.int .i64 k, .int .i64 a, .int .i64 n, str z] 34) := ⟨_, rfl⟩
  rw [← hW] at HBX HBL HC HT
  have HWE := Lib.hid hW
  have HLT := Lib.hid (show w.heap.size < W.drew.heap.size by rw [hW]; simp)
  have HGW := Lib.hid (show Gs F F w W.drew from Gs.of HBL.out.drew)
  clear hW
  rcases hk with rfl | rfl | rfl
  · go_enter Try.func12, Try.ntmps12
    go_wp2_with fail
    refine (HW.out _).mono ?_
    rintro e w2 ⟨rfl, rfl⟩
    rw [← HWE.out]
    obtain ⟨b0, b1, b2, b3⟩ := HBX.out
    simp only [Nat.zero_add] at b0 b1 b2 b3
    go_wp2_with fail
    go_region_held3 (fun V => V.cell? ⟨w.heap.size, 0, none⟩ = some (.int .i64 k) ∧ V.cell? ⟨w.heap.size, 1, none⟩ = some (.int .i64 a) ∧ V.cell? ⟨w.heap.size, 2, none⟩ = some (.int .i64 n) ∧ V.cell? ⟨w.heap.size, 3, none⟩ = some (str z)) (first | exact HBX.out | exact HBX.out.drew.gs hd3.2.2 HLT.out HN.out.1 | exact (HBX.out.drew.gs hd3.2.2 HLT.out HN.out.1).ex hx4 (Nat.lt_of_lt_of_le HLT.out hd3.2.2.size) HN.out.2.1 HN.out.2.1) (first
      | (go_at_call 21; refine (binsert_bu (w := W.drew) HC.out a z hx).mono ?_; intro e w3 hd3; obtain ⟨rfl, _⟩ := id hd3)
      | (go_at_call 28; refine (rinsert_tx (Tx.gs (W := W.drew) HT.out hd3.2.2 HNT.out) a z).mono ?_; rintro e w4 ⟨rfl, ht4, hx4⟩))
    all_goals (
      go_wp2_with fail
      go_ret
      exact ⟨rfl, did_of (hd3.from_ HGW.out HF.out) hx4 ht4 HNT.out HN.out.2.2 HF.out⟩)
  · go_enter Try.func12, Try.ntmps12
    go_wp2_with fail
    refine (HW.out _).mono ?_
    rintro e w2 ⟨rfl, rfl⟩
    rw [← HWE.out]
    obtain ⟨b0, b1, b2, b3⟩ := HBX.out
    simp only [Nat.zero_add] at b0 b1 b2 b3
    go_wp2_with fail
    go_region_held3 (fun V => V.cell? ⟨w.heap.size, 0, none⟩ = some (.int .i64 k) ∧ V.cell? ⟨w.heap.size, 1, none⟩ = some (.int .i64 a) ∧ V.cell? ⟨w.heap.size, 2, none⟩ = some (.int .i64 n) ∧ V.cell? ⟨w.heap.size, 3, none⟩ = some (str z)) (first | exact HBX.out | exact HBX.out.drew.gs hd3.2.2 HLT.out HN.out.1 | exact (HBX.out.drew.gs hd3.2.2 HLT.out HN.out.1).ex hx4 (Nat.lt_of_lt_of_le HLT.out hd3.2.2.size) HN.out.2.1 HN.out.2.1) (first
      | (go_at_call 20; refine (bdelete_bu (w := W.drew) HC.out a n).mono ?_; intro e w3 hd3; obtain ⟨rfl, _⟩ := id hd3)
      | (go_at_call 29; refine (rdelete_tx (Tx.gs (W := W.drew) HT.out hd3.2.2 HNT.out) a n).mono ?_; rintro e w4 ⟨rfl, ht4, hx4⟩))
    all_goals (
      go_wp2_with fail
      go_ret
      exact ⟨rfl, did_of (hd3.from_ HGW.out HF.out) hx4 ht4 HNT.out HN.out.2.2 HF.out⟩)
  · go_enter Try.func12, Try.ntmps12
    go_wp2_with fail
    refine (HW.out _).mono ?_
    rintro e w2 ⟨rfl, rfl⟩
    rw [← HWE.out]
    obtain ⟨b0, b1, b2, b3⟩ := HBX.out
    simp only [Nat.zero_add] at b0 b1 b2 b3
    go_wp2_with fail
    go_region_held3 (fun V => V.cell? ⟨w.heap.size, 0, none⟩ = some (.int .i64 k) ∧ V.cell? ⟨w.heap.size, 1, none⟩ = some (.int .i64 a) ∧ V.cell? ⟨w.heap.size, 2, none⟩ = some (.int .i64 n) ∧ V.cell? ⟨w.heap.size, 3, none⟩ = some (str z)) (first | exact HBX.out | exact HBX.out.drew.gs hd3.2.2 HLT.out HN.out.1 | exact (HBX.out.drew.gs hd3.2.2 HLT.out HN.out.1).ex hx4 (Nat.lt_of_lt_of_le HLT.out hd3.2.2.size) HN.out.2.1 HN.out.2.1) (first
      | (go_at_call 24; refine (bmove_bu (w := W.drew) HC.out a).mono ?_; intro e w3 hd3; obtain ⟨rfl, _⟩ := id hd3)
      | (go_at_call 30; refine (rmove_tx (Tx.gs (W := W.drew) HT.out hd3.2.2 HNT.out) a).mono ?_; rintro e w4 ⟨rfl, ht4, hx4⟩))
    all_goals (
      go_wp2_with fail
      go_ret
      exact ⟨rfl, did_of (hd3.from_ HGW.out HF.out) hx4 ht4 HNT.out HN.out.2.2 HF.out⟩)
end
end Go.Proofs.Ytlobaokeagpefaa
