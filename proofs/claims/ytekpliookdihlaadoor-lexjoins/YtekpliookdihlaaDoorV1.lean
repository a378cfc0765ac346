/-
  lex.Tokens where the words are known; the statements' own first look (wakes) answers true. Condition: the two tables of unicode/utf8 lie as their text lays them.
-/
import Derived.Test.YtekpliookdihlaaDoorJ7
import Derived.Test.YtekpliookdihlaaDoorEB
namespace Go.Proofs.YtekpliookdihlaaDoor
open Go.RowKit ObUtf ObSets ObLex

theorem tok_err {s : ByteArray} {er : Int} {a : Nat} (h : toks s 0 = .error (er, a)) (w : World) (hT : U.Tb w) (hs : s.size ≤ 100000) :
    Calls Tryd.prog 13 #[.string s] w fun e w' => e = .returned (.tuple #[nls, fv er (a : Int)]) ∧ Below w.heap.size w w' := by
  have ht := tokens_any s w hT hs
  rw [h] at ht
  refine ht.mono ?_
  rintro e w' ⟨rfl, hb, _⟩
  exact ⟨rfl, hb⟩
theorem tok_ok {s : ByteArray} {l : List T} (h : toks s 0 = .ok l) (w : World) (hT : U.Tb w) (hs : s.size ≤ 100000) :
    Calls Tryd.prog 13 #[.string s] w fun e w' => ∃ A k, e = .returned (.tuple #[.slice A l.length k, fv 0 0]) ∧ Tk w' w.heap.size (.slice A l.length k) l ∧ Below w.heap.size w w' := by
  have ht := tokens_any s w hT hs
  rw [h] at ht
  exact ht
set_option maxHeartbeats 2000000 in
set_option maxRecDepth 100000 in
theorem wakes_any (w : World) (hT : U.Tb w) : Calls Tryd.prog 10 #[] w fun e w' => e = .returned (.bool true) ∧ Below w.heap.size w w' := by
  have HT := Lib.hid hT; clear hT
  have K1 := Lib.hid (fun W h => tok_ok k1_toks W h (by decide))
  have K2 := Lib.hid (fun W h => tok_err k2_toks W h (by decide))
  have K3 := Lib.hid (fun W h => tok_err k3_toks W h (by decide))
  have K4 := Lib.hid (fun W h => tok_err k4_toks W h (by decide))
  have hq := fun (a b : Int) (w : World) => eqf a b w
  have hgt := Tryd.eqGuardType32
  go_enter Tryd.func10, Tryd.ntmps10
  go_wp2_with fail
  refine (K1.out w HT.out).mono ?_
  rintro e w1 ⟨A, k, rfl, htk, hb1⟩
  have htr := htk.reads
  clear htk
  have B1 := Lib.hid hb1
  have T1 := Lib.hid ((HT.out.below hb1).below ((Below.refl w1.heap.size w1).alloc (Nat.le_refl _) (.cells #[.int .i64 0, .int .i64 0] 32)))
  have F1 := Lib.hid (heap_new w1 (.cells #[.int .i64 0, .int .i64 0] 32))
  have R1 := Lib.hid (htr.below ((Below.refl w1.heap.size w1).alloc (Nat.le_refl _) (.cells #[.int .i64 0, .int .i64 0] 32)))
  clear hb1 htr
  go_wp2_with fail
  refine (K2.out _ T1.out).mono ?_
  rintro e w2 ⟨rfl, hb2⟩
  have B2 := Lib.hid hb2
  have b2 := (Below.refl w2.heap.size w2).alloc (Nat.le_refl _) (.cells #[.int .i64 5, .int .i64 1] 32)
  have T2 := Lib.hid ((T1.out.below hb2).below b2)
  have F12 := Lib.hid (keepL (keepL F1.out hb2) b2)
  have F2 := Lib.hid (heap_new w2 (.cells #[.int .i64 5, .int .i64 1] 32))
  have R2 := Lib.hid ((R1.out.below hb2).below b2)
  clear hb2 b2
  go_wp2_with fail
  refine (K3.out _ T2.out).mono ?_
  rintro e w3 ⟨rfl, hb3⟩
  have B3 := Lib.hid hb3
  have b3 := (Below.refl w3.heap.size w3).alloc (Nat.le_refl _) (.cells #[.int .i64 7, .int .i64 4] 32)
  have T3 := Lib.hid ((T2.out.below hb3).below b3)
  have F13 := Lib.hid (keepL (keepL F12.out hb3) b3)
  have F23 := Lib.hid (keepL (keepL F2.out hb3) b3)
  have F3 := Lib.hid (heap_new w3 (.cells #[.int .i64 7, .int .i64 4] 32))
  have R3 := Lib.hid ((R2.out.below hb3).below b3)
  clear hb3 b3
  go_wp2_with fail
  refine (K4.out _ T3.out).mono ?_
  rintro e w4 ⟨rfl, hb4⟩
  have B4 := Lib.hid hb4
  have b4 := (Below.refl w4.heap.size w4).alloc (Nat.le_refl _) (.cells #[.int .i64 4, .int .i64 0] 32)
  obtain ⟨f0, f1, _, _⟩ := blk2 (keepL (keepL F13.out hb4) b4)
  obtain ⟨g0, g1, _, _⟩ := blk2 (keepL (keepL F23.out hb4) b4)
  obtain ⟨h0, h1, _, _⟩ := blk2 (keepL (keepL F3.out hb4) b4)
  obtain ⟨i0, i1, _, _⟩ := blk2 (heap_new w4 (.cells #[.int .i64 4, .int .i64 0] 32))
  obtain ⟨b, off, rfl, hlt, hc⟩ := ((R3.out.below hb4).below b4) (by simp)
  obtain ⟨S0, q0, x0, x1, x2, x3, x4, _⟩ := hc 0 _ rfl
  obtain ⟨S1, q1, y0, y1, y2, y3, y4, _⟩ := hc 1 _ rfl
  obtain ⟨S2, q2, z0, z1, z2, z3, z4, _⟩ := hc 2 _ rfl
  clear hc hb4 b4
  simp only [Nat.zero_mul, Nat.add_zero, Nat.one_mul, not98] at x0 x1 x2 x3 x4 y0 y1 y2 y3 y4 z0 z1 z2 z3 z4
  go_wp2_with fail
  go_ret
  exact ⟨rfl, bel_trans (B1.out.alloc B1.out.size _) (bel_trans (B2.out.alloc B2.out.size _) (bel_trans (B3.out.alloc B3.out.size _) (B4.out.alloc B4.out.size _)))⟩
end Go.Proofs.YtekpliookdihlaaDoor
