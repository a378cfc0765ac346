/-
  The statements' own first look (wakes) at stage 9 answers true. Condition: the two tables of unicode/utf8 lie as their text lays them.
  The statement on all texts (ParseTells) answers true for every text. Condition: the two tables of unicode/utf8 lie as their text lays them.
-/
import Derived.Test.YtceeimolfalmpaaGreatDoorNX
import Derived.Test.YtceeimolfalmpaaGreatDoorJZ
namespace Go.Proofs.YtceeimolfalmpaaGreatDoor.T
open Go.RowKit ObUtf ObSets ObTree ObParse
open Go.Proofs.YtceeimolfalmpaaGreatDoor (tv fv fo Tr Tk FlOf eqf word_br dg_y dg_n toks_ok toks_end toks_bad)

abbrev x1 : ByteArray := ⟨#[40, 97, 124, 41, 123, 50, 125]⟩
abbrev x2 : ByteArray := ⟨#[97, 124, 42]⟩
abbrev x3 : ByteArray := ⟨#[40, 97]⟩
abbrev x4 : ByteArray := ⟨#[41, 92, 49]⟩
abbrev l1 : List ObLex.T := [⟨2, 0, [], 0, 0⟩, ⟨1, 1, [(97, 97)], 0, 0⟩, ⟨5, 2, [], 0, 0⟩, ⟨4, 3, [], 0, 0⟩, ⟨6, 4, [], 2, 2⟩]
abbrev l2 : List ObLex.T := [⟨1, 0, [(97, 97)], 0, 0⟩, ⟨5, 1, [], 0, 0⟩, ⟨6, 2, [], 0, -1⟩]
abbrev l3 : List ObLex.T := [⟨2, 0, [], 0, 0⟩, ⟨1, 1, [(97, 97)], 0, 0⟩]
abbrev l4 : List ObLex.T := [⟨4, 0, [], 0, 0⟩]
theorem x1_e : ObLex.word x1 4 = .ok (⟨6, 4, [], 2, 2⟩, 7) := by
  refine word_br (by decide) ?_
  have e : ObLex.dg x1 5 = 1 := by rw [dg_y (by decide) (by decide), dg_n (by decide)]
  unfold ObLex.braces ObLex.num
  dsimp only
  rw [if_neg (by decide), e, if_neg (by decide), if_neg (by decide), if_pos (by decide), if_neg (by decide)]
  rfl
theorem x1_toks : ObLex.toks x1 0 = .ok l1 := by
  have h0 : ObLex.word x1 0 = .ok (⟨2, 0, [], 0, 0⟩, 1) := by rfl
  have h1 : ObLex.word x1 1 = .ok (⟨1, 1, [(97, 97)], 0, 0⟩, 2) := by rfl
  have h2 : ObLex.word x1 2 = .ok (⟨5, 2, [], 0, 0⟩, 3) := by rfl
  have h3 : ObLex.word x1 3 = .ok (⟨4, 3, [], 0, 0⟩, 4) := by rfl
  rw [toks_ok (by decide) h0, toks_ok (by decide) h1, toks_ok (by decide) h2, toks_ok (by decide) h3, toks_ok (by decide) x1_e, toks_end (by decide)]
  rfl
theorem x2_toks : ObLex.toks x2 0 = .ok l2 := by
  have h0 : ObLex.word x2 0 = .ok (⟨1, 0, [(97, 97)], 0, 0⟩, 1) := by rfl
  have h1 : ObLex.word x2 1 = .ok (⟨5, 1, [], 0, 0⟩, 2) := by rfl
  have h2 : ObLex.word x2 2 = .ok (⟨6, 2, [], 0, -1⟩, 3) := by rfl
  rw [toks_ok (by decide) h0, toks_ok (by decide) h1, toks_ok (by decide) h2, toks_end (by decide)]
  rfl
theorem x3_toks : ObLex.toks x3 0 = .ok l3 := by
  have h0 : ObLex.word x3 0 = .ok (⟨2, 0, [], 0, 0⟩, 1) := by rfl
  have h1 : ObLex.word x3 1 = .ok (⟨1, 1, [(97, 97)], 0, 0⟩, 2) := by rfl
  rw [toks_ok (by decide) h0, toks_ok (by decide) h1, toks_end (by decide)]
  rfl
theorem x4_toks : ObLex.toks x4 0 = .error (5, 1) := by
  have h0 : ObLex.word x4 0 = .ok (⟨4, 0, [], 0, 0⟩, 1) := by rfl
  have h1 : ObLex.word x4 1 = .error (5, 1) := by rfl
  rw [toks_ok (by decide) h0, toks_bad (by decide) h1]
  rfl
theorem x4_ahead : ObLex.Ahead x4 l4 := by
  have h0 : ObLex.word x4 0 = .ok (⟨4, 0, [], 0, 0⟩, 1) := by rfl
  have h1 : ObLex.word x4 1 = .error (5, 1) := by rfl
  exact .inr ⟨5, 1, 1, x4_toks, ⟨by decide, 1, h0, by decide, rfl⟩, Nat.le_refl _, by decide, h1⟩
/-- The nodes of the first text. -/
abbrev n1 : List Nd := [⟨2, 0, 0, [(97, 97)], 0, 0, 0⟩, ⟨1, 0, 0, [], 0, 0, 0⟩, ⟨6, 0, 1, [], 0, 0, 0⟩, ⟨8, 2, 0, [], 0, 0, 1⟩, ⟨7, 3, 0, [], 2, 2, 0⟩]
theorem fin1 : fin l1 = .ok ⟨5, n1, 1⟩ := by rfl
theorem fin2 : fin l2 = .error (some (4, 2)) := by rfl
theorem fin3 : fin l3 = .error none := by rfl
theorem fin4 : fin l4 = .error (some (4, 0)) := by rfl
/-- Parse of a text whose words are known. -/
theorem parse_at {s : ByteArray} {W : List ObLex.T} {x a : Int} {L : List Nd} {E q : Int} (hA : ObLex.Ahead s W) (hF : FlOf (ObLex.toks s 0) x a) (ho : outc W x a s.size = (L, E, q)) (w : World) (hT : U.Tb w) (hs : s.size ≤ 1000) :
    Calls Tryz.prog 17 #[.string s] w fun e w' => ∃ A c, e = .returned (.tuple #[.agg #[.slice A L.length c], fv E q]) ∧ Nr w' A L ∧ Below w.heap.size w w' :=
  (parse_any s w hT hs).mono fun e w' h => by
    obtain ⟨W2, x2, a2, A, c, hA2, hF2, hb, he, hN⟩ := ps_po h
    have e1 := ObLex.Ahead.one hA hA2
    subst e1
    obtain ⟨rfl, rfl⟩ := flof_one hF hF2
    rw [ho] at he hN
    exact ⟨A, c, he, hN, hb⟩
theorem parse_x1 (w : World) (hT : U.Tb w) : Calls Tryz.prog 17 #[.string x1] w fun e w' => ∃ A c, e = .returned (.tuple #[.agg #[.slice A 5 c], fv 0 0]) ∧ Nr w' A n1 ∧ Below w.heap.size w w' :=
  parse_at (L := n1) (x := 0) (a := 0) (.inl x1_toks) (by rw [x1_toks]; exact ⟨rfl, rfl⟩) (by unfold outc; rw [fin1]; rfl) w hT (by decide)
theorem parse_x2 (w : World) (hT : U.Tb w) : Calls Tryz.prog 17 #[.string x2] w fun e w' => ∃ A c, e = .returned (.tuple #[.agg #[.slice A 0 c], fv 4 2]) ∧ Nr w' A [] ∧ Below w.heap.size w w' :=
  parse_at (L := []) (x := 0) (a := 0) (.inl x2_toks) (by rw [x2_toks]; exact ⟨rfl, rfl⟩) (by unfold outc; rw [fin2]) w hT (by decide)
theorem parse_x3 (w : World) (hT : U.Tb w) : Calls Tryz.prog 17 #[.string x3] w fun e w' => ∃ A c, e = .returned (.tuple #[.agg #[.slice A 0 c], fv 4 2]) ∧ Nr w' A [] ∧ Below w.heap.size w w' :=
  parse_at (L := []) (x := 0) (a := 0) (.inl x3_toks) (by rw [x3_toks]; exact ⟨rfl, rfl⟩) (by unfold outc; rw [fin3]; rfl) w hT (by decide)
theorem parse_x4 (w : World) (hT : U.Tb w) : Calls Tryz.prog 17 #[.string x4] w fun e w' => ∃ A c, e = .returned (.tuple #[.agg #[.slice A 0 c], fv 4 0]) ∧ Nr w' A [] ∧ Below w.heap.size w w' :=
  parse_at (L := []) (x := 5) (a := 1) x4_ahead (by rw [x4_toks]; exact ⟨rfl, rfl, by decide⟩) (by unfold outc; rw [fin4]) w hT (by decide)
/-- A result laid in two blocks. -/
theorem two_new (w : World) (A : Option Addr) (n c : Nat) (E q : Int) : Below w.heap.size w ((w.alloc (.cells #[.slice A n c] 29)).alloc (.cells #[.int .i64 E, .int .i64 q] 34)) ∧ ((w.alloc (.cells #[.slice A n c] 29)).alloc (.cells #[.int .i64 E, .int .i64 q] 34)).heap[w.heap.size]? = some (.cells #[.slice A n c] 29) ∧ ((w.alloc (.cells #[.slice A n c] 29)).alloc (.cells #[.int .i64 E, .int .i64 q] 34)).heap[w.heap.size + 1]? = some (.cells #[.int .i64 E, .int .i64 q] 34) := by
  have k0 := keepL (heap_new w (.cells #[.slice A n c] 29)) ((Below.refl _ _).alloc (Nat.le_refl _) (.cells #[.int .i64 E, .int .i64 q] 34))
  have k1 := heap_new (w.alloc (.cells #[.slice A n c] 29)) (.cells #[.int .i64 E, .int .i64 q] 34)
  rw [World.size_alloc] at k1
  exact ⟨((Below.refl w.heap.size w).alloc (Nat.le_refl _) _).alloc (by simp) _, k0, k1⟩
set_option maxHeartbeats 4000000 in
set_option maxRecDepth 100000 in
theorem wakes9_any (w : World) (hT : U.Tb w) : Calls Tryz.prog 15 #[] w fun e w' => e = .returned (.bool true) ∧ Below w.heap.size w w' := by
  have HT := Lib.hid hT
  have hq := fun (a b : Int) (w : World) => eqf a b w
  have hgt := Tryz.eqGuardType34
  clear hT
  have H1 := Lib.hid parse_x1; have H2 := Lib.hid parse_x2; have H3 := Lib.hid parse_x3; have H4 := Lib.hid parse_x4
  go_enter Tryz.func15, Tryz.ntmps15
  go_wp2_with fail
  refine (H1.out _ HT.out).mono ?_
  rintro e v1 ⟨A1, c1, rfl, hN1, hb1⟩
  obtain ⟨m1, k1, k2⟩ := two_new v1 A1 5 c1 0 0
  have HN1 := Lib.hid (hN1.below m1); have HB1 := Lib.hid (S.bel_trans hb1 m1)
  have HK1 := Lib.hid k1; have HK2 := Lib.hid k2
  clear hN1 hb1 m1 k1 k2
  go_wp2_with fail
  refine (H2.out _ (HT.out.below HB1.out)).mono ?_
  rintro e v2 ⟨A2, c2, rfl, _, hb2⟩
  obtain ⟨m2, k1, k2⟩ := two_new v2 A2 0 c2 4 2
  have hb := S.bel_trans hb2 m2
  have HN2 := Lib.hid (HN1.out.below hb)
  have HB2 := Lib.hid (S.bel_trans HB1.out hb)
  have HL1 := Lib.hid (keepL HK1.out hb); have HL2 := Lib.hid (keepL HK2.out hb); have HL3 := Lib.hid k2
  clear hb2 m2 k1 k2 hb HN1 HK1 HK2
  go_wp2_with fail
  refine (H3.out _ (HT.out.below HB2.out)).mono ?_
  rintro e v3 ⟨A3, c3, rfl, _, hb3⟩
  obtain ⟨m3, k1, k2⟩ := two_new v3 A3 0 c3 4 2
  have hb := S.bel_trans hb3 m3
  have HN3 := Lib.hid (HN2.out.below hb)
  have HB3 := Lib.hid (S.bel_trans HB2.out hb)
  have HM1 := Lib.hid (keepL HL1.out hb); have HM2 := Lib.hid (keepL HL2.out hb); have HM3 := Lib.hid (keepL HL3.out hb); have HM4 := Lib.hid k2
  clear hb3 m3 k1 k2 hb HN2 HL1 HL2 HL3
  go_wp2_with fail
  refine (H4.out _ (HT.out.below HB3.out)).mono ?_
  rintro e v4 ⟨A4, c4, rfl, _, hb4⟩
  obtain ⟨m4, k1, k2⟩ := two_new v4 A4 0 c4 4 0
  have hb := S.bel_trans hb4 m4
  have HN := Lib.hid (HN3.out.below hb)
  have HB4 := Lib.hid (S.bel_trans HB3.out hb)
  obtain ⟨p0, _⟩ := obj29 (keepL HM1.out hb)
  obtain ⟨q0, q1, _⟩ := blk2 (keepL HM2.out hb)
  obtain ⟨r0, r1, _⟩ := blk2 (keepL HM3.out hb)
  obtain ⟨s0, s1, _⟩ := blk2 (keepL HM4.out hb)
  obtain ⟨t0, t1, _⟩ := blk2 k2
  obtain ⟨b, off, rfl, hlt, hnd⟩ := HN.out (by simp)
  obtain ⟨_, _, ⟨d0, _, _, _, _, _, _⟩, _⟩ := hnd 4 _ rfl
  obtain ⟨_, _, ⟨f0, _, _, _, _, _, f6⟩, _⟩ := hnd 3 _ rfl
  obtain ⟨_, _, ⟨g0, _, _, _, _, _, _⟩, _⟩ := hnd 1 _ rfl
  simp only [Nat.reduceMul, Nat.add_assoc, Nat.reduceAdd] at d0 f0 f6 g0
  clear hb4 m4 k1 k2 hb HN3 HN HM1 HM2 HM3 HM4 hnd
  go_wp2_with fail
  go_ret
  exact ⟨rfl, HB4.out⟩
end Go.Proofs.YtceeimolfalmpaaGreatDoor.T

namespace Go.Proofs.YtceeimolfalmpaaGreatDoor.T
open Go.RowKit ObUtf ObSets ObTree ObParse

set_option maxHeartbeats 1000000 in
set_option maxRecDepth 100000 in
theorem ptells_walk (s : ByteArray) (w : World) (hT : U.Tb w) : Calls Tryz.prog 4 #[.string s] w fun e w' => e = .returned (.bool true) ∧ Below w.heap.size w w' := by
  have HT := Lib.hid hT; clear hT
  have HC := Lib.hid (U.cut_any s 200 w (by decide))
  have hsz : (U.cutB s (200 : Int).toNat).size ≤ 200 := U.cutB_size s _
  generalize U.cutB s (200 : Int).toNat = t at *
  have HA := Lib.hid (asks9_any t w HT.out (by omega))
  go_enter Tryz.func4, Tryz.ntmps4
  go_wp2_with fail
  refine HC.out.mono ?_
  rintro e w1 ⟨rfl, rfl⟩
  go_wp2_with fail
  refine HA.out.mono ?_
  rintro e w1 ⟨rfl, hb1⟩
  have HW := Lib.hid (wakes9_any w1 (HT.out.below hb1))
  go_wp2_with fail
  refine HW.out.mono ?_
  rintro e w2 ⟨rfl, hb2⟩
  go_wp2_with fail
  go_ret
  exact ⟨rfl, S.bel_trans hb1 hb2⟩
end Go.Proofs.YtceeimolfalmpaaGreatDoor.T
