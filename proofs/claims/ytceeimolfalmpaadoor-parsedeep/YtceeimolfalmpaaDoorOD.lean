/-
  What parse.Parse answers, in one form; the statements' own first look (wakes) at stage 9 answers true. Condition: the two tables of unicode/utf8 lie as their text lays them.
-/
import Derived.Test.YtceeimolfalmpaaDoorPI
import Derived.Test.YtceeimolfalmpaaDoorPJ
import Derived.Test.YtceeimolfalmpaaDoorJZ
namespace Go.Proofs.YtceeimolfalmpaaDoor.T
open Go.RowKit ObUtf ObSets ObTree ObParse
open Go.Proofs.YtceeimolfalmpaaDoor (tv fv fo Tr Tk FlOf eqf word_br dg_y dg_n toks_ok toks_end toks_bad)

theorem obj29 {w : World} {r : Nat} {v : Value} (h : w.heap[r]? = some (.cells #[v] 25)) : w.cell? ⟨r, 0, none⟩ = some v ∧ w.frozen? ⟨r, 0, none⟩ = false := ⟨blk1 h, by simp [World.frozen?, h]⟩
/-- What the page's own Parse hands back. -/
def RetPr (s : ByteArray) (w : World) (e : Ending) (w' : World) : Prop :=
  ∃ W x a, ObLex.Ahead s W ∧ FlOf (ObLex.toks s 0) x a ∧ Below w.heap.size w w' ∧
    match fin W with
    | .error (some (er, q)) => e = .returned (.tuple #[tree0, fv er q])
    | .error none => e = .returned (.tuple #[tree0, if x = 0 then fv 4 (s.size : Int) else fv x a])
    | .ok s' => if x = 0 then ∃ A c, e = .returned (.tuple #[.agg #[.slice A s'.L.length c], fv 0 0]) ∧ Nr w' A s'.L else e = .returned (.tuple #[tree0, fv x a])
/-- What a text comes to: nodes, a fault and its place. -/
def outc (W : List ObLex.T) (x a n : Int) : List Nd × Int × Int :=
  match fin W with
  | .error (some q) => ([], q.1, q.2)
  | .error none => if x = 0 then ([], 4, n) else ([], x, a)
  | .ok s' => if x = 0 then (s'.L, 0, 0) else ([], x, a)
/-- What Parse hands back. -/
def RetPo (s : ByteArray) (w : World) (e : Ending) (w' : World) : Prop :=
  ∃ W x a A c, ObLex.Ahead s W ∧ FlOf (ObLex.toks s 0) x a ∧ Below w.heap.size w w' ∧ e = .returned (.tuple #[.agg #[.slice A (outc W x a s.size).1.length c], fv (outc W x a s.size).2.1 (outc W x a s.size).2.2]) ∧ Nr w' A (outc W x a s.size).1
theorem nr_nil {w : World} {A : Option Addr} : Nr w A [] := fun h => absurd rfl h
theorem pr_po {s : ByteArray} {w : World} {e : Ending} {w' : World} (h : RetPr s w e w') : RetPo s w e w' := by
  obtain ⟨W, x, a, h1, h2, h3, h4⟩ := h
  cases hf : fin W with
  | error er =>
    cases er with
    | none =>
      rw [hf] at h4
      dsimp only at h4
      by_cases hx : x = 0
      · have ho : outc W x a s.size = ([], 4, (s.size : Int)) := by unfold outc; rw [hf]; dsimp only; rw [if_pos hx]
        rw [if_pos hx] at h4
        exact ⟨W, x, a, none, 0, h1, h2, h3, by rw [ho]; exact h4, by rw [ho]; exact nr_nil⟩
      · have ho : outc W x a s.size = ([], x, a) := by unfold outc; rw [hf]; dsimp only; rw [if_neg hx]
        rw [if_neg hx] at h4
        exact ⟨W, x, a, none, 0, h1, h2, h3, by rw [ho]; exact h4, by rw [ho]; exact nr_nil⟩
    | some q =>
      obtain ⟨er, q⟩ := q
      rw [hf] at h4
      dsimp only at h4
      have ho : outc W x a s.size = ([], er, q) := by unfold outc; rw [hf]
      exact ⟨W, x, a, none, 0, h1, h2, h3, by rw [ho]; exact h4, by rw [ho]; exact nr_nil⟩
  | ok s' =>
    rw [hf] at h4
    dsimp only at h4
    by_cases hx : x = 0
    · have ho : outc W x a s.size = (s'.L, 0, 0) := by unfold outc; rw [hf]; dsimp only; rw [if_pos hx]
      rw [if_pos hx] at h4
      obtain ⟨A, c, h5, h6⟩ := h4
      exact ⟨W, x, a, A, c, h1, h2, h3, by rw [ho]; exact h5, by rw [ho]; exact h6⟩
    · have ho : outc W x a s.size = ([], x, a) := by unfold outc; rw [hf]; dsimp only; rw [if_neg hx]
      rw [if_neg hx] at h4
      exact ⟨W, x, a, none, 0, h1, h2, h3, by rw [ho]; exact h4, by rw [ho]; exact nr_nil⟩
theorem Nk.readsN {w : World} {B n k : Nat} {A : Option Addr} {l : List Nd} (h : Nk w B (.slice A n k) l) (hB : B ≤ w.heap.size) : Nr w A l := by
  intro hne
  obtain ⟨L, rfl, h2, h3⟩ := h
  rcases h2.2 with ⟨_, hn⟩ | ⟨g, cap, cur, hv, hbg, hg, rest⟩
  · exact absurd (by rw [List.eq_nil_of_length_eq_zero hn]; rfl) hne
  · injection hv with hv1 hv2 hv3
    subst hv1
    refine ⟨g, 0, rfl, lt_of_heap hg, fun j x hx => ?_⟩
    rw [List.getElem?_map] at hx
    cases hp : L[j]? with
    | none => rw [hp] at hx; cases hx
    | some p =>
      rw [hp] at hx
      simp at hx
      subst hx
      obtain ⟨c0, c1, c2, c3, c4, c5, c6⟩ := cellsN_at L j p hp
      have hc := World.ownsRow.cells h2 (g := g) rfl
      have e : ∀ k, (⟨g, 0, none⟩ : Addr).add k = ⟨g, 0 + k, none⟩ := fun k => by unfold Addr.add; split <;> simp_all
      obtain ⟨As, ks, es, hr⟩ := h3 p (List.mem_of_getElem? hp)
      have d0 := hc _ _ c0; have d1 := hc _ _ c1; have d2 := hc _ _ c2; have d3 := hc _ _ c3; have d4 := hc _ _ c4; have d5 := hc _ _ c5; have d6 := hc _ _ c6
      rw [e] at d0 d1 d2 d3 d4 d5 d6
      rw [es] at d3
      exact ⟨As, ks, ⟨d0, d1, d2, d3, d4, d5, d6⟩, fun hn => by obtain ⟨b, off, e1, e2, e3⟩ := hr hn; exact ⟨b, off, e1, Nat.lt_of_lt_of_le e2 hB, e3⟩⟩
theorem ps_po {s : ByteArray} {w : World} {e : Ending} {w' : World} (h : RetPs s w e w') : RetPo s w e w' := by
  refine pr_po ?_
  obtain ⟨W, x, a, h1, h2, h3, h4⟩ := h
  refine ⟨W, x, a, h1, h2, h3, ?_⟩
  cases hf : fin W with
  | error er => cases er <;> (rw [hf] at h4; exact h4)
  | ok s' =>
    rw [hf] at h4
    dsimp only at h4 ⊢
    by_cases hx : x = 0
    · rw [if_pos hx] at h4 ⊢
      obtain ⟨A, c, B, h5, _, h7, h8⟩ := h4
      exact ⟨A, c, h5, h8.readsN h7⟩
    · rw [if_neg hx] at h4 ⊢
      exact h4
theorem flof_one {r : ObLex.Res (List ObLex.T)} {x a y b : Int} (h : FlOf r x a) (k : FlOf r y b) : x = y ∧ a = b := by
  unfold FlOf at h k
  cases r with
  | error q => exact ⟨h.1.trans k.1.symm, h.2.1.trans k.2.1.symm⟩
  | ok l => exact ⟨h.1.trans k.1.symm, h.2.trans k.2.symm⟩
abbrev x1 : ByteArray := ⟨#[40, 97, 124, 41, 123, 50, 125]⟩
abbrev x2 : ByteArray := ⟨#[97, 124, 42]⟩
abbrev x3 : ByteArray := ⟨#[40, 97]⟩
abbrev x4 : ByteArray := ⟨#[41, 92, 49]⟩
abbrev l1 : List ObLex.T := [⟨2, 0, [], 0, 0⟩, ⟨1, 1, [(97, 97)], 0, 0⟩, ⟨5, 2, [], 0, 0⟩, ⟨4, 3, [], 0, 0⟩, ⟨6, 4, [], 2, 2⟩]
abbrev l2 : List ObLex.T := [⟨1, 0, [(97, 97)], 0, 0⟩, ⟨5, 1, [], 0, 0⟩, ⟨6, 2, [], 0, -1⟩]
abbrev l3 : List ObLex.T := [⟨2, 0, [], 0, 0⟩, ⟨1, 1, [(97, 97)], 0, 0⟩]
abbrev l4 : List ObLex.T := [⟨4, 0, [], 0, 0⟩]
theorem x1_e : ObLex.word x1 4 = .ok (⟨6, 4, [], 2, 2⟩, 7) := by
  refine word_br (by decide) ?_
  have e : ObLex.dg x1 5 = 1 := by rw [dg_y (by decide) (by decide), dg_n (by decide)]
  unfold ObLex.braces ObLex.num
  dsimp only
  rw [if_neg (by decide), e, if_neg (by decide), if_neg (by decide), if_pos (by decide), if_neg (by decide)]
  rfl
theorem x1_toks : ObLex.toks x1 0 = .ok l1 := by
  have h0 : ObLex.word x1 0 = .ok (⟨2, 0, [], 0, 0⟩, 1) := by rfl
  have h1 : ObLex.word x1 1 = .ok (⟨1, 1, [(97, 97)], 0, 0⟩, 2) := by rfl
  have h2 : ObLex.word x1 2 = .ok (⟨5, 2, [], 0, 0⟩, 3) := by rfl
  have h3 : ObLex.word x1 3 = .ok (⟨4, 3, [], 0, 0⟩, 4) := by rfl
  rw [toks_ok (by decide) h0, toks_ok (by decide) h1, toks_ok (by decide) h2, toks_ok (by decide) h3, toks_ok (by decide) x1_e, toks_end (by decide)]
  rfl
theorem x2_toks : ObLex.toks x2 0 = .ok l2 := by
  have h0 : ObLex.word x2 0 = .ok (⟨1, 0, [(97, 97)], 0, 0⟩, 1) := by rfl
  have h1 : ObLex.word x2 1 = .ok (⟨5, 1, [], 0, 0⟩, 2) := by rfl
  have h2 : ObLex.word x2 2 = .ok (⟨6, 2, [], 0, -1⟩, 3) := by rfl
  rw [toks_ok (by decide) h0, toks_ok (by decide) h1, toks_ok (by decide) h2, toks_end (by decide)]
  rfl
theorem x3_toks : ObLex.toks x3 0 = .ok l3 := by
  have h0 : ObLex.word x3 0 = .ok (⟨2, 0, [], 0, 0⟩, 1) := by rfl
  have h1 : ObLex.word x3 1 = .ok (⟨1, 1, [(97, 97)], 0, 0⟩, 2) := by rfl
  rw [toks_ok (by decide) h0, toks_ok (by decide) h1, toks_end (by decide)]
  rfl
theorem x4_toks : ObLex.toks x4 0 = .error (5, 1) := by
  have h0 : ObLex.word x4 0 = .ok (⟨4, 0, [], 0, 0⟩, 1) := by rfl
  have h1 : ObLex.word x4 1 = .error (5, 1) := by rfl
  rw [toks_ok (by decide) h0, toks_bad (by decide) h1]
  rfl
theorem x4_ahead : ObLex.Ahead x4 l4 := by
  have h0 : ObLex.word x4 0 = .ok (⟨4, 0, [], 0, 0⟩, 1) := by rfl
  have h1 : ObLex.word x4 1 = .error (5, 1) := by rfl
  exact .inr ⟨5, 1, 1, x4_toks, ⟨by decide, 1, h0, by decide, rfl⟩, Nat.le_refl _, by decide, h1⟩
/-- The nodes of the first text. -/
abbrev n1 : List Nd := [⟨2, 0, 0, [(97, 97)], 0, 0, 0⟩, ⟨1, 0, 0, [], 0, 0, 0⟩, ⟨6, 0, 1, [], 0, 0, 0⟩, ⟨8, 2, 0, [], 0, 0, 1⟩, ⟨7, 3, 0, [], 2, 2, 0⟩]
theorem fin1 : fin l1 = .ok ⟨5, n1, 1⟩ := by rfl
theorem fin2 : fin l2 = .error (some (4, 2)) := by rfl
theorem fin3 : fin l3 = .error none := by rfl
theorem fin4 : fin l4 = .error (some (4, 0)) := by rfl
/-- Parse of a text whose words are known. -/
theorem parse_at {s : ByteArray} {W : List ObLex.T} {x a : Int} {L : List Nd} {E q : Int} (hA : ObLex.Ahead s W) (hF : FlOf (ObLex.toks s 0) x a) (ho : outc W x a s.size = (L, E, q)) (w : World) (hT : U.Tb w) (hs : s.size ≤ 1000) :
    Calls Tryd.prog 5 #[.string s] w fun e w' => ∃ A c, e = .returned (.tuple #[.agg #[.slice A L.length c], fv E q]) ∧ Nr w' A L ∧ Below w.heap.size w w' :=
  (parse_any s w hT hs).mono fun e w' h => by
    obtain ⟨W2, x2, a2, A, c, hA2, hF2, hb, he, hN⟩ := ps_po h
    have e1 := ObLex.Ahead.one hA hA2
    subst e1
    obtain ⟨rfl, rfl⟩ := flof_one hF hF2
    rw [ho] at he hN
    exact ⟨A, c, he, hN, hb⟩
theorem parse_x1 (w : World) (hT : U.Tb w) : Calls Tryd.prog 5 #[.string x1] w fun e w' => ∃ A c, e = .returned (.tuple #[.agg #[.slice A 5 c], fv 0 0]) ∧ Nr w' A n1 ∧ Below w.heap.size w w' :=
  parse_at (L := n1) (x := 0) (a := 0) (.inl x1_toks) (by rw [x1_toks]; exact ⟨rfl, rfl⟩) (by unfold outc; rw [fin1]; rfl) w hT (by decide)
theorem parse_x2 (w : World) (hT : U.Tb w) : Calls Tryd.prog 5 #[.string x2] w fun e w' => ∃ A c, e = .returned (.tuple #[.agg #[.slice A 0 c], fv 4 2]) ∧ Nr w' A [] ∧ Below w.heap.size w w' :=
  parse_at (L := []) (x := 0) (a := 0) (.inl x2_toks) (by rw [x2_toks]; exact ⟨rfl, rfl⟩) (by unfold outc; rw [fin2]) w hT (by decide)
theorem parse_x3 (w : World) (hT : U.Tb w) : Calls Tryd.prog 5 #[.string x3] w fun e w' => ∃ A c, e = .returned (.tuple #[.agg #[.slice A 0 c], fv 4 2]) ∧ Nr w' A [] ∧ Below w.heap.size w w' :=
  parse_at (L := []) (x := 0) (a := 0) (.inl x3_toks) (by rw [x3_toks]; exact ⟨rfl, rfl⟩) (by unfold outc; rw [fin3]; rfl) w hT (by decide)
theorem parse_x4 (w : World) (hT : U.Tb w) : Calls Tryd.prog 5 #[.string x4] w fun e w' => ∃ A c, e = .returned (.tuple #[.agg #[.slice A 0 c], fv 4 0]) ∧ Nr w' A [] ∧ Below w.heap.size w w' :=
  parse_at (L := []) (x := 5) (a := 1) x4_ahead (by rw [x4_toks]; exact ⟨rfl, rfl, by decide⟩) (by unfold outc; rw [fin4]) w hT (by decide)
/-- A result laid in two blocks. -/
theorem two_new (w : World) (A : Option Addr) (n c : Nat) (E q : Int) : Below w.heap.size w ((w.alloc (.cells #[.slice A n c] 25)).alloc (.cells #[.int .i64 E, .int .i64 q] 28)) ∧ ((w.alloc (.cells #[.slice A n c] 25)).alloc (.cells #[.int .i64 E, .int .i64 q] 28)).heap[w.heap.size]? = some (.cells #[.slice A n c] 25) ∧ ((w.alloc (.cells #[.slice A n c] 25)).alloc (.cells #[.int .i64 E, .int .i64 q] 28)).heap[w.heap.size + 1]? = some (.cells #[.int .i64 E, .int .i64 q] 28) := by
  have k0 := keepL (heap_new w (.cells #[.slice A n c] 25)) ((Below.refl _ _).alloc (Nat.le_refl _) (.cells #[.int .i64 E, .int .i64 q] 28))
  have k1 := heap_new (w.alloc (.cells #[.slice A n c] 25)) (.cells #[.int .i64 E, .int .i64 q] 28)
  rw [World.size_alloc] at k1
  exact ⟨((Below.refl w.heap.size w).alloc (Nat.le_refl _) _).alloc (by simp) _, k0, k1⟩
set_option maxHeartbeats 4000000 in
set_option maxRecDepth 100000 in
theorem wakes9_any (w : World) (hT : U.Tb w) : Calls Tryd.prog 6 #[] w fun e w' => e = .returned (.bool true) ∧ Below w.heap.size w w' := by
  have HT := Lib.hid hT
  have hq := fun (a b : Int) (w : World) => eqf a b w
  have hgt := Tryd.eqGuardType28
  clear hT
  have H1 := Lib.hid parse_x1; have H2 := Lib.hid parse_x2; have H3 := Lib.hid parse_x3; have H4 := Lib.hid parse_x4
  go_enter Tryd.func6, Tryd.ntmps6
  go_wp2_with fail
  refine (H1.out _ HT.out).mono ?_
  rintro e v1 ⟨A1, c1, rfl, hN1, hb1⟩
  obtain ⟨m1, k1, k2⟩ := two_new v1 A1 5 c1 0 0
  have HN1 := Lib.hid (hN1.below m1); have HB1 := Lib.hid (S.bel_trans hb1 m1)
  have HK1 := Lib.hid k1; have HK2 := Lib.hid k2
  clear hN1 hb1 m1 k1 k2
  go_wp2_with fail
  refine (H2.out _ (HT.out.below HB1.out)).mono ?_
  rintro e v2 ⟨A2, c2, rfl, _, hb2⟩
  obtain ⟨m2, k1, k2⟩ := two_new v2 A2 0 c2 4 2
  have hb := S.bel_trans hb2 m2
  have HN2 := Lib.hid (HN1.out.below hb)
  have HB2 := Lib.hid (S.bel_trans HB1.out hb)
  have HL1 := Lib.hid (keepL HK1.out hb); have HL2 := Lib.hid (keepL HK2.out hb); have HL3 := Lib.hid k2
  clear hb2 m2 k1 k2 hb HN1 HK1 HK2
  go_wp2_with fail
  refine (H3.out _ (HT.out.below HB2.out)).mono ?_
  rintro e v3 ⟨A3, c3, rfl, _, hb3⟩
  obtain ⟨m3, k1, k2⟩ := two_new v3 A3 0 c3 4 2
  have hb := S.bel_trans hb3 m3
  have HN3 := Lib.hid (HN2.out.below hb)
  have HB3 := Lib.hid (S.bel_trans HB2.out hb)
  have HM1 := Lib.hid (keepL HL1.out hb); have HM2 := Lib.hid (keepL HL2.out hb); have HM3 := Lib.hid (keepL HL3.out hb); have HM4 := Lib.hid k2
  clear hb3 m3 k1 k2 hb HN2 HL1 HL2 HL3
  go_wp2_with fail
  refine (H4.out _ (HT.out.below HB3.out)).mono ?_
  rintro e v4 ⟨A4, c4, rfl, _, hb4⟩
  obtain ⟨m4, k1, k2⟩ := two_new v4 A4 0 c4 4 0
  have hb := S.bel_trans hb4 m4
  have HN := Lib.hid (HN3.out.below hb)
  have HB4 := Lib.hid (S.bel_trans HB3.out hb)
  obtain ⟨p0, _⟩ := obj29 (keepL HM1.out hb)
  obtain ⟨q0, q1, _⟩ := blk2 (keepL HM2.out hb)
  obtain ⟨r0, r1, _⟩ := blk2 (keepL HM3.out hb)
  obtain ⟨s0, s1, _⟩ := blk2 (keepL HM4.out hb)
  obtain ⟨t0, t1, _⟩ := blk2 k2
  obtain ⟨b, off, rfl, hlt, hnd⟩ := HN.out (by simp)
  obtain ⟨_, _, ⟨d0, _, _, _, _, _, _⟩, _⟩ := hnd 4 _ rfl
  obtain ⟨_, _, ⟨f0, _, _, _, _, _, f6⟩, _⟩ := hnd 3 _ rfl
  obtain ⟨_, _, ⟨g0, _, _, _, _, _, _⟩, _⟩ := hnd 1 _ rfl
  simp only [Nat.reduceMul, Nat.add_assoc, Nat.reduceAdd] at d0 f0 f6 g0
  clear hb4 m4 k1 k2 hb HN3 HN HM1 HM2 HM3 HM4 hnd
  go_wp2_with fail
  go_ret
  exact ⟨rfl, HB4.out⟩
end Go.Proofs.YtceeimolfalmpaaDoor.T
