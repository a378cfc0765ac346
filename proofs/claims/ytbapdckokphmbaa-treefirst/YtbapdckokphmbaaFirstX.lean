/-
  PROVED: for every case, TreeFirst returns true and the argument reads as it read before: of the good tree that the statements make by at most 24 of the case's numbers, First of every node is where its nodes begin (a leaf's own place, a Rep's, Cap's or Bud's kid's First, a Cat's or Alt's first kid's, the second kid standing right behind), the last node's is 0, and nothing is changed.
  Conditions: none.
  TreeFirst: the walk. Conditions: the case's numbers as Go has them.
  A case of the statements as an argument: its numbers. No conditions.
-/
import Derived.Test.YtbapdckokphmbaaXE
import Derived.Test.YtbapdckokphmbaaVY
import Derived.Test.YtbapdckokphmbaaView
import Derived.Test.YtbapdckokphmbaaVF
namespace Go.Proofs.Ytbapdckokphmbaa
open Go.ChangeShapes Go.WideShapes Go.ChangeAt Go.RowKit ObSets ObTree
section
variable {H : Type} {enc : TypeId × Value → H}
theorem arr7 {cs : Array Value} (h : cs.size = 7) : ∃ a b c d e f g, cs = #[a, b, c, d, e, f, g] := by
  obtain ⟨l⟩ := cs
  match l, h with
  | [a, b, c, d, e, f, g], _ => exact ⟨a, b, c, d, e, f, g, rfl⟩
set_option maxRecDepth 100000 in
/-- A case by value. -/
theorem view_case {W : World} {r : Reach} {b0 : Nat} {d : DataW H} {p : List MemPlace} {v : Value} (hv : Value.okWide Try.prog W r b0 32 v) (h : DataW.Trod enc Try.prog W 0 (fun _ => true) true 32 v d p) :
    ∃ A n c c1 c2 c3 c4 c5 c6 Z, v = .agg #[.slice A n c, c1, c2, c3, c4, c5, c6] ∧ Z.length = n ∧ n ≤ maxLen ∧ IntsAt W (.slice A n c) Z := by
  obtain ⟨cs, rfl, hsz⟩ := okWide_struct Try.underlying32 hv
  have hce : Try.prog.cellsOf 32 = 7 := by kernel_rfl
  obtain ⟨c0, c1, c2, c3, c4, c5, c6, rfl⟩ := arr7 (hsz.trans hce)
  obtain ⟨fuel, hf⟩ := h
  obtain ⟨xs, n, _, _, _, hlen, hfs⟩ := DataW.trod_struct Try.underlying32 hf
  have hc : Try.prog.cellsOf 29 = 1 := by kernel_rfl
  obtain ⟨x0, hx0⟩ : ∃ x0, xs[0]? = some x0 := ⟨_, List.getElem?_eq_getElem (by rw [hlen]; decide)⟩
  have h0 : DataW.trod enc Try.prog W 0 (fun _ => true) true n 29 [c0] = some x0 := by
    have h1 := hfs 0 _ rfl
    rw [hx0] at h1
    simpa [Value.cells, hc] using h1
  clear hfs hf
  rcases open_ints Try.underlying29 Try.underlying3 (by kernel_rfl) h0 with ⟨hcs, _⟩ | ⟨a, len, cap, zs, hcs, _, hl, hm, hz, _, hcell, _⟩
  · simp only [List.cons.injEq, and_true] at hcs
    subst hcs
    exact ⟨none, 0, 0, c1, c2, c3, c4, c5, c6, [], rfl, rfl, Nat.zero_le _, none, 0, rfl, fun j z hj => by simp at hj⟩
  · simp only [List.cons.injEq, and_true] at hcs
    subst hcs
    simp only [if_true] at hz
    have hlen2 : (zs.take len).length = len := by rw [List.length_take]; omega
    refine ⟨some a, len, cap, c1, c2, c3, c4, c5, c6, zs.take len, rfl, hlen2, by omega, some a, cap, by rw [hlen2], fun j z hj => ?_⟩
    have hjl : j < len := by have := (List.getElem?_eq_some_iff.1 hj).1; omega
    obtain ⟨b, off, rfl, hcc⟩ := ints_at hcell (by omega)
    rw [List.getElem?_take, if_pos hjl] at hj
    have hg := hcc j (by omega)
    have ez : zs.getD j 0 = z := by simp [List.getD, hj]
    rw [ez] at hg
    exact ⟨b, off, rfl, cell_lt hg, hg⟩
end
end Go.Proofs.Ytbapdckokphmbaa

namespace Go.Proofs.Ytbapdckokphmbaa
open Go.RowKit ObSets ObTree ObTree.Tree

/-- Where a tree's nodes begin, told by their kids. -/
theorem first_facts {t : Tree} (hok : Ok t) {i : Nat} {x : Nd} (hx : (flat 0 t)[i]? = some x) :
    ((x.kind = 5 ∨ x.kind = 6) → x.b = (i : Int) - 1 ∧ 0 ≤ x.a ∧ x.a < i ∧ 0 ≤ x.b ∧ fst (flat 0 t) x.b = x.a + 1 ∧ fst (flat 0 t) i = fst (flat 0 t) x.a) ∧
    ((x.kind = 7 ∨ x.kind = 8 ∨ x.kind = 9) → x.a = (i : Int) - 1 ∧ 0 ≤ x.a ∧ fst (flat 0 t) i = fst (flat 0 t) x.a) ∧
    ((¬ (x.kind = 5 ∨ x.kind = 6) ∧ ¬ (x.kind = 7 ∨ x.kind = 8 ∨ x.kind = 9)) → fst (flat 0 t) i = i) := by
  have hlt := (List.getElem?_eq_some_iff.1 hx).1
  rw [flat_len] at hlt
  have hb := ((at_beh t 0 (At.whole t) hok).2 i x (Nat.zero_le _) (by omega) hx).1
  have hk := kids_in t 0 (At.whole t) hok i x (Nat.zero_le _) (by omega) hx
  unfold beh at hb
  refine ⟨fun h => ?_, fun h => ?_, fun h => ?_⟩
  · rw [if_pos h] at hb
    rw [kids_two h] at hk
    have ha := hk x.a (by simp)
    have hbb := hk x.b (by simp)
    have hs := sz_two hx h ⟨by omega, ha.2⟩ ⟨by omega, hbb.2⟩
    refine ⟨hb.1, by omega, ha.2, by omega, ?_, ?_⟩
    · unfold fst; omega
    · unfold fst; rw [Int.toNat_natCast, hs]; omega
  · have h5 : ¬ (x.kind = 5 ∨ x.kind = 6) := by omega
    rw [if_neg h5, if_pos h] at hb
    rw [kids_one h] at hk
    have ha := hk x.a (by simp)
    have hs := sz_one hx h ⟨by omega, ha.2⟩
    refine ⟨hb, by omega, ?_⟩
    unfold fst; rw [Int.toNat_natCast, hs]; omega
  · have hs := sz_leaf hx (by unfold kids; rw [if_neg h.1, if_neg h.2])
    unfold fst; rw [Int.toNat_natCast, hs]; omega
set_option maxHeartbeats 8000000 in
set_option maxRecDepth 100000 in
theorem first_walk (A : Option Addr) (n c : Nat) (c1 c2 c3 c4 c5 c6 : Value) (Z : List Int) (w : World) (hZ : IntsAt w (.slice A n c) Z) (hn : Z.length = n) (hnb : n ≤ maxLen) :
    Calls Try.prog 5 #[.agg #[.slice A n c, c1, c2, c3, c4, c5, c6]] w (RetD w true) := by
  have ha0 := (Below.refl w.heap.size w).alloc (Nat.le_refl _) (.cells #[.slice A n c, c1, c2, c3, c4, c5, c6] 32)
  have hG0 := heap_new w (.cells #[.slice A n c, c1, c2, c3, c4, c5, c6] 32)
  have hc0 : (w.alloc (.cells #[.slice A n c, c1, c2, c3, c4, c5, c6] 32)).cell? ⟨w.heap.size, 0, none⟩ = some (.slice A n c) := by rw [cell_of_row _ w.heap.size 0 _ _ _ hG0]; rfl
  have HTR := Lib.hid (tree_any A n c Z (w.alloc (.cells #[.slice A n c, c1, c2, c3, c4, c5, c6] 32)) (hZ.below ha0) hn hnb)
  have HB0 := Lib.hid ha0
  clear ha0 hG0 hZ
  go_enter Try.func5, Try.ntmps5
  go_upto_region 1 with fail
  generalize w.alloc (.cells #[.slice A n c, c1, c2, c3, c4, c5, c6] 32) = W0 at *
  go_wp2_with fail
  refine HTR.out.mono ?_
  rintro e w1 ⟨T, hM, hsz, At, ct, rfl, hN1, hA1, hb1⟩
  obtain ⟨L, hL⟩ : ∃ L, flat 0 (num 0 T) = L := ⟨_, rfl⟩
  obtain ⟨m, hm⟩ : ∃ m, L.length = m := ⟨_, rfl⟩
  have hms : m = size T := by rw [← hm, ← hL, flat_len, num_size]
  have HGD := Lib.hid (show GoodL L by rw [← hL]; exact mk_good hM (by omega))
  have hOK := num_ok T 0 (Mk.ok _ hM)
  have HFF := Lib.hid (show ∀ (i : Nat) x, L[i]? = some x → ((x.kind = 5 ∨ x.kind = 6) → x.b = (i : Int) - 1 ∧ 0 ≤ x.a ∧ x.a < i ∧ 0 ≤ x.b ∧ fst L x.b = x.a + 1 ∧ fst L i = fst L x.a) ∧
    ((x.kind = 7 ∨ x.kind = 8 ∨ x.kind = 9) → x.a = (i : Int) - 1 ∧ 0 ≤ x.a ∧ fst L i = fst L x.a) ∧
    ((¬ (x.kind = 5 ∨ x.kind = 6) ∧ ¬ (x.kind = 7 ∨ x.kind = 8 ∨ x.kind = 9)) → fst L i = i) by rw [← hL]; exact fun i x hx => first_facts hOK hx)
  have HLA := Lib.hid (show fst L ((m - 1 : Nat) : Int) = 0 by
    have h := (at_beh (num 0 T) 0 (ObTree.At.whole _) hOK).1
    have hp := size_pos T
    rw [num_size, hL] at h
    unfold fst
    rw [Int.toNat_natCast, hms]
    rw [show 0 + size T - 1 = size T - 1 by omega] at h
    rw [h]; omega)
  have HSM := Lib.hid (show ∀ x ∈ L, x.set.length ≤ 1000000 by rw [← hL]; exact flat_small _ 0 (num_mk T 0 hM))
  have hm47 : m ≤ 47 := by omega
  have hm1 : 1 ≤ m := by have := size_pos T; omega
  rw [hL] at hN1 ⊢
  rw [hm]
  have HLM := Lib.hid hm
  have hA3 := (Below.refl w1.heap.size w1).alloc (Nat.le_refl _) (.cells #[.slice At m ct] 24)
  have HN3 := Lib.hid (hN1.below hA3)
  have HG3 := Lib.hid (heap_new w1 (.cells #[.slice At m ct] 24))
  have HB3 := Lib.hid ((HB0.out.trans (hb1.mono HB0.out.size)).trans (hA3.mono (by have := HB0.out.size; have := hb1.size; omega)))
  have hz3 : (w1.alloc (.cells #[.slice At m ct] 24)).heap.size = w1.heap.size + 1 := by simp
  clear hN1 hA1 hb1 hL hm hms hsz hM hOK hA3 hc0
  go_upto_region 3 with fail
  generalize w1.alloc (.cells #[.slice At m ct] 24) = W3 at *
  generalize w1.heap.size = k3 at *
  have HF := Lib.hid (show ∀ (z : Int) (W : World), 0 ≤ z → z < (m : Int) → Below W3.heap.size W3 W → Calls Try.prog 17 #[tr At m ct, .int .i64 z] W (RetN1 W (fst L z)) from fun z W h1 h2 hW =>
    (tfirst_any At m ct L z W (HN3.out.below hW) HLM.out (by omega) HSM.out).mono fun e w' ⟨v, he, hv, hb⟩ => ⟨by rw [he, hv.1 ⟨HGD.out, h1, by rw [HLM.out]; exact h2⟩], hb⟩)
  go_loopw [4] (fun ti wr => ∃ i : Nat, ti = .int .i64 (i : Int) ∧ i ≤ m ∧ Hid (Below W3.heap.size W3 wr)) (fun ti _ => m - (intOf ti).toNat)
  case atStart => exact ⟨0, rfl, Nat.zero_le _, Lib.hid (Below.refl _ _)⟩
  case round =>
    obtain ⟨i, rfl, hi, HB⟩ := hrel
    have HK := Lib.hid (keepL HG3.out HB.out)
    obtain ⟨t3, _⟩ := obj29 HK.out
    have hws := HB.out.size
    by_cases hin : i < m
    · have d1 : decide (i < m) = true := decide_eq_true hin
      have hin' : (i : Int) < (m : Int) := by omega
      obtain ⟨x, hx⟩ : ∃ x, L[i]? = some x := ⟨_, List.getElem?_eq_getElem (by rw [HLM.out]; exact hin)⟩
      obtain ⟨hf5, hf7, hf0⟩ := HFF.out i x hx
      obtain ⟨bb, off, rfl, hbl, hnd⟩ := nr_at HN3.out hx
      obtain ⟨As, ks, ⟨p0, p1, p2, p3, p4, p5, p6⟩, _⟩ := hnd.below hbl HB.out
      obtain ⟨sl, hsl⟩ : ∃ sl, x.set.length = sl := ⟨_, rfl⟩
      rw [hsl] at p3
      have hWX := (Below.refl wr.heap.size wr).alloc (Nat.le_refl _) (.cells (ndCells x As sl ks) 35)
      have hB7 := HB.out.trans (hWX.mono hws)
      have HX7 := Lib.hid (heap_new wr (.cells (ndCells x As sl ks) 35))
      have HK7 := Lib.hid (keepL HK.out hWX)
      have hz7 : (wr.alloc (.cells (ndCells x As sl ks) 35)).heap.size = wr.heap.size + 1 := by simp
      have HB7 := Lib.hid hB7
      clear hnd hx hWX hB7 hsl
      have HFI := Lib.hid (show ∀ W, Below W3.heap.size W3 W → _ from fun W => HF.out (i : Int) W (by omega) hin')
      by_cases h : x.kind = 5
      · have hk : x.kind = 5 := h
        have e5 : (x.kind == 5) = true := by simp [h]
        obtain ⟨g1, g2, g3, g4, g5, g6⟩ := hf5 (by rw [hk]; decide)
        obtain ⟨i1, hi1⟩ := Int.eq_ofNat_of_zero_le g4
        have ei : (i : Int) - 1 = (i1 : Int) := by omega
        have ew : IntKind.i64.wrap ((i : Int) - 1) = (i1 : Int) := by rw [ei]; exact IntWalk.i64_in _ (by omega)
        have ew2 : IntKind.i64.wrap (i1 : Int) = (i1 : Int) := IntWalk.i64_in _ (by omega)
        have ew3 : IntKind.i64.wrap (x.a + 1) = x.a + 1 := IntWalk.i64_in _ (by omega)
        obtain ⟨⟨q0, q1, q2, _, _, _, _⟩, _⟩ := blk7 HX7.out
        rw [hi1] at q2 g5
        obtain ⟨s3, _⟩ := obj29 HK7.out
        have HFA := Lib.hid (show ∀ W, Below W3.heap.size W3 W → _ from fun W => HF.out x.a W g2 (by omega))
        have HFB := Lib.hid (show ∀ W, Below W3.heap.size W3 W → Calls Try.prog 17 #[tr (some ⟨bb, off, none⟩) m ct, .int .i64 (i1 : Int)] W (RetN1 W (x.a + 1)) from fun W hW => by rw [← g5]; exact HF.out (i1 : Int) W (by omega) (by omega) hW)
        have hi1i := hi1
        have HG6 := Lib.hid g6
        have HI1 := Lib.hid hi1
        have HEW := Lib.hid (And.intro ew (And.intro ew2 ew3))
        clear hf5 hf7 hf0 h hk g1 g5 g6 hi1 hi1i ew ew2 ew3
        go_wp2_with fail
        generalize wr.alloc (.cells #[.int .i64 x.kind, .int .i64 x.a, .int .i64 x.b, .slice As sl ks, .int .i64 x.mn, .int .i64 x.mx, .int .i64 x.n] 35) = w7 at *
        refine (HFA.out _ HB7.out).mono ?_
        rintro e w9 ⟨rfl, hb9⟩
        have HX9 := Lib.hid (keepL HX7.out hb9)
        have HK9 := Lib.hid (keepL HK7.out hb9)
        have HB9 := Lib.hid (HB7.out.trans (hb9.mono (by omega)))
        clear hb9
        obtain ⟨⟨r0, r1, r2, _, _, _, _⟩, _⟩ := blk7 HX9.out
        rw [HI1.out] at r2
        obtain ⟨s9, _⟩ := obj29 HK9.out
        clear q0 q1 q2 s3 p0 p1 p2 p3 p4 p5 p6 t3
        go_wp2_with fail
        obtain ⟨ew, ew2, ew3⟩ := HEW.out
        obtain ⟨bk, hbk⟩ : ∃ bk, wr.heap.size = bk := ⟨_, rfl⟩
        have HFB9 := Lib.hid (show ∀ W, Below w9.heap.size w9 W → _ from fun W hW => HFB.out W (HB9.out.trans (hW.mono HB9.out.size)))
        have HSF := Lib.hid (show ∀ W, Below w9.heap.size w9 W → ((W.cell? ⟨k3, 0, none⟩ = some (.slice (some ⟨bb, off, none⟩) m ct) ∧ W.cell? ⟨wr.heap.size, 1, none⟩ = some (.int .i64 x.a) ∧ W.cell? ⟨wr.heap.size, 2, none⟩ = some (.int .i64 (i1 : Int))) ∧ Below w9.heap.size w9 W) from fun W hW => ⟨⟨(hW.cell (p := ⟨k3, 0, none⟩) (lt_of_heap HK9.out)).trans s9, (hW.cell (p := ⟨wr.heap.size, 1, none⟩) (lt_of_heap HX9.out)).trans r1, (hW.cell (p := ⟨wr.heap.size, 2, none⟩) (lt_of_heap HX9.out)).trans r2⟩, hW⟩)
        clear hbk r0
        go_region_held3 (fun W => (W.cell? ⟨k3, 0, none⟩ = some (.slice (some ⟨bb, off, none⟩) m ct) ∧ W.cell? ⟨wr.heap.size, 1, none⟩ = some (.int .i64 x.a) ∧ W.cell? ⟨wr.heap.size, 2, none⟩ = some (.int .i64 (i1 : Int))) ∧ Below w9.heap.size w9 W) (first
          | exact HSF.out _ (Below.refl _ _).drew
          | assumption
          | exact HSF.out _ (S.bel_trans (held4 (by assumption)) (by assumption))
          | fail) (first
          | (go_at_call 17; (with_reducible refine (HFB9.out _ (held4 (by assumption))).mono ?_); rintro e w10 ⟨rfl, hb10⟩)
          | fail)
        rename_i hHeld
        obtain ⟨⟨y3, _, _⟩, hbn⟩ := hHeld
        have HB9 := Lib.hid (HB9.out.trans (hbn.mono HB9.out.size))
        clear hbn ew ew2 ew3 r1 r2 s9
        go_wp2_with fail
        refine (HFI.out _ HB9.out).mono ?_
        rintro e wz ⟨rfl, hbz⟩
        have HBZ := Lib.hid (HB9.out.trans (hbz.mono HB9.out.size))
        clear hbz
        rw [HG6.out]
        go_wp2_with fail
        go_roundw
        case rel => exact ⟨i + 1, congrArg (Value.int .i64) (by omega), hin, HBZ⟩
        case measure => simp [intOf]; omega
      · have e5 : (x.kind == 5) = false := beq_eq_false_iff_ne.2 h
        have h5 := h
        clear h
        by_cases h : x.kind = 6
        · have hk : x.kind = 6 := h
          have e6 : (x.kind == 6) = true := by simp [h]
          obtain ⟨g1, g2, g3, g4, g5, g6⟩ := hf5 (by rw [hk]; decide)
          obtain ⟨i1, hi1⟩ := Int.eq_ofNat_of_zero_le g4
          have ei : (i : Int) - 1 = (i1 : Int) := by omega
          have ew : IntKind.i64.wrap ((i : Int) - 1) = (i1 : Int) := by rw [ei]; exact IntWalk.i64_in _ (by omega)
          have ew2 : IntKind.i64.wrap (i1 : Int) = (i1 : Int) := IntWalk.i64_in _ (by omega)
          have ew3 : IntKind.i64.wrap (x.a + 1) = x.a + 1 := IntWalk.i64_in _ (by omega)
          obtain ⟨⟨q0, q1, q2, _, _, _, _⟩, _⟩ := blk7 HX7.out
          rw [hi1] at q2 g5
          obtain ⟨s3, _⟩ := obj29 HK7.out
          have HFA := Lib.hid (show ∀ W, Below W3.heap.size W3 W → _ from fun W => HF.out x.a W g2 (by omega))
          have HFB := Lib.hid (show ∀ W, Below W3.heap.size W3 W → Calls Try.prog 17 #[tr (some ⟨bb, off, none⟩) m ct, .int .i64 (i1 : Int)] W (RetN1 W (x.a + 1)) from fun W hW => by rw [← g5]; exact HF.out (i1 : Int) W (by omega) (by omega) hW)
          have hi1i := hi1
          have HG6 := Lib.hid g6
          have HI1 := Lib.hid hi1
          have HEW := Lib.hid (And.intro ew (And.intro ew2 ew3))
          clear hf5 hf7 hf0 h hk g1 g5 g6 hi1 hi1i ew ew2 ew3
          go_wp2_with fail
          generalize wr.alloc (.cells #[.int .i64 x.kind, .int .i64 x.a, .int .i64 x.b, .slice As sl ks, .int .i64 x.mn, .int .i64 x.mx, .int .i64 x.n] 35) = w7 at *
          refine (HFA.out _ HB7.out).mono ?_
          rintro e w9 ⟨rfl, hb9⟩
          have HX9 := Lib.hid (keepL HX7.out hb9)
          have HK9 := Lib.hid (keepL HK7.out hb9)
          have HB9 := Lib.hid (HB7.out.trans (hb9.mono (by omega)))
          clear hb9
          obtain ⟨⟨r0, r1, r2, _, _, _, _⟩, _⟩ := blk7 HX9.out
          rw [HI1.out] at r2
          obtain ⟨s9, _⟩ := obj29 HK9.out
          clear q0 q1 q2 s3 p0 p1 p2 p3 p4 p5 p6 t3
          go_wp2_with fail
          obtain ⟨ew, ew2, ew3⟩ := HEW.out
          obtain ⟨bk, hbk⟩ : ∃ bk, wr.heap.size = bk := ⟨_, rfl⟩
          have HFB9 := Lib.hid (show ∀ W, Below w9.heap.size w9 W → _ from fun W hW => HFB.out W (HB9.out.trans (hW.mono HB9.out.size)))
          have HSF := Lib.hid (show ∀ W, Below w9.heap.size w9 W → ((W.cell? ⟨k3, 0, none⟩ = some (.slice (some ⟨bb, off, none⟩) m ct) ∧ W.cell? ⟨wr.heap.size, 1, none⟩ = some (.int .i64 x.a) ∧ W.cell? ⟨wr.heap.size, 2, none⟩ = some (.int .i64 (i1 : Int))) ∧ Below w9.heap.size w9 W) from fun W hW => ⟨⟨(hW.cell (p := ⟨k3, 0, none⟩) (lt_of_heap HK9.out)).trans s9, (hW.cell (p := ⟨wr.heap.size, 1, none⟩) (lt_of_heap HX9.out)).trans r1, (hW.cell (p := ⟨wr.heap.size, 2, none⟩) (lt_of_heap HX9.out)).trans r2⟩, hW⟩)
          clear hbk r0
          go_region_held3 (fun W => (W.cell? ⟨k3, 0, none⟩ = some (.slice (some ⟨bb, off, none⟩) m ct) ∧ W.cell? ⟨wr.heap.size, 1, none⟩ = some (.int .i64 x.a) ∧ W.cell? ⟨wr.heap.size, 2, none⟩ = some (.int .i64 (i1 : Int))) ∧ Below w9.heap.size w9 W) (first
            | exact HSF.out _ (Below.refl _ _).drew
            | assumption
            | exact HSF.out _ (S.bel_trans (held4 (by assumption)) (by assumption))
            | fail) (first
            | (go_at_call 17; (with_reducible refine (HFB9.out _ (held4 (by assumption))).mono ?_); rintro e w10 ⟨rfl, hb10⟩)
            | fail)
          rename_i hHeld
          obtain ⟨⟨y3, _, _⟩, hbn⟩ := hHeld
          have HB9 := Lib.hid (HB9.out.trans (hbn.mono HB9.out.size))
          clear hbn ew ew2 ew3 r1 r2 s9
          go_wp2_with fail
          refine (HFI.out _ HB9.out).mono ?_
          rintro e wz ⟨rfl, hbz⟩
          have HBZ := Lib.hid (HB9.out.trans (hbz.mono HB9.out.size))
          clear hbz
          rw [HG6.out]
          go_wp2_with fail
          go_roundw
          case rel => exact ⟨i + 1, congrArg (Value.int .i64) (by omega), hin, HBZ⟩
          case measure => simp [intOf]; omega
        · have e6 : (x.kind == 6) = false := beq_eq_false_iff_ne.2 h
          have h6 := h
          clear h
          by_cases h : x.kind = 7
          · have hk : x.kind = 7 := h
            have e7 : (x.kind == 7) = true := by simp [h]
            obtain ⟨g1, g2, g6⟩ := hf7 (by rw [hk]; decide)
            obtain ⟨i1, hi1⟩ := Int.eq_ofNat_of_zero_le g2
            have ei : (i : Int) - 1 = (i1 : Int) := by omega
            obtain ⟨⟨q0, q1, q2, _, _, _, _⟩, _⟩ := blk7 HX7.out
            rw [hi1] at q1 g6
            obtain ⟨s3, _⟩ := obj29 HK7.out
            have HFA := Lib.hid (show ∀ W, Below W3.heap.size W3 W → _ from fun W => HF.out (i1 : Int) W (by omega) (by omega))
            have HG6 := Lib.hid g6
            have HI1 := Lib.hid hi1
            clear hf5 hf7 hf0 h hk g1 g6 hi1 g2
            go_wp2_with fail
            generalize wr.alloc (.cells #[.int .i64 x.kind, .int .i64 x.a, .int .i64 x.b, .slice As sl ks, .int .i64 x.mn, .int .i64 x.mx, .int .i64 x.n] 35) = w7 at *
            refine (HFA.out _ HB7.out).mono ?_
            rintro e w9 ⟨rfl, hb9⟩
            have HX9 := Lib.hid (keepL HX7.out hb9)
            have HK9 := Lib.hid (keepL HK7.out hb9)
            have HB9 := Lib.hid (HB7.out.trans (hb9.mono (by omega)))
            clear hb9
            obtain ⟨⟨r0, r1, r2, _, _, _, _⟩, _⟩ := blk7 HX9.out
            rw [HI1.out] at r1
            obtain ⟨s9, _⟩ := obj29 HK9.out
            clear q0 q1 q2 s3 p0 p1 p2 p3 p4 p5 p6 t3
            go_wp2_with fail
            refine (HFI.out _ HB9.out).mono ?_
            rintro e wz ⟨rfl, hbz⟩
            have HBZ := Lib.hid (HB9.out.trans (hbz.mono HB9.out.size))
            clear hbz
            rw [HG6.out]
            go_wp2_with fail
            go_roundw
            case rel => exact ⟨i + 1, congrArg (Value.int .i64) (by omega), hin, HBZ⟩
            case measure => simp [intOf]; omega
          · have e7 : (x.kind == 7) = false := beq_eq_false_iff_ne.2 h
            have h7 := h
            clear h
            by_cases h : x.kind = 8
            · have hk : x.kind = 8 := h
              have e8 : (x.kind == 8) = true := by simp [h]
              obtain ⟨g1, g2, g6⟩ := hf7 (by rw [hk]; decide)
              obtain ⟨i1, hi1⟩ := Int.eq_ofNat_of_zero_le g2
              have ei : (i : Int) - 1 = (i1 : Int) := by omega
              obtain ⟨⟨q0, q1, q2, _, _, _, _⟩, _⟩ := blk7 HX7.out
              rw [hi1] at q1 g6
              obtain ⟨s3, _⟩ := obj29 HK7.out
              have HFA := Lib.hid (show ∀ W, Below W3.heap.size W3 W → _ from fun W => HF.out (i1 : Int) W (by omega) (by omega))
              have HG6 := Lib.hid g6
              have HI1 := Lib.hid hi1
              clear hf5 hf7 hf0 h hk g1 g6 hi1 g2
              go_wp2_with fail
              generalize wr.alloc (.cells #[.int .i64 x.kind, .int .i64 x.a, .int .i64 x.b, .slice As sl ks, .int .i64 x.mn, .int .i64 x.mx, .int .i64 x.n] 35) = w7 at *
              refine (HFA.out _ HB7.out).mono ?_
              rintro e w9 ⟨rfl, hb9⟩
              have HX9 := Lib.hid (keepL HX7.out hb9)
              have HK9 := Lib.hid (keepL HK7.out hb9)
              have HB9 := Lib.hid (HB7.out.trans (hb9.mono (by omega)))
              clear hb9
              obtain ⟨⟨r0, r1, r2, _, _, _, _⟩, _⟩ := blk7 HX9.out
              rw [HI1.out] at r1
              obtain ⟨s9, _⟩ := obj29 HK9.out
              clear q0 q1 q2 s3 p0 p1 p2 p3 p4 p5 p6 t3
              go_wp2_with fail
              refine (HFI.out _ HB9.out).mono ?_
              rintro e wz ⟨rfl, hbz⟩
              have HBZ := Lib.hid (HB9.out.trans (hbz.mono HB9.out.size))
              clear hbz
              rw [HG6.out]
              go_wp2_with fail
              go_roundw
              case rel => exact ⟨i + 1, congrArg (Value.int .i64) (by omega), hin, HBZ⟩
              case measure => simp [intOf]; omega
            · have e8 : (x.kind == 8) = false := beq_eq_false_iff_ne.2 h
              have h8 := h
              clear h
              by_cases h : x.kind = 9
              · have hk : x.kind = 9 := h
                have e9 : (x.kind == 9) = true := by simp [h]
                obtain ⟨g1, g2, g6⟩ := hf7 (by rw [hk]; decide)
                obtain ⟨i1, hi1⟩ := Int.eq_ofNat_of_zero_le g2
                have ei : (i : Int) - 1 = (i1 : Int) := by omega
                obtain ⟨⟨q0, q1, q2, _, _, _, _⟩, _⟩ := blk7 HX7.out
                rw [hi1] at q1 g6
                obtain ⟨s3, _⟩ := obj29 HK7.out
                have HFA := Lib.hid (show ∀ W, Below W3.heap.size W3 W → _ from fun W => HF.out (i1 : Int) W (by omega) (by omega))
                have HG6 := Lib.hid g6
                have HI1 := Lib.hid hi1
                clear hf5 hf7 hf0 h hk g1 g6 hi1 g2
                go_wp2_with fail
                generalize wr.alloc (.cells #[.int .i64 x.kind, .int .i64 x.a, .int .i64 x.b, .slice As sl ks, .int .i64 x.mn, .int .i64 x.mx, .int .i64 x.n] 35) = w7 at *
                refine (HFA.out _ HB7.out).mono ?_
                rintro e w9 ⟨rfl, hb9⟩
                have HX9 := Lib.hid (keepL HX7.out hb9)
                have HK9 := Lib.hid (keepL HK7.out hb9)
                have HB9 := Lib.hid (HB7.out.trans (hb9.mono (by omega)))
                clear hb9
                obtain ⟨⟨r0, r1, r2, _, _, _, _⟩, _⟩ := blk7 HX9.out
                rw [HI1.out] at r1
                obtain ⟨s9, _⟩ := obj29 HK9.out
                clear q0 q1 q2 s3 p0 p1 p2 p3 p4 p5 p6 t3
                go_wp2_with fail
                refine (HFI.out _ HB9.out).mono ?_
                rintro e wz ⟨rfl, hbz⟩
                have HBZ := Lib.hid (HB9.out.trans (hbz.mono HB9.out.size))
                clear hbz
                rw [HG6.out]
                go_wp2_with fail
                go_roundw
                case rel => exact ⟨i + 1, congrArg (Value.int .i64) (by omega), hin, HBZ⟩
                case measure => simp [intOf]; omega
              · have e9 : (x.kind == 9) = false := beq_eq_false_iff_ne.2 h
                have g6 := hf0 (by omega)
                have HG6 := Lib.hid g6
                clear hf5 hf7 hf0 h h5 h6 h7 h8 g6
                obtain ⟨⟨q0, _, _, _, _, _, _⟩, _⟩ := blk7 HX7.out
                obtain ⟨s3, _⟩ := obj29 HK7.out
                go_wp2_with fail
                refine (HFI.out _ HB7.out).mono ?_
                rintro e wz ⟨rfl, hbz⟩
                have HBZ := Lib.hid (HB7.out.trans (hbz.mono HB7.out.size))
                clear hbz
                rw [HG6.out]
                go_wp2_with fail
                go_roundw
                case rel => exact ⟨i + 1, congrArg (Value.int .i64) (by omega), hin, HBZ⟩
                case measure => simp [intOf]; omega
    · have d1 : decide (i < m) = false := decide_eq_false hin
      obtain rfl : i = m := by omega
      obtain ⟨m1, rfl⟩ : ∃ m1, i = m1 + 1 := ⟨i - 1, by omega⟩
      have em : ((m1 + 1 : Nat) : Int) - 1 = (m1 : Int) := by omega
      have HL0 := Lib.hid (show fst L (m1 : Int) = 0 from HLA.out)
      have HFL := Lib.hid (HF.out (m1 : Int) wr (by omega) (by omega) HB.out)
      go_wp2_with fail
      refine HFL.out.mono ?_
      rintro e w9 ⟨rfl, hb9⟩
      rw [HL0.out]
      have HB9 := Lib.hid (HB3.out.trans ((HB.out.trans (hb9.mono hws)).mono HB3.out.size))
      clear hb9
      go_wp2_with fail
      refine (wakes_any _).mono ?_
      rintro e w10 ⟨rfl, hb10⟩
      have HB10 := Lib.hid (HB9.out.trans (hb10.mono HB9.out.size))
      go_wp2_with fail
      go_ret
      exact ⟨rfl, HB10.out⟩
end Go.Proofs.Ytbapdckokphmbaa

namespace Go.Proofs.Ytbapdckokphmbaa
open Go.ChangeShapes Go.WideShapes Go.ChangeAt Go.RowKit ObSets ObTree

set_option maxRecDepth 100000 in
theorem treeFirst_lifted (os : Os) (started : os.Started) (H : Type) (enc : TypeId × Value → H) :
    ReturnsInHanded {} Try.checked os 5 .any (Rows.treeFirstSpec.pre6 enc Try.prog Try.f5 Rows.treeFirstRow.domain false) (Rows.treeFirstSpec.post enc Try.prog Try.f5 false true false false) := by
  refine returnsInHanded_of_change (C := Try.checked) Try.own started (by kernel_rfl) Try.func5
    (ChangeSpec.witness6 (enc := enc) (C := Try.checked) false ⟨#[], #[.agg #[.slice none 0 0, .string ⟨#[]⟩, .slice none 0 0, .int .i64 0, .int .i64 0, .int .i64 0, .bool false]], []⟩ 8 (by kernel_rfl) (by kernel_rfl) (by kernel_rfl) (by kernel_rfl)) ?_
  intro W base args ds gs before hval0 hW _ _
  have hval : ∀ (j : Nat) t v, Try.f5.params[j]? = some t → args[j]? = some v → Value.okWide Try.prog W .any base t v := hval0
  have hW' := hW
  obtain ⟨p, q, hA0, hV, rfl, _, _⟩ := hW
  have hA : DataW.TrodAll enc Try.prog W 0 (fun _ => true) true Try.f5.params.toList args.toList ds p := hA0
  rw [Try.params5] at hA hval
  obtain ⟨v0, d0, rfl, rfl, h0⟩ := trodAll_one hA
  obtain ⟨rfl, rfl⟩ := trodVars_none hV
  have h0k := h0
  obtain ⟨A0, n0, c0, e1, e2, e3, e4, e5, e6, Z, rfl, hn0, hm0, hZ⟩ := view_case (hval 0 32 v0 rfl rfl) h0
  clear hA0 hval0
  simp only [List.append_nil] at hW'
  have hlt : ∀ x ∈ p, x.block < W.heap.size := fun x hx => hW'.lt x (by simpa using hx)
  refine (first_walk A0 n0 c0 e1 e2 e3 e4 e5 e6 Z W hZ hn0 hm0).mono fun e W' ⟨he, hb⟩ => ?_
  subst he
  exact ⟨_, rfl, _, _, _, [], p, [], hW', trodAll_mk1 (shut_bool Try.underlying4 _), trodAll_mk1 (Below.trod Try.laidOut (by kernel_rfl) (of_decide_eq_true (by kernel_rfl)) h0k hb hlt), rfl, hb.frame _, fun h => by cases h⟩
theorem treeFirst_holds : Rows.TreeFirstSaid :=
  OpenClaim.holds_of_wide 5 Try.f5 rfl rfl rfl rfl rfl rfl rfl ⟨rfl, rfl, rfl, rfl, rfl⟩ rfl rfl rfl rfl rfl (by kernel_rfl) Try.func5 (by kernel_rfl)
    (of_decide_eq_true (by kernel_rfl)) (by unfold Func.isWrapper; first | (rw [if_pos (by decide +kernel)]; kernel_rfl) | (rw [if_neg (by decide +kernel)]; exact ⟨rfl, rfl⟩))
    (fun os started H enc _ => treeFirst_lifted os started H enc)
end Go.Proofs.Ytbapdckokphmbaa
