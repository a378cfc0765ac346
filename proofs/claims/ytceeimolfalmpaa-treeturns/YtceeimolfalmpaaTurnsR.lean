/-
  A tree and a node that came in, opened: the value, the nodes, and how they lie. Beside it what the rows share. No condition.
  A case of the statements as an argument: its numbers. No conditions.
  PROVED: for every case, node and two numbers, TreeTurns returns true and each argument reads as it read before: of the good tree that the statements make by at most 24 of the case's numbers, Sound, Good, Caps, Leaves and First answer as the document's page defines them; with one node's fields turned they do still, Same of both is said just if the node is as it was; and so for the nodes ahead of that node alone.
  Conditions: none.
-/
import Derived.Test.YtceeimolfalmpaaRows
import Derived.Test.YtceeimolfalmpaaVX
import Derived.Deep.SlicePairs
import Derived.Lib.SmallJoins
import Derived.ProofKit
import Derived.Test.YtceeimolfalmpaaVF
import Derived.Test.YtceeimolfalmpaaTurnsX
import Derived.Carry
namespace Go.Proofs.Ytceeimolfalmpaa
open Go.ChangeShapes Go.WideShapes Go.ChangeAt Go.RowKit ObSets ObTree

theorem Try.own : ownKnob Try.prog.godebug = none := by kernel_rfl
theorem Try.laidOut : laidOutB Try.prog = true := by kernel_rfl
theorem cell_lt {w : World} {b o : Nat} {v : Value} (h : w.cell? ⟨b, o, none⟩ = some v) : b < w.heap.size := by
  rcases Nat.lt_or_ge b w.heap.size with h1 | h1
  · exact h1
  · unfold World.cell? at h
    rw [Array.getElem?_eq_none h1] at h
    cases h
section
variable {H : Type} {enc : TypeId × Value → H}
/-- A slice of ranges in a cell. -/
theorem view_rngs {W : World} {fuel : Nat} {cs : List Value} {y : DataW H × List MemPlace} (hf : DataW.trod enc Try.prog W 0 (fun _ => true) true fuel 33 cs = some y) :
    ∃ A n c l, cs = [.slice A n c] ∧ l.length = n ∧ n ≤ c ∧ c ≤ maxLen ∧ (A = none → l = []) ∧ S.Rgs W W.heap.size A l := by
  rcases Deep.open_slice_pairs Try.underlying33 Try.underlying69 (by kernel_rfl) rfl rfl (by kernel_rfl) (by kernel_rfl) hf with ⟨hcs, _⟩ | ⟨a, n, c, m, k, V0, V1, D0, D1, P0, P1, hcs, _, hl, hm, hmm, _, hcell⟩
  · exact ⟨none, 0, 0, [], hcs, rfl, Nat.le_refl _, Nat.zero_le _, fun _ => rfl, S.Rgs.nil⟩
  · have hlm : n ≤ m := by rw [hmm]; split <;> omega
    have ints : ∀ i, ∃ q : Int × Int, i < n → V0 i = .int .i64 q.1 ∧ V1 i = .int .i64 q.2 := fun i => by
      by_cases hi : i < n
      · obtain ⟨_, _, h0, h1⟩ := hcell i (by omega)
        obtain ⟨x, hx, _, wx⟩ := DataW.trod_int Try.underlying3 h0
        obtain ⟨y, hy, _, wy⟩ := DataW.trod_int Try.underlying3 h1
        exact ⟨(x, y), fun _ => ⟨by injection hx, by injection hy⟩⟩
      · exact ⟨(0, 0), fun h => absurd h hi⟩
    obtain ⟨q, hq⟩ := Classical.axiomOfChoice ints
    refine ⟨some a, n, c, (List.range n).map q, hcs, by simp, hl, hm, (fun h => by cases h), fun h0 => ?_⟩
    have hn : 0 < n := by
      rcases Nat.eq_zero_or_pos n with h1 | h1
      · subst h1; simp at h0
      · exact h1
    obtain ⟨b, off, spot⟩ := a
    have hspot : spot = none := by simpa [Addr.add] using World.cell?_spot (hcell 0 (by omega)).1
    subst hspot
    refine ⟨b, off, rfl, ?_, fun j r hj => ?_⟩
    · have := (hcell 0 (by omega)).1
      rw [add_plain] at this
      exact cell_lt this
    · have hj' : j < n := by
        rcases Nat.lt_or_ge j n with h1 | h1
        · exact h1
        · rw [List.getElem?_eq_none (by simp; omega)] at hj; cases hj
      have hr : r = q j := by
        rw [List.getElem?_map, List.getElem?_range hj'] at hj
        simp at hj; exact hj.symm
      subst hr
      obtain ⟨c0, c1, _, _⟩ := hcell j (by omega)
      obtain ⟨e0, e1⟩ := hq j hj'
      rw [add_plain, e0] at c0
      rw [add_plain, e1, ← Nat.add_assoc] at c1
      exact ⟨c0, c1⟩
theorem trod_struct7 {P : Program} {w : World} {base : Nat} {spare : Nat → Bool} {held : Bool} {t : TypeId} {f0 f1 f2 f3 f4 f5 f6 : Field} {fuel : Nat} {cs : List Value} {x : DataW H × List MemPlace} (ht : P.underlying t = some (.struct #[f0, f1, f2, f3, f4, f5, f6])) (h : DataW.trod enc P w base spare held fuel t cs = some x) :
    ∃ y0 y1 y2 y3 y4 y5 y6 n, cs.length = P.cellsOf t ∧ DataW.trod enc P w base spare held n f0.type ((cs.drop f0.offset).take (P.cellsOf f0.type)) = some y0 ∧ DataW.trod enc P w base spare held n f1.type ((cs.drop f1.offset).take (P.cellsOf f1.type)) = some y1 ∧
      DataW.trod enc P w base spare held n f2.type ((cs.drop f2.offset).take (P.cellsOf f2.type)) = some y2 ∧ DataW.trod enc P w base spare held n f3.type ((cs.drop f3.offset).take (P.cellsOf f3.type)) = some y3 ∧ DataW.trod enc P w base spare held n f4.type ((cs.drop f4.offset).take (P.cellsOf f4.type)) = some y4 ∧
      DataW.trod enc P w base spare held n f5.type ((cs.drop f5.offset).take (P.cellsOf f5.type)) = some y5 ∧ DataW.trod enc P w base spare held n f6.type ((cs.drop f6.offset).take (P.cellsOf f6.type)) = some y6 := by
  obtain ⟨xs, n, _, rfl, hl, hlen, hf⟩ := DataW.trod_struct ht h
  match xs, hlen with
  | [y0, y1, y2, y3, y4, y5, y6], _ => exact ⟨y0, y1, y2, y3, y4, y5, y6, n, hl, by simpa using hf 0 f0 rfl, by simpa using hf 1 f1 rfl, by simpa using hf 2 f2 rfl, by simpa using hf 3 f3 rfl, by simpa using hf 4 f4 rfl, by simpa using hf 5 f5 rfl, by simpa using hf 6 f6 rfl⟩
theorem list7 {α : Type} {l : List α} (h : l.length = 7) : ∃ a b c d e f g, l = [a, b, c, d, e, f, g] := by
  match l, h with
  | [a, b, c, d, e, f, g], _ => exact ⟨a, b, c, d, e, f, g, rfl⟩
set_option maxRecDepth 100000 in
/-- The seven cells of a node. -/
theorem nd_cells {W : World} {fuel : Nat} {cs : List Value} {x : DataW H × List MemPlace} (h : DataW.trod enc Try.prog W 0 (fun _ => true) true fuel 35 cs = some x) :
    ∃ (x : Nd) (As : Option Addr) (ks : Nat), cs = [.int .i64 x.kind, .int .i64 x.a, .int .i64 x.b, .slice As x.set.length ks, .int .i64 x.mn, .int .i64 x.mx, .int .i64 x.n] ∧ S.Rgs W W.heap.size As x.set ∧ x.set.length ≤ ks ∧ ks ≤ maxLen ∧ (As = none → x.set = []) := by
  obtain ⟨y0, y1, y2, y3, y4, y5, y6, n, hl, h0, h1, h2, h3, h4, h5, h6⟩ := trod_struct7 Try.underlying35 h
  have hce : Try.prog.cellsOf 35 = 7 := by kernel_rfl
  obtain ⟨c0, c1, c2, c3, c4, c5, c6, rfl⟩ := list7 (hl.trans hce)
  obtain ⟨a0, e0, _⟩ := DataW.trod_int Try.underlying3 h0
  obtain ⟨a1, e1, _⟩ := DataW.trod_int Try.underlying3 h1
  obtain ⟨a2, e2, _⟩ := DataW.trod_int Try.underlying3 h2
  obtain ⟨A, m, c, l, e3, hlm, r1, r2, r3, r4⟩ := view_rngs h3
  obtain ⟨a4, e4, _⟩ := DataW.trod_int Try.underlying3 h4
  obtain ⟨a5, e5, _⟩ := DataW.trod_int Try.underlying3 h5
  obtain ⟨a6, e6, _⟩ := DataW.trod_int Try.underlying3 h6
  have f0 : [c0] = [Value.int .i64 a0] := e0
  have f1 : [c1] = [Value.int .i64 a1] := e1
  have f2 : [c2] = [Value.int .i64 a2] := e2
  have f3 : [c3] = [Value.slice A m c] := e3
  have f4 : [c4] = [Value.int .i64 a4] := e4
  have f5 : [c5] = [Value.int .i64 a5] := e5
  have f6 : [c6] = [Value.int .i64 a6] := e6
  simp only [List.cons.injEq, and_true] at f0 f1 f2 f3 f4 f5 f6
  subst f0 f1 f2 f3 f4 f5 f6
  subst hlm
  exact ⟨⟨a0, a1, a2, l, a4, a5, a6⟩, A, c, rfl, r4, r1, r2, r3⟩
/-- A slice of nodes in a cell. -/
theorem view_nodes {W : World} {fuel : Nat} {cs : List Value} {y : DataW H × List MemPlace} (hf : DataW.trod enc Try.prog W 0 (fun _ => true) true fuel 22 cs = some y) :
    ∃ A n c l, cs = [.slice A n c] ∧ l.length = n ∧ n ≤ maxLen ∧ NrA W A l := by
  rcases Deep.open_slice Try.underlying22 hf with ⟨hcs, _⟩ | ⟨a, n, c, m, k, D, Pl, hcs, _, hl, hm, hmm, _, hx⟩
  · exact ⟨none, 0, 0, [], hcs, rfl, Nat.zero_le _, fun h => absurd rfl h⟩
  · have hlm : n ≤ m := by rw [hmm]; split <;> omega
    have hce : Try.prog.cellsOf 35 = 7 := by kernel_rfl
    have each : ∀ i, ∃ q : Nd × (Option Addr × Nat), i < n → (W.cell? (a.add (i * 7)) = some (.int .i64 q.1.kind) ∧ W.cell? (a.add (i * 7 + 1)) = some (.int .i64 q.1.a) ∧ W.cell? (a.add (i * 7 + 2)) = some (.int .i64 q.1.b) ∧ W.cell? (a.add (i * 7 + 3)) = some (.slice q.2.1 q.1.set.length q.2.2) ∧ W.cell? (a.add (i * 7 + 4)) = some (.int .i64 q.1.mn) ∧ W.cell? (a.add (i * 7 + 5)) = some (.int .i64 q.1.mx) ∧ W.cell? (a.add (i * 7 + 6)) = some (.int .i64 q.1.n)) ∧ S.Rgs W W.heap.size q.2.1 q.1.set ∧ q.1.set.length ≤ q.2.2 ∧ q.2.2 ≤ maxLen ∧ (q.2.1 = none → q.1.set = []) := fun i => by
      by_cases hi : i < n
      · obtain ⟨cs', h1, h2⟩ := hx i (by omega)
        rw [hce] at h1
        obtain ⟨_, hlen, hcell⟩ := World.cells?_some h1
        obtain ⟨x, As, ks, rfl, r⟩ := nd_cells h2
        refine ⟨(x, As, ks), fun _ => ⟨?_, r⟩⟩
        have e0 := hcell 0 (by omega)
        have e1 := hcell 1 (by omega)
        have e2 := hcell 2 (by omega)
        have e3 := hcell 3 (by omega)
        have e4 := hcell 4 (by omega)
        have e5 := hcell 5 (by omega)
        have e6 := hcell 6 (by omega)
        rw [Deep.add_add] at e0 e1 e2 e3 e4 e5 e6
        exact ⟨e0, e1, e2, e3, e4, e5, e6⟩
      · exact ⟨(⟨0, 0, 0, [], 0, 0, 0⟩, none, 0), fun h => absurd h hi⟩
    obtain ⟨q, hq⟩ := Classical.axiomOfChoice each
    refine ⟨some a, n, c, (List.range n).map fun i => (q i).1, hcs, by simp, by omega, fun h0 => ?_⟩
    have hn : 0 < n := by
      rcases Nat.eq_zero_or_pos n with h1 | h1
      · subst h1; simp at h0
      · exact h1
    obtain ⟨b, off, spot⟩ := a
    have hspot : spot = none := by
      have := World.cell?_spot (hq 0 hn).1.1
      simpa [Addr.add] using this
    subst hspot
    refine ⟨b, off, rfl, ?_, fun j r hj => ?_⟩
    · have := (hq 0 hn).1.1
      rw [add_plain] at this
      exact cell_lt this
    · have hj' : j < n := by
        rcases Nat.lt_or_ge j n with h1 | h1
        · exact h1
        · rw [List.getElem?_eq_none (by simp; omega)] at hj; cases hj
      have hr : r = (q j).1 := by
        rw [List.getElem?_map, List.getElem?_range hj'] at hj
        simp at hj; exact hj.symm
      subst hr
      obtain ⟨⟨c0, c1, c2, c3, c4, c5, c6⟩, rest⟩ := hq j hj'
      rw [add_plain] at c0 c1 c2 c3 c4 c5 c6
      rw [← Nat.add_assoc] at c1 c2 c3 c4 c5 c6
      exact ⟨_, _, ⟨c0, c1, c2, c3, c4, c5, c6⟩, rest⟩
theorem array1 {α : Type} {cs : Array α} (h : cs.size = 1) : ∃ c0, cs = #[c0] := by
  obtain ⟨l⟩ := cs
  match l, h with
  | [c0], _ => exact ⟨c0, rfl⟩
set_option maxRecDepth 100000 in
/-- A tree by value. -/
theorem view_tree {W : World} {r : Reach} {b0 : Nat} {d : DataW H} {p : List MemPlace} {v : Value} (hv : Value.okWide Try.prog W r b0 24 v) (h : DataW.Trod enc Try.prog W 0 (fun _ => true) true 24 v d p) :
    ∃ A n c l, v = tr A n c ∧ l.length = n ∧ n ≤ maxLen ∧ NrA W A l := by
  obtain ⟨cs, rfl, hsz⟩ := okWide_struct Try.underlying24 hv
  have hce : Try.prog.cellsOf 24 = 1 := by kernel_rfl
  obtain ⟨c0, rfl⟩ := array1 (hsz.trans hce)
  obtain ⟨fuel, hf⟩ := h
  obtain ⟨y0, n, _, _, h0⟩ := trod_struct1 Try.underlying24 hf
  obtain ⟨A, m, c, l, e, r1, r2, r3⟩ := view_nodes h0
  have f0 : [c0] = [Value.slice A m c] := by
    have : (((#[c0] : Array Value).toList).drop 0).take 1 = [c0] := rfl
    have hc : Try.prog.cellsOf 22 = 1 := by kernel_rfl
    simpa [Value.cells, hc] using e
  simp only [List.cons.injEq, and_true] at f0
  subst f0
  exact ⟨A, m, c, l, rfl, r1, r2, r3⟩
end
end Go.Proofs.Ytceeimolfalmpaa

namespace Go.Proofs.Ytceeimolfalmpaa
open Go.ChangeShapes Go.WideShapes Go.ChangeAt Go.RowKit ObSets ObTree
section
variable {H : Type} {enc : TypeId × Value → H}
theorem arr7 {cs : Array Value} (h : cs.size = 7) : ∃ a b c d e f g, cs = #[a, b, c, d, e, f, g] := by
  obtain ⟨l⟩ := cs
  match l, h with
  | [a, b, c, d, e, f, g], _ => exact ⟨a, b, c, d, e, f, g, rfl⟩
set_option maxRecDepth 100000 in
/-- A case by value. -/
theorem view_case {W : World} {r : Reach} {b0 : Nat} {d : DataW H} {p : List MemPlace} {v : Value} (hv : Value.okWide Try.prog W r b0 32 v) (h : DataW.Trod enc Try.prog W 0 (fun _ => true) true 32 v d p) :
    ∃ A n c c1 c2 c3 c4 c5 c6 Z, v = .agg #[.slice A n c, c1, c2, c3, c4, c5, c6] ∧ Z.length = n ∧ n ≤ maxLen ∧ IntsAt W (.slice A n c) Z := by
  obtain ⟨cs, rfl, hsz⟩ := okWide_struct Try.underlying32 hv
  have hce : Try.prog.cellsOf 32 = 7 := by kernel_rfl
  obtain ⟨c0, c1, c2, c3, c4, c5, c6, rfl⟩ := arr7 (hsz.trans hce)
  obtain ⟨fuel, hf⟩ := h
  obtain ⟨xs, n, _, _, _, hlen, hfs⟩ := DataW.trod_struct Try.underlying32 hf
  have hc : Try.prog.cellsOf 29 = 1 := by kernel_rfl
  obtain ⟨x0, hx0⟩ : ∃ x0, xs[0]? = some x0 := ⟨_, List.getElem?_eq_getElem (by rw [hlen]; decide)⟩
  have h0 : DataW.trod enc Try.prog W 0 (fun _ => true) true n 29 [c0] = some x0 := by
    have h1 := hfs 0 _ rfl
    rw [hx0] at h1
    simpa [Value.cells, hc] using h1
  clear hfs hf
  rcases open_ints Try.underlying29 Try.underlying3 (by kernel_rfl) h0 with ⟨hcs, _⟩ | ⟨a, len, cap, zs, hcs, _, hl, hm, hz, _, hcell, _⟩
  · simp only [List.cons.injEq, and_true] at hcs
    subst hcs
    exact ⟨none, 0, 0, c1, c2, c3, c4, c5, c6, [], rfl, rfl, Nat.zero_le _, none, 0, rfl, fun j z hj => by simp at hj⟩
  · simp only [List.cons.injEq, and_true] at hcs
    subst hcs
    simp only [if_true] at hz
    have hlen2 : (zs.take len).length = len := by rw [List.length_take]; omega
    refine ⟨some a, len, cap, c1, c2, c3, c4, c5, c6, zs.take len, rfl, hlen2, by omega, some a, cap, by rw [hlen2], fun j z hj => ?_⟩
    have hjl : j < len := by have := (List.getElem?_eq_some_iff.1 hj).1; omega
    obtain ⟨b, off, rfl, hcc⟩ := ints_at hcell (by omega)
    rw [List.getElem?_take, if_pos hjl] at hj
    have hg := hcc j (by omega)
    have ez : zs.getD j 0 = z := by simp [List.getD, hj]
    rw [ez] at hg
    exact ⟨b, off, rfl, cell_lt hg, hg⟩
end
end Go.Proofs.Ytceeimolfalmpaa

namespace Go.Proofs.Ytceeimolfalmpaa
open Go.ChangeShapes Go.WideShapes Go.ChangeAt Go.RowKit ObSets ObTree
section
variable {H : Type} {enc : TypeId × Value → H}
set_option maxRecDepth 100000 in
/-- A node by value. -/
theorem view_node {W : World} {r : Reach} {b0 : Nat} {d : DataW H} {p : List MemPlace} {v : Value} (hv : Value.okWide Try.prog W r b0 35 v) (h : DataW.Trod enc Try.prog W 0 (fun _ => true) true 35 v d p) :
    ∃ (x : Nd) (As : Option Addr) (ks : Nat), v = nv x (.slice As x.set.length ks) ∧ S.Rgs W W.heap.size As x.set ∧ x.set.length ≤ ks ∧ ks ≤ maxLen ∧ (As = none → x.set = []) := by
  obtain ⟨cs, rfl, hsz⟩ := okWide_struct Try.underlying35 hv
  have hce : Try.prog.cellsOf 35 = 7 := by kernel_rfl
  obtain ⟨c0, c1, c2, c3, c4, c5, c6, rfl⟩ := arr7 (hsz.trans hce)
  obtain ⟨fuel, hf⟩ := h
  obtain ⟨x, As, ks, e, r⟩ := nd_cells hf
  refine ⟨x, As, ks, ?_, r⟩
  have f : [c0, c1, c2, c3, c4, c5, c6] = [Value.int .i64 x.kind, .int .i64 x.a, .int .i64 x.b, .slice As x.set.length ks, .int .i64 x.mn, .int .i64 x.mx, .int .i64 x.n] := e
  simp only [List.cons.injEq, and_true] at f
  obtain ⟨rfl, rfl, rfl, rfl, rfl, rfl, rfl⟩ := f
  rfl
end
set_option maxRecDepth 100000 in
theorem treeTurns_lifted (os : Os) (started : os.Started) (H : Type) (enc : TypeId × Value → H) :
    ReturnsInHanded {} Try.checked os 4 .any (Rows.treeTurnsSpec.pre6 enc Try.prog Try.f4 Rows.treeTurnsRow.domain false) (Rows.treeTurnsSpec.post enc Try.prog Try.f4 false true false false) := by
  refine returnsInHanded_of_change (C := Try.checked) Try.own started (by kernel_rfl) Try.func4
    (ChangeSpec.witness6 (enc := enc) (C := Try.checked) false ⟨#[], #[.agg #[.slice none 0 0, .string ⟨#[]⟩, .slice none 0 0, .int .i64 0, .int .i64 0, .int .i64 0, .bool false], .agg #[.int .i64 0, .int .i64 0, .int .i64 0, .slice none 0 0, .int .i64 0, .int .i64 0, .int .i64 0], .int .i64 0, .int .i64 0], []⟩ 8 (by kernel_rfl) (by kernel_rfl) (by kernel_rfl) (by kernel_rfl)) ?_
  intro W base args ds gs before hval0 hW _ _
  have hval : ∀ (j : Nat) t v, Try.f4.params[j]? = some t → args[j]? = some v → Value.okWide Try.prog W .any base t v := hval0
  have hW' := hW
  obtain ⟨p, q, hA0, hV, rfl, _, _⟩ := hW
  have hA : DataW.TrodAll enc Try.prog W 0 (fun _ => true) true Try.f4.params.toList args.toList ds p := hA0
  rw [Try.params4] at hA hval
  obtain ⟨v0, v1, v2, v3, d0, d1, d2, d3, p0, p1, p2, p3, rfl, rfl, rfl, h0, h1, h2, h3⟩ := trodAll_four hA
  obtain ⟨rfl, rfl⟩ := trodVars_none hV
  have h0k := h0; have h1k := h1
  obtain ⟨A0, n0, c0, e1, e2, e3, e4, e5, e6, Y, rfl, hn0, hm0, hY⟩ := view_case (hval 0 32 v0 rfl rfl) h0
  obtain ⟨y, Ay, ky, rfl, hr, hk1, hk2, hk3⟩ := view_node (hval 1 35 v1 rfl rfl) h1
  obtain ⟨x2, rfl, rfl, rfl, wf2⟩ := open_int Try.underlying3 (hval 2 3 v2 rfl rfl) h2
  obtain ⟨x3, rfl, rfl, rfl, wf3⟩ := open_int Try.underlying3 (hval 3 3 v3 rfl rfl) h3
  clear hA0 hval0
  simp only [List.append_nil] at hW'
  have hlt : ∀ x ∈ p0 ++ p1, x.block < W.heap.size := fun x hx => hW'.lt x (by simpa using hx)
  refine (turns_walk A0 n0 c0 e1 e2 e3 e4 e5 e6 Y y Ay ky x2 x3 W hY hn0 hm0 hr hk1 hk2 hk3).mono fun e W' ⟨he, hb⟩ => ?_
  subst he
  have ha := trodAll_mk4 (Below.trod Try.laidOut (by kernel_rfl) (of_decide_eq_true (by kernel_rfl)) h0k hb (fun x hx => hlt x (by simp [hx]))) (Below.trod Try.laidOut (by kernel_rfl) (of_decide_eq_true (by kernel_rfl)) h1k hb (fun x hx => hlt x (by simp [hx]))) (shut_int Try.underlying3 wf2) (shut_int Try.underlying3 wf3)
  simp only [List.append_nil] at ha
  exact ⟨_, rfl, _, _, _, [], _, [], hW', trodAll_mk1 (shut_bool Try.underlying4 _), ha, rfl, hb.frame _, fun h => by cases h⟩
theorem treeTurns_holds : Rows.TreeTurnsSaid :=
  OpenClaim.holds_of_wide 4 Try.f4 rfl rfl rfl rfl rfl rfl rfl ⟨rfl, rfl, rfl, rfl, rfl⟩ rfl rfl rfl rfl rfl (by kernel_rfl) Try.func4 (by kernel_rfl)
    (of_decide_eq_true (by kernel_rfl)) (by unfold Func.isWrapper; first | (rw [if_pos (by decide +kernel)]; kernel_rfl) | (rw [if_neg (by decide +kernel)]; exact ⟨rfl, rfl⟩))
    (fun os started H enc _ => treeTurns_lifted os started H enc)
end Go.Proofs.Ytceeimolfalmpaa
