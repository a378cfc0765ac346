/-
  An edit and a slice of edits that came in, opened: the value, the list, and how it lies. Beside it what the rows share. No condition.
-/
import Derived.Test.YtlobaokeagpefaaRows
import Derived.Test.YtlobaokeagpefaaMem2
import Derived.Lib.SmallJoins
import Derived.ProofKit
namespace Go.Proofs.Ytlobaokeagpefaa
open Go.ChangeShapes Go.WideShapes Go.ChangeAt Go.RowKit ObGap

theorem Try.own : ownKnob Try.prog.godebug = none := by kernel_rfl
theorem Try.laidOut : laidOutB Try.prog = true := by kernel_rfl
theorem cell_lt {w : World} {b o : Nat} {v : Value} (h : w.cell? ⟨b, o, none⟩ = some v) : b < w.heap.size := by
  rcases Nat.lt_or_ge b w.heap.size with h1 | h1
  · exact h1
  · unfold World.cell? at h
    rw [Array.getElem?_eq_none h1] at h
    cases h
section
variable {H : Type} {enc : TypeId × Value → H}
/-- The four cells of an edit. -/
theorem ed_cells {W : World} {base : Nat} {spare : Nat → Bool} {held : Bool} {fuel : Nat} {cs : List Value} {x : DataW H × List MemPlace} (h : DataW.trod enc Try.prog W base spare held fuel 34 cs = some x) :
    ∃ e : Ed, cs = [.int .i64 e.k, .int .i64 e.a, .int .i64 e.n, str e.s] := by
  obtain ⟨y0, y1, y2, y3, n, _, hl, h0, h1, h2, h3⟩ := Joins.trod_struct4 Try.underlying34 h
  have hl4 : cs.length = 4 := hl.trans (by kernel_rfl)
  match cs, hl4 with
  | [c0, c1, c2, c3], _ =>
    obtain ⟨a0, e0, _⟩ := DataW.trod_int Try.underlying3 h0
    obtain ⟨a1, e1, _⟩ := DataW.trod_int Try.underlying3 h1
    obtain ⟨a2, e2, _⟩ := DataW.trod_int Try.underlying3 h2
    obtain ⟨a3, e3, _⟩ := DataW.trod_string Try.underlying9 h3
    have f0 : [c0] = [Value.int .i64 a0] := e0
    have f1 : [c1] = [Value.int .i64 a1] := e1
    have f2 : [c2] = [Value.int .i64 a2] := e2
    have f3 : [c3] = [Value.string a3] := e3
    simp only [List.cons.injEq, and_true] at f0 f1 f2 f3
    subst f0 f1 f2 f3
    exact ⟨⟨a0, a1, a2, a3.data.toList⟩, rfl⟩
theorem view {W : World} {d : DataW H} {p : List MemPlace} {v : Value} (h : DataW.Trod enc Try.prog W 0 (fun _ => true) true 22 v d p) (hv : ∃ A n c, v = .slice A n c) :
    ∃ A c l, v = .slice A (List.length l) c ∧ Eds W W.heap.size A l := by
  obtain ⟨A, n, c, rfl⟩ := hv
  obtain ⟨fuel, hf⟩ := h
  rcases Deep.open_slice Try.underlying22 hf with ⟨hcs, _⟩ | ⟨a, len, cap, m, k, D, Pl, hcs, _, hl, hm, hmm, _, hx⟩
  · simp [Value.cells] at hcs
    obtain ⟨rfl, rfl, rfl⟩ := hcs
    exact ⟨_, _, [], rfl, Eds.nil⟩
  · simp [Value.cells] at hcs
    obtain ⟨rfl, rfl, rfl⟩ := hcs
    have hlm : n ≤ m := by rw [hmm]; split <;> omega
    have hce : Try.prog.cellsOf 34 = 4 := by kernel_rfl
    have each : ∀ i, ∃ e : Ed, i < n → W.cell? (a.add (i * 4)) = some (.int .i64 e.k) ∧ W.cell? (a.add (i * 4 + 1)) = some (.int .i64 e.a) ∧ W.cell? (a.add (i * 4 + 2)) = some (.int .i64 e.n) ∧ W.cell? (a.add (i * 4 + 3)) = some (str e.s) := fun i => by
      by_cases hi : i < n
      · obtain ⟨cs', h1, h2⟩ := hx i (by omega)
        rw [hce] at h1
        obtain ⟨_, hlen, hcell⟩ := World.cells?_some h1
        obtain ⟨e, rfl⟩ := ed_cells h2
        refine ⟨e, fun _ => ?_⟩
        have e0 := hcell 0 (by omega)
        have e1 := hcell 1 (by omega)
        have e2 := hcell 2 (by omega)
        have e3 := hcell 3 (by omega)
        rw [Deep.add_add] at e0 e1 e2 e3
        exact ⟨e0, e1, e2, e3⟩
      · exact ⟨⟨0, 0, 0, []⟩, fun h => absurd h hi⟩
    obtain ⟨q, hq⟩ := Classical.axiomOfChoice each
    refine ⟨some a, c, (List.range n).map q, by simp, fun h0 => ?_⟩
    have hn : 0 < n := by
      rcases Nat.eq_zero_or_pos n with h1 | h1
      · subst h1; simp at h0
      · exact h1
    obtain ⟨b, off, spot⟩ := a
    have hspot : spot = none := by
      have := World.cell?_spot (hq 0 hn).1
      simpa [Addr.add] using this
    subst hspot
    refine ⟨b, off, rfl, ?_, fun j r hj => ?_⟩
    · have := (hq 0 hn).1
      rw [add_plain] at this
      exact cell_lt this
    · have hj' : j < n := by
        rcases Nat.lt_or_ge j n with h1 | h1
        · exact h1
        · rw [List.getElem?_eq_none (by simp; omega)] at hj; cases hj
      have hr : r = q j := by
        rw [List.getElem?_map, List.getElem?_range hj'] at hj
        simp at hj; exact hj.symm
      subst hr
      obtain ⟨c0, c1, c2, c3⟩ := hq j hj'
      rw [add_plain] at c0 c1 c2 c3
      rw [← Nat.add_assoc] at c1 c2 c3
      exact ⟨c0, c1, c2, c3⟩
/-- An edit by value. -/
theorem view_ed {W : World} {r : Reach} {b0 : Nat} {d : DataW H} {p : List MemPlace} {v : Value} (hv : Value.okWide Try.prog W r b0 34 v) (h : DataW.Trod enc Try.prog W 0 (fun _ => true) true 34 v d p) :
    ∃ e : Ed, v = .agg #[.int .i64 e.k, .int .i64 e.a, .int .i64 e.n, str e.s] := by
  obtain ⟨cs, rfl, _⟩ := okWide_struct Try.underlying34 hv
  obtain ⟨fuel, hf⟩ := h
  obtain ⟨e, he⟩ := ed_cells hf
  refine ⟨e, ?_⟩
  have : cs = #[.int .i64 e.k, .int .i64 e.a, .int .i64 e.n, str e.s] := by
    apply Array.ext'
    simpa [Value.cells] using he
  rw [this]
end
end Go.Proofs.Ytlobaokeagpefaa
