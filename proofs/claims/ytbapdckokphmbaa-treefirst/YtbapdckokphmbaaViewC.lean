/-
  A case of the statements as an argument: its numbers. No conditions.
-/
import Derived.Test.YtbapdckokphmbaaView
import Derived.Test.YtbapdckokphmbaaVF
namespace Go.Proofs.Ytbapdckokphmbaa
open Go.ChangeShapes Go.WideShapes Go.ChangeAt Go.RowKit ObSets ObTree
section
variable {H : Type} {enc : TypeId × Value → H}
theorem arr7 {cs : Array Value} (h : cs.size = 7) : ∃ a b c d e f g, cs = #[a, b, c, d, e, f, g] := by
  obtain ⟨l⟩ := cs
  match l, h with
  | [a, b, c, d, e, f, g], _ => exact ⟨a, b, c, d, e, f, g, rfl⟩
set_option maxRecDepth 100000 in
/-- A case by value. -/
theorem view_case {W : World} {r : Reach} {b0 : Nat} {d : DataW H} {p : List MemPlace} {v : Value} (hv : Value.okWide Try.prog W r b0 32 v) (h : DataW.Trod enc Try.prog W 0 (fun _ => true) true 32 v d p) :
    ∃ A n c c1 c2 c3 c4 c5 c6 Z, v = .agg #[.slice A n c, c1, c2, c3, c4, c5, c6] ∧ Z.length = n ∧ n ≤ maxLen ∧ IntsAt W (.slice A n c) Z := by
  obtain ⟨cs, rfl, hsz⟩ := okWide_struct Try.underlying32 hv
  have hce : Try.prog.cellsOf 32 = 7 := by kernel_rfl
  obtain ⟨c0, c1, c2, c3, c4, c5, c6, rfl⟩ := arr7 (hsz.trans hce)
  obtain ⟨fuel, hf⟩ := h
  obtain ⟨xs, n, _, _, _, hlen, hfs⟩ := DataW.trod_struct Try.underlying32 hf
  have hc : Try.prog.cellsOf 29 = 1 := by kernel_rfl
  obtain ⟨x0, hx0⟩ : ∃ x0, xs[0]? = some x0 := ⟨_, List.getElem?_eq_getElem (by rw [hlen]; decide)⟩
  have h0 : DataW.trod enc Try.prog W 0 (fun _ => true) true n 29 [c0] = some x0 := by
    have h1 := hfs 0 _ rfl
    rw [hx0] at h1
    simpa [Value.cells, hc] using h1
  clear hfs hf
  rcases open_ints Try.underlying29 Try.underlying3 (by kernel_rfl) h0 with ⟨hcs, _⟩ | ⟨a, len, cap, zs, hcs, _, hl, hm, hz, _, hcell, _⟩
  · simp only [List.cons.injEq, and_true] at hcs
    subst hcs
    exact ⟨none, 0, 0, c1, c2, c3, c4, c5, c6, [], rfl, rfl, Nat.zero_le _, none, 0, rfl, fun j z hj => by simp at hj⟩
  · simp only [List.cons.injEq, and_true] at hcs
    subst hcs
    simp only [if_true] at hz
    have hlen2 : (zs.take len).length = len := by rw [List.length_take]; omega
    refine ⟨some a, len, cap, c1, c2, c3, c4, c5, c6, zs.take len, rfl, hlen2, by omega, some a, cap, by rw [hlen2], fun j z hj => ?_⟩
    have hjl : j < len := by have := (List.getElem?_eq_some_iff.1 hj).1; omega
    obtain ⟨b, off, rfl, hcc⟩ := ints_at hcell (by omega)
    rw [List.getElem?_take, if_pos hjl] at hj
    have hg := hcc j (by omega)
    have ez : zs.getD j 0 = z := by simp [List.getD, hj]
    rw [ez] at hg
    exact ⟨b, off, rfl, cell_lt hg, hg⟩
end
end Go.Proofs.Ytbapdckokphmbaa
