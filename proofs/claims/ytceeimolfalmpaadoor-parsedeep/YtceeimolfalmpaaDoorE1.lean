/-
  Two rows of words that read alike are alike (EqToks). Conditions: at most 1000000 words, sets of at most 1000000 ranges.
-/
import Derived.Test.YtceeimolfalmpaaDoorL17
import Derived.Test.YtceeimolfalmpaaDoorSB
namespace Go.Proofs.YtceeimolfalmpaaDoor
open Go.RowKit ObUtf ObSets ObLex

/-- A slice that reads as words. -/
def Tr (w : World) (A : Option Addr) (l : List T) : Prop :=
  l ≠ [] → ∃ b off, A = some ⟨b, off, none⟩ ∧ b < w.heap.size ∧ ∀ j t, l[j]? = some t → ∃ As ks, w.cell? ⟨b, off + j * 5, none⟩ = some (.int .i64 t.kind) ∧ w.cell? ⟨b, off + j * 5 + 1, none⟩ = some (.int .i64 t.at_) ∧ w.cell? ⟨b, off + j * 5 + 2, none⟩ = some (.slice As t.set.length ks) ∧ w.cell? ⟨b, off + j * 5 + 3, none⟩ = some (.int .i64 t.mn) ∧ w.cell? ⟨b, off + j * 5 + 4, none⟩ = some (.int .i64 t.mx) ∧ S.Rgs w w.heap.size As t.set
theorem Tk.reads {w : World} {B : Nat} {A : Option Addr} {n k : Nat} {l : List T} (h : Tk w B (.slice A n k) l) : Tr w A l := by
  intro hne
  obtain ⟨L, rfl, h2, h3⟩ := h
  rcases h2.2 with ⟨_, hn⟩ | ⟨g, cap, cur, hv, hbg, hg, rest⟩
  · exact absurd (by rw [List.eq_nil_of_length_eq_zero hn]; rfl) hne
  · injection hv with hv1 hv2 hv3
    subst hv1
    refine ⟨g, 0, rfl, lt_of_heap hg, fun j t ht => ?_⟩
    rw [List.getElem?_map] at ht
    cases hp : L[j]? with
    | none => rw [hp] at ht; cases ht
    | some p =>
      rw [hp] at ht
      simp at ht
      subst ht
      obtain ⟨c0, c1, c2, c3, c4⟩ := cellsT_at L j p hp
      have hx := World.ownsRow.cells h2 (g := g) rfl
      have e : ∀ k, (⟨g, 0, none⟩ : Addr).add k = ⟨g, 0 + k, none⟩ := fun k => by unfold Addr.add; split <;> simp_all
      obtain ⟨As, ks, hs, _, _, hr, _⟩ := (h3 p (List.mem_of_getElem? hp)).shape
      have d0 := hx _ _ c0; have d1 := hx _ _ c1; have d2 := hx _ _ c2; have d3 := hx _ _ c3; have d4 := hx _ _ c4
      rw [e] at d0 d1 d2 d3 d4
      rw [hs] at d2
      exact ⟨As, ks, d0, d1, d2, d3, d4, hr⟩
theorem Tr.below {w w' : World} {A : Option Addr} {l : List T} (h : Tr w A l) (hb : Below w.heap.size w w') : Tr w' A l := fun hne => by
  obtain ⟨b, off, e, hlt, hc⟩ := h hne
  refine ⟨b, off, e, Nat.lt_of_lt_of_le hlt hb.size, fun j t ht => ?_⟩
  obtain ⟨As, ks, c0, c1, c2, c3, c4, hr⟩ := hc j t ht
  exact ⟨As, ks, (hb.cell (p := ⟨b, _, none⟩) hlt).trans c0, (hb.cell (p := ⟨b, _, none⟩) hlt).trans c1, (hb.cell (p := ⟨b, _, none⟩) hlt).trans c2, (hb.cell (p := ⟨b, _, none⟩) hlt).trans c3, (hb.cell (p := ⟨b, _, none⟩) hlt).trans c4, hr.on hb⟩
end Go.Proofs.YtceeimolfalmpaaDoor
