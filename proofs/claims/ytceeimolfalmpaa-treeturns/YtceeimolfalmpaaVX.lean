/-
  A tree cut to so many nodes, in new memory (CutTree), of the statements' own. Conditions: at most 1000 nodes are kept; the tree's slices as Go has them.
-/
import Derived.Test.YtceeimolfalmpaaVW
namespace Go.Proofs.Ytceeimolfalmpaa
open Go.RowKit ObSets ObTree ObTree.Tree

/-- A row of nodes that a call owns, their sets in other blocks. -/
def Nq (w : World) (v : Value) (l : List Nd) : Prop :=
  ∃ L : List (Nd × Value), L.map Prod.fst = l ∧ w.ownsRow 0 35 7 v L.length (cellsN L) ∧ ∀ p ∈ L, ∃ As ks, p.2 = .slice As p.1.set.length ks ∧ S.Rgs w w.heap.size As p.1.set ∧ (p.1.set = [] ∨ ∀ ad, As = some ad → v.ownBlock ≠ some ad.block)
theorem Nq.nil (w : World) : Nq w (.slice none 0 0) [] := ⟨[], rfl, World.ownsRow_nil _ _ _ _, by simp⟩
theorem Nq.shape {w : World} {v : Value} {l : List Nd} (h : Nq w v l) : ∃ A k, v = .slice A l.length k ∧ (A = none → l = [] ∧ k = 0) := by
  obtain ⟨L, rfl, h2, _⟩ := h
  rw [List.length_map]
  rcases h2.2 with ⟨hv, hn⟩ | ⟨g, cap, cur, hv, _⟩
  · exact ⟨none, 0, by rw [hv, hn], fun _ => ⟨by rw [List.eq_nil_of_length_eq_zero hn]; rfl, rfl⟩⟩
  · exact ⟨_, cap, hv, fun h => by cases h⟩
theorem Nq.below {w w' : World} {v : Value} {l : List Nd} (h : Nq w v l) (hb : Below w.heap.size w w') : Nq w' v l := by
  obtain ⟨L, h1, h2, h3⟩ := h
  refine ⟨L, h1, S.own_below h2 hb, fun p hp => ?_⟩
  obtain ⟨As, ks, e, hr, hf⟩ := h3 p hp
  exact ⟨As, ks, e, hr.on hb, hf⟩
theorem Nq.reads {w : World} {A : Option Addr} {n k : Nat} {l : List Nd} (h : Nq w (.slice A n k) l) : Nr w A l := by
  intro hne
  obtain ⟨L, rfl, h2, h3⟩ := h
  rcases h2.2 with ⟨_, hn⟩ | ⟨g, cap, cur, hv, hbg, hg, rest⟩
  · exact absurd (by rw [List.eq_nil_of_length_eq_zero hn]; rfl) hne
  · injection hv with hv1 hv2 hv3
    subst hv1
    refine ⟨g, 0, rfl, lt_of_heap hg, fun j x hx => ?_⟩
    rw [List.getElem?_map] at hx
    cases hp : L[j]? with
    | none => rw [hp] at hx; cases hx
    | some p =>
      rw [hp] at hx
      simp at hx
      subst hx
      obtain ⟨c0, c1, c2, c3, c4, c5, c6⟩ := cellsN_at L j p hp
      have hc := World.ownsRow.cells h2 (g := g) rfl
      have e : ∀ k, (⟨g, 0, none⟩ : Addr).add k = ⟨g, 0 + k, none⟩ := fun k => by unfold Addr.add; split <;> simp_all
      obtain ⟨As, ks, es, hr, _⟩ := h3 p (List.mem_of_getElem? hp)
      have d0 := hc _ _ c0; have d1 := hc _ _ c1; have d2 := hc _ _ c2; have d3 := hc _ _ c3; have d4 := hc _ _ c4; have d5 := hc _ _ c5; have d6 := hc _ _ c6
      rw [e] at d0 d1 d2 d3 d4 d5 d6
      rw [es] at d3
      exact ⟨As, ks, ⟨d0, d1, d2, d3, d4, d5, d6⟩, hr⟩
theorem Nq.set1 {w : World} {v : Value} {l : List Nd} (h : Nq w v l) {r : Nat} {u0 : Value} {t : TypeId} (hr : w.heap[r]? = some (.cells #[u0] t (0, 0))) (hne : v.ownBlock ≠ some r) (u : Value) : Nq (w.setCell ⟨r, 0, none⟩ u) v l := by
  obtain ⟨L, h1, h2, h3⟩ := h
  refine ⟨L, h1, ownsRow_setCell_other h2 hne u, fun p hp => ?_⟩
  obtain ⟨As, ks, e, hg, hf⟩ := h3 p hp
  exact ⟨As, ks, e, by rw [set_size]; exact rgs_set1 hr hg u, hf⟩
theorem info35 : (Try.prog.info? 35).map (fun i => (i.zero, i.size, i.bytes)) = some (some (.agg #[.int .i64 0, .int .i64 0, .int .i64 0, .slice none 0 0, .int .i64 0, .int .i64 0, .int .i64 0]), 7, 72) := by kernel_rfl
/-- One node appended. -/
theorem nq_append {w : World} {v : Value} {l : List Nd} (h : Nq w v l) (x : Nd) (As : Option Addr) (sl ks g : Nat) (hsl : x.set.length = sl) (hg : w.heap[g]? = some (.cells (ndCells x As sl ks) 35 (0, 0))) (hr : S.Rgs w w.heap.size As x.set)
    (hfar : x.set = [] ∨ ∀ ad, As = some ad → v.ownBlock ≠ some ad.block) (hlen : l.length + 1 ≤ 100000) (ty : TypeId) :
    ∃ v' w', (Builtin.append_ #[22, 22] ty #[v, .slice (some ⟨g, 0, none⟩) 1 1]).run Try.prog w = .ok v' w' ∧ Nq w' v' (l ++ [x]) ∧ w.grownBy w' v.ownBlock ∧ (∀ g, v'.ownBlock = some g → v.ownBlock = some g ∨ w.heap.size ≤ g) := by
  subst hsl
  obtain ⟨i0, hi0, hz0, hz1, hz2⟩ := info_parts info35
  obtain ⟨L, rfl, h2, h3⟩ := h
  rw [List.length_map] at hlen
  have hcell : ∀ j u, (cellsN [(x, Value.slice As x.set.length ks)])[j]? = some u → w.cell? ((⟨g, 0, none⟩ : Addr).add j) = some u := fun j u hu => by
    have e : (⟨g, 0, none⟩ : Addr).add j = ⟨g, j, none⟩ := by unfold Addr.add; split <;> simp_all
    rw [e]
    simp only [World.cell?, hg]
    simpa [cellsN, ndCells] using hu
  obtain ⟨v', w', hrun, h4, h5, h6⟩ := run_append_at7 (P := Try.prog) w 22 ty 35 i0 (.agg #[.int .i64 0, .int .i64 0, .int .i64 0, .slice none 0 0, .int .i64 0, .int .i64 0, .int .i64 0]) 72 Try.underlying22 hi0 hz0 hz1 hz2 rfl v L.length (cellsN L) h2 ⟨g, 0, none⟩ 1 1 (cellsN [(x, Value.slice As x.set.length ks)]) (cellsN_len _) hcell (cellsN_one _ (fun p hp => by simp at hp; subst hp; rfl)) (by unfold maxLen; omega) (by omega)
  have keep : ∀ (Bs : Option Addr) (m : List R), S.Rgs w w.heap.size Bs m → (m = [] ∨ ∀ ad, Bs = some ad → v.ownBlock ≠ some ad.block) → S.Rgs w' w'.heap.size Bs m ∧ (m = [] ∨ ∀ ad, Bs = some ad → v'.ownBlock ≠ some ad.block) := fun Bs m hm hf => by
    by_cases hm0 : m = []
    · subst hm0; exact ⟨S.Rgs.nil, .inl rfl⟩
    · obtain ⟨b, off, rfl, hb, hcc⟩ := hm hm0
      have hne : v.ownBlock ≠ some b := (hf.resolve_left hm0) _ rfl
      have hbl := h5.block b hb (fun e => hne e.symm)
      have ec : ∀ o : Nat, w'.cell? ⟨b, o, none⟩ = w.cell? ⟨b, o, none⟩ := fun o => by simp only [World.cell?, hbl]
      refine ⟨fun _ => ⟨b, off, rfl, Nat.lt_of_lt_of_le hb h5.size, fun j q hq => by rw [ec, ec]; exact hcc j q hq⟩, .inr fun ad e hv => ?_⟩
      injection e with e
      subst e
      rcases h6 b hv with h7 | h7
      · exact hne h7
      · omega
  refine ⟨v', w', hrun, ⟨L ++ [(x, .slice As x.set.length ks)], by simp, ?_, fun p hp => ?_⟩, h5, h6⟩
  · rw [List.length_append, cellsN_append]; exact h4
  · rcases List.mem_append.1 hp with hp | hp
    · obtain ⟨Bs, js, e, hm, hf⟩ := h3 p hp
      obtain ⟨k1, k2⟩ := keep Bs p.1.set hm hf
      exact ⟨Bs, js, e, k1, k2⟩
    · simp at hp
      subst hp
      obtain ⟨k1, k2⟩ := keep As x.set hr hfar
      exact ⟨As, ks, rfl, k1, k2⟩
/-- A slice that reads as nodes, as Go has it. -/
def NrA (w : World) (A : Option Addr) (l : List Nd) : Prop :=
  l ≠ [] → ∃ b off, A = some ⟨b, off, none⟩ ∧ b < w.heap.size ∧ ∀ j x, l[j]? = some x → ∃ As ks, (w.cell? ⟨b, off + j * 7, none⟩ = some (.int .i64 x.kind) ∧ w.cell? ⟨b, off + j * 7 + 1, none⟩ = some (.int .i64 x.a) ∧ w.cell? ⟨b, off + j * 7 + 2, none⟩ = some (.int .i64 x.b) ∧ w.cell? ⟨b, off + j * 7 + 3, none⟩ = some (.slice As x.set.length ks) ∧ w.cell? ⟨b, off + j * 7 + 4, none⟩ = some (.int .i64 x.mn) ∧ w.cell? ⟨b, off + j * 7 + 5, none⟩ = some (.int .i64 x.mx) ∧ w.cell? ⟨b, off + j * 7 + 6, none⟩ = some (.int .i64 x.n)) ∧ S.Rgs w w.heap.size As x.set ∧ x.set.length ≤ ks ∧ ks ≤ maxLen ∧ (As = none → x.set = [])
theorem NrA.below {w w' : World} {A : Option Addr} {l : List Nd} (h : NrA w A l) (hb : Below w.heap.size w w') : NrA w' A l := fun hne => by
  obtain ⟨b, off, e, hlt, hc⟩ := h hne
  refine ⟨b, off, e, Nat.lt_of_lt_of_le hlt hb.size, fun j x hx => ?_⟩
  obtain ⟨As, ks, ⟨c0, c1, c2, c3, c4, c5, c6⟩, hr, r1, r2, r3⟩ := hc j x hx
  exact ⟨As, ks, ⟨(hb.cell (p := ⟨b, _, none⟩) hlt).trans c0, (hb.cell (p := ⟨b, _, none⟩) hlt).trans c1, (hb.cell (p := ⟨b, _, none⟩) hlt).trans c2, (hb.cell (p := ⟨b, _, none⟩) hlt).trans c3, (hb.cell (p := ⟨b, _, none⟩) hlt).trans c4, (hb.cell (p := ⟨b, _, none⟩) hlt).trans c5, (hb.cell (p := ⟨b, _, none⟩) hlt).trans c6⟩, hr.on hb, r1, r2, r3⟩
theorem NrA.at_ {w : World} {A : Option Addr} {l : List Nd} (h : NrA w A l) {j : Nat} {x : Nd} (hx : l[j]? = some x) : ∃ b off As ks, A = some ⟨b, off, none⟩ ∧ b < w.heap.size ∧ (w.cell? ⟨b, off + j * 7, none⟩ = some (.int .i64 x.kind) ∧ w.cell? ⟨b, off + j * 7 + 1, none⟩ = some (.int .i64 x.a) ∧ w.cell? ⟨b, off + j * 7 + 2, none⟩ = some (.int .i64 x.b) ∧ w.cell? ⟨b, off + j * 7 + 3, none⟩ = some (.slice As x.set.length ks) ∧ w.cell? ⟨b, off + j * 7 + 4, none⟩ = some (.int .i64 x.mn) ∧ w.cell? ⟨b, off + j * 7 + 5, none⟩ = some (.int .i64 x.mx) ∧ w.cell? ⟨b, off + j * 7 + 6, none⟩ = some (.int .i64 x.n)) ∧ S.Rgs w w.heap.size As x.set ∧ x.set.length ≤ ks ∧ ks ≤ maxLen ∧ (As = none → x.set = []) := by
  obtain ⟨b, off, e, hlt, hc⟩ := h (fun e => by subst e; simp at hx)
  obtain ⟨As, ks, r⟩ := hc j x hx
  exact ⟨b, off, As, ks, e, hlt, r⟩
/-- A node whose set is cut. -/
def cutN (x : Nd) : Nd := { x with set := x.set.take 6 }
theorem set3 {w : World} {r : Nat} {a b c d e f g : Value} {t : TypeId} (h : w.heap[r]? = some (.cells #[a, b, c, d, e, f, g] t (0, 0))) (v : Value) : (w.setCell ⟨r, 3, none⟩ v).heap[r]? = some (.cells #[a, b, c, v, e, f, g] t (0, 0)) := by
  rw [Go.Sort.setCell_eq]
  simp [Go.Sort.mapBlock, Go.Sort.onCells, Array.getElem?_modify, h]
theorem rgs_take {w : World} {B : Nat} {A : Option Addr} {l : List R} (h : S.Rgs w B A l) (k : Nat) : S.Rgs w B A (l.take k) := fun hn => by
  obtain ⟨b, off, e, hb, hc⟩ := h (fun e => hn (by rw [e]; simp))
  refine ⟨b, off, e, hb, fun j r hj => hc j r ?_⟩
  rw [List.getElem?_take] at hj
  split at hj
  · exact hj
  · cases hj
end Go.Proofs.Ytceeimolfalmpaa
