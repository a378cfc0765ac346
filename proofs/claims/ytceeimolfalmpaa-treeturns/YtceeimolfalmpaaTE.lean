/-
  A row of nodes that a call owns: how it reads, what an append to it leaves, a node's place written anew. No conditions but those written.
-/
import Derived.Test.YtceeimolfalmpaaTD
import Derived.Laws.AppendOwnNone
import Derived.OneCell
namespace Go.Proofs.Ytceeimolfalmpaa
open Go.RowKit ObSets ObTree

def cellsN : List (Nd × Value) → List Value
  | [] => []
  | p :: l => [.int .i64 p.1.kind, .int .i64 p.1.a, .int .i64 p.1.b, p.2, .int .i64 p.1.mn, .int .i64 p.1.mx, .int .i64 p.1.n] ++ cellsN l
theorem cellsN_len : ∀ l, (cellsN l).length = l.length * 7
  | [] => rfl
  | p :: l => by simp [cellsN, cellsN_len l]; omega
theorem cellsN_append : ∀ a b, cellsN (a ++ b) = cellsN a ++ cellsN b
  | [], _ => rfl
  | p :: a, b => by simp [cellsN, cellsN_append a b]
theorem cellsN_at : ∀ (l : List (Nd × Value)) (j : Nat) (p : Nd × Value), l[j]? = some p →
    (cellsN l)[j * 7]? = some (.int .i64 p.1.kind) ∧ (cellsN l)[j * 7 + 1]? = some (.int .i64 p.1.a) ∧ (cellsN l)[j * 7 + 2]? = some (.int .i64 p.1.b) ∧ (cellsN l)[j * 7 + 3]? = some p.2 ∧ (cellsN l)[j * 7 + 4]? = some (.int .i64 p.1.mn) ∧ (cellsN l)[j * 7 + 5]? = some (.int .i64 p.1.mx) ∧ (cellsN l)[j * 7 + 6]? = some (.int .i64 p.1.n)
  | [], j, p, h => by simp at h
  | q :: l, 0, p, h => by simp at h; subst h; simp [cellsN]
  | q :: l, j + 1, p, h => by
    have := cellsN_at l j p (by simpa using h)
    have e : ∀ k, (cellsN (q :: l))[(j + 1) * 7 + k]? = (cellsN l)[j * 7 + k]? := fun k => by
      rw [show (j + 1) * 7 + k = (j * 7 + k) + 7 by omega]
      simp [cellsN]
    have e0 := e 0
    simp only [Nat.add_zero] at e0
    rw [e0, e, e, e, e, e, e]; exact this
/-- What each cell of a row is. -/
theorem cellsN_get : ∀ (l : List (Nd × Value)) (k : Nat) (u : Value), (cellsN l)[k]? = some u → ∃ p, l[k / 7]? = some p ∧ (cellsN [p])[k % 7]? = some u
  | [], k, u, h => by simp [cellsN] at h
  | p :: l, k, u, h => by
    by_cases hk : k < 7
    · refine ⟨p, by rw [Nat.div_eq_of_lt hk]; rfl, ?_⟩
      rw [Nat.mod_eq_of_lt hk]
      have e : cellsN (p :: l) = cellsN [p] ++ cellsN l := cellsN_append [p] l
      rw [e, List.getElem?_append_left (by rw [cellsN_len]; exact hk)] at h
      exact h
    · have e : cellsN (p :: l) = cellsN [p] ++ cellsN l := cellsN_append [p] l
      rw [e, List.getElem?_append_right (by rw [cellsN_len]; simpa using hk), cellsN_len] at h
      obtain ⟨q, h1, h2⟩ := cellsN_get l _ u h
      rw [show [p].length * 7 = 7 from rfl] at h1 h2
      refine ⟨q, ?_, ?_⟩
      · rw [show k / 7 = (k - 7) / 7 + 1 by omega]; exact h1
      · rw [show k % 7 = (k - 7) % 7 by omega]; exact h2
theorem cellsN_one : ∀ (L : List (Nd × Value)), (∀ p ∈ L, p.2.oneCell' = true) → ∀ u ∈ cellsN L, u.oneCell' = true
  | [], _, u, hu => by cases hu
  | p :: L, h, u, hu => by
    simp [cellsN] at hu
    rcases hu with rfl | rfl | rfl | rfl | rfl | rfl | rfl | hu
    · rfl
    · rfl
    · rfl
    · exact h p (by simp)
    · rfl
    · rfl
    · rfl
    · exact cellsN_one L (fun q hq => h q (by simp [hq])) u hu
/-- An own row of nodes; their sets lie below it. -/
def Nk (w : World) (B : Nat) (v : Value) (l : List Nd) : Prop :=
  ∃ L : List (Nd × Value), L.map Prod.fst = l ∧ w.ownsRow B 35 7 v L.length (cellsN L) ∧ ∀ p ∈ L, ∃ As ks, p.2 = .slice As p.1.set.length ks ∧ S.Rgs w B As p.1.set
theorem Nk.nil (w : World) (B : Nat) : Nk w B (.slice none 0 0) [] := ⟨[], rfl, World.ownsRow_nil _ _ _ _, by simp⟩
theorem Nk.below {w w' : World} {B : Nat} {v : Value} {l : List Nd} (h : Nk w B v l) (hB : B ≤ w.heap.size) (hb : Below w.heap.size w w') : Nk w' B v l := by
  obtain ⟨L, h1, h2, h3⟩ := h
  refine ⟨L, h1, S.own_below h2 hb, fun p hp => ?_⟩
  obtain ⟨As, ks, e, hr⟩ := h3 p hp
  exact ⟨As, ks, e, hr.keep fun q hq => hb.cell (Nat.lt_of_lt_of_le hq hB)⟩
theorem Nk.shape {w : World} {B : Nat} {v : Value} {l : List Nd} (h : Nk w B v l) : ∃ A k, v = .slice A l.length k := by
  obtain ⟨L, rfl, h2, _⟩ := h
  rw [List.length_map]
  rcases h2.2 with ⟨hv, hn⟩ | ⟨g, cap, cur, hv, _⟩
  · exact ⟨none, 0, by rw [hv, hn]⟩
  · exact ⟨_, cap, hv⟩
theorem Nk.lt {w : World} {B : Nat} {v : Value} {l : List Nd} (h : Nk w B v l) : ∀ g, v.ownBlock = some g → B ≤ g ∧ g < w.heap.size := by
  obtain ⟨L, rfl, h2, _⟩ := h
  exact fun g hg => h2.lt g hg
/-- How it reads. -/
theorem Nk.reads {w : World} {B : Nat} {A : Option Addr} {n k : Nat} {l : List Nd} (h : Nk w B (.slice A n k) l) (hB : B ≤ w.heap.size) : Nr w A l := by
  intro hne
  obtain ⟨L, rfl, h2, h3⟩ := h
  rcases h2.2 with ⟨_, hn⟩ | ⟨g, cap, cur, hv, hbg, hg, rest⟩
  · exact absurd (by rw [List.eq_nil_of_length_eq_zero hn]; rfl) hne
  · injection hv with hv1 hv2 hv3
    subst hv1
    refine ⟨g, 0, rfl, lt_of_heap hg, fun j x hx => ?_⟩
    rw [List.getElem?_map] at hx
    cases hp : L[j]? with
    | none => rw [hp] at hx; cases hx
    | some p =>
      rw [hp] at hx
      simp at hx
      subst hx
      obtain ⟨c0, c1, c2, c3, c4, c5, c6⟩ := cellsN_at L j p hp
      have hc := World.ownsRow.cells h2 (g := g) rfl
      have e : ∀ k, (⟨g, 0, none⟩ : Addr).add k = ⟨g, 0 + k, none⟩ := fun k => by unfold Addr.add; split <;> simp_all
      obtain ⟨As, ks, es, hr⟩ := h3 p (List.mem_of_getElem? hp)
      have d0 := hc _ _ c0; have d1 := hc _ _ c1; have d2 := hc _ _ c2; have d3 := hc _ _ c3; have d4 := hc _ _ c4; have d5 := hc _ _ c5; have d6 := hc _ _ c6
      rw [e] at d0 d1 d2 d3 d4 d5 d6
      rw [es] at d3
      exact ⟨As, ks, ⟨d0, d1, d2, d3, d4, d5, d6⟩, hr.more hB⟩
/-- A slice that reads as nodes, as cells. -/
theorem pick_list {α β : Type} {P : Nat → α → β → Prop} : ∀ (l : List α) (o : Nat), (∀ j x, l[j]? = some x → ∃ y, P (o + j) x y) → ∃ L : List (α × β), L.map Prod.fst = l ∧ ∀ j p, L[j]? = some p → P (o + j) p.1 p.2
  | [], o, _ => ⟨[], rfl, fun j p h => by simp at h⟩
  | x :: l, o, h => by
    obtain ⟨y, hy⟩ := h 0 x rfl
    obtain ⟨L, h1, h2⟩ := pick_list l (o + 1) (fun j z hz => by
      obtain ⟨y, hy⟩ := h (j + 1) z (by simpa using hz)
      exact ⟨y, by rw [show o + 1 + j = o + (j + 1) by omega]; exact hy⟩)
    refine ⟨(x, y) :: L, by rw [List.map_cons, h1], fun j p hp => ?_⟩
    cases j with
    | zero => simp at hp; subst hp; exact hy
    | succ j =>
      have := h2 j p (by simpa using hp)
      rw [show o + 1 + j = o + (j + 1) by omega] at this
      exact this
theorem Nr.cells {w : World} {b off : Nat} {l : List Nd} (h : Nr w (some ⟨b, off, none⟩) l) : ∃ L : List (Nd × Value), L.map Prod.fst = l ∧ (∀ k u, (cellsN L)[k]? = some u → w.cell? ((⟨b, off, none⟩ : Addr).add k) = some u) ∧ ∀ p ∈ L, ∃ As ks, p.2 = .slice As p.1.set.length ks ∧ S.Rgs w w.heap.size As p.1.set := by
  by_cases hne : l = []
  · subst hne; exact ⟨[], rfl, fun k u hu => by simp [cellsN] at hu, fun p hp => by cases hp⟩
  · obtain ⟨b', off', e, hlt, hc⟩ := h hne
    injection e with e
    injection e with e1 e2 _
    subst e1 e2
    obtain ⟨L, h1, h2⟩ := pick_list (P := fun j x V => (w.cell? ⟨b, off + j * 7, none⟩ = some (.int .i64 x.kind) ∧ w.cell? ⟨b, off + j * 7 + 1, none⟩ = some (.int .i64 x.a) ∧ w.cell? ⟨b, off + j * 7 + 2, none⟩ = some (.int .i64 x.b) ∧ w.cell? ⟨b, off + j * 7 + 3, none⟩ = some V ∧ w.cell? ⟨b, off + j * 7 + 4, none⟩ = some (.int .i64 x.mn) ∧ w.cell? ⟨b, off + j * 7 + 5, none⟩ = some (.int .i64 x.mx) ∧ w.cell? ⟨b, off + j * 7 + 6, none⟩ = some (.int .i64 x.n)) ∧ ∃ As ks, V = .slice As x.set.length ks ∧ S.Rgs w w.heap.size As x.set) l 0 (fun j x hx => by
      obtain ⟨As, ks, hcc, hr⟩ := hc j x hx
      rw [Nat.zero_add]
      exact ⟨_, hcc, As, ks, rfl, hr⟩)
    refine ⟨L, h1, fun k u hu => ?_, fun p hp => ?_⟩
    · obtain ⟨p, g1, g2⟩ := cellsN_get L k u hu
      obtain ⟨⟨c0, c1, c2, c3, c4, c5, c6⟩, _⟩ := h2 _ p g1
      rw [Nat.zero_add] at c0 c1 c2 c3 c4 c5 c6
      have e : (⟨b, off, none⟩ : Addr).add k = ⟨b, off + k / 7 * 7 + k % 7, none⟩ := by
        have : off + k = off + k / 7 * 7 + k % 7 := by omega
        unfold Addr.add; split <;> simp_all
      rw [e]
      have hm : k % 7 < 7 := Nat.mod_lt _ (by decide)
      generalize k % 7 = m at *
      rcases (show m = 0 ∨ m = 1 ∨ m = 2 ∨ m = 3 ∨ m = 4 ∨ m = 5 ∨ m = 6 by omega) with rfl | rfl | rfl | rfl | rfl | rfl | rfl
      all_goals (simp [cellsN] at g2; subst g2; assumption)
    · obtain ⟨j, hj⟩ := List.getElem?_of_mem hp
      exact (h2 j p hj).2
end Go.Proofs.Ytceeimolfalmpaa
