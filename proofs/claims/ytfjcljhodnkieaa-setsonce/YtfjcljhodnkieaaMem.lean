/-
  Slices of ranges in memory: one that reads as a list of ranges, nil let in; one that the call owns. Plain facts about cells; no function is walked.
-/
import Derived.Test.YtfjcljhodnkieaaW1
import Derived.Below
import Derived.Laws.OwnMore
import Derived.Deep.AppendLies
import Derived.Deep.Draws
import Derived.Maps.AppendAt
import Derived.OwnWalk
namespace Go.Proofs.Ytfjcljhodnkieaa
open Go.RowKit ObSets

/-- The cells of a list of ranges, two each. -/
def cellsR : List R → List Value
  | [] => []
  | r :: l => .int .i64 r.1 :: .int .i64 r.2 :: cellsR l
theorem cellsR_len : ∀ l : List R, (cellsR l).length = l.length * 2
  | [] => rfl
  | r :: l => by simp [cellsR, cellsR_len l]; omega
theorem cellsR_append : ∀ a b : List R, cellsR (a ++ b) = cellsR a ++ cellsR b
  | [], b => rfl
  | r :: a, b => by simp [cellsR, cellsR_append a b]
theorem cellsR_at : ∀ (l : List R) (j : Nat) (r : R), l[j]? = some r → (cellsR l)[j * 2]? = some (.int .i64 r.1) ∧ (cellsR l)[j * 2 + 1]? = some (.int .i64 r.2)
  | [], j, r, h => by simp at h
  | q :: l, 0, r, h => by simp at h; subst h; simp [cellsR]
  | q :: l, j + 1, r, h => by
    have := cellsR_at l j r (by simpa using h)
    rw [show (j + 1) * 2 = j * 2 + 1 + 1 by omega]
    simpa [cellsR] using this
theorem cellsR_one : ∀ (l : List R), ∀ u ∈ cellsR l, u.oneCell' = true
  | [], u, h => by simp [cellsR] at h
  | r :: l, u, h => by
    simp only [cellsR, List.mem_cons] at h
    rcases h with rfl | rfl | h
    · rfl
    · rfl
    · exact cellsR_one l u h
theorem cellsR_get (l : List R) (j : Nat) (u : Value) (h : (cellsR l)[j]? = some u) : ∃ r, l[j / 2]? = some r ∧ ((j % 2 = 0 ∧ u = .int .i64 r.1) ∨ (j % 2 = 1 ∧ u = .int .i64 r.2)) := by
  have hj : j < l.length * 2 := by
    rcases Nat.lt_or_ge j (cellsR l).length with h1 | h1
    · rwa [cellsR_len] at h1
    · rw [List.getElem?_eq_none h1] at h; cases h
  have hk : j / 2 < l.length := by omega
  have := cellsR_at l (j / 2) _ (List.getElem?_eq_getElem hk)
  refine ⟨_, List.getElem?_eq_getElem hk, ?_⟩
  rcases (show j % 2 = 0 ∨ j % 2 = 1 by omega) with e | e
  · left; refine ⟨e, ?_⟩
    rw [show j / 2 * 2 = j by omega, h] at this
    injection this.1
  · right; refine ⟨e, ?_⟩
    rw [show j / 2 * 2 + 1 = j by omega, h] at this
    injection this.2

/-- A slice whose first elements read as the list, below a block. -/
def Rgs (w : World) (B : Nat) (A : Option Addr) (l : List R) : Prop :=
  l ≠ [] → ∃ b off, A = some ⟨b, off, none⟩ ∧ b < B ∧ ∀ j r, l[j]? = some r → w.cell? ⟨b, off + j * 2, none⟩ = some (.int .i64 r.1) ∧ w.cell? ⟨b, off + j * 2 + 1, none⟩ = some (.int .i64 r.2)
theorem Rgs.nil {w : World} {B : Nat} {A : Option Addr} : Rgs w B A [] := fun h => absurd rfl h
theorem Rgs.keep {w w' : World} {B : Nat} {A : Option Addr} {l : List R} (h : Rgs w B A l) (hk : ∀ p : Addr, p.block < B → w'.cell? p = w.cell? p) : Rgs w' B A l := fun hn => by
  obtain ⟨b, off, e, hb, hc⟩ := h hn
  exact ⟨b, off, e, hb, fun j r hj => ⟨(hk _ hb).trans (hc j r hj).1, (hk _ hb).trans (hc j r hj).2⟩⟩
theorem Rgs.below {w w' : World} {B : Nat} {A : Option Addr} {l : List R} (h : Rgs w B A l) (hb : Below B w w') : Rgs w' B A l := h.keep fun _ hp => hb.cell hp
theorem Rgs.more {w : World} {B B' : Nat} {A : Option Addr} {l : List R} (h : Rgs w B A l) (hb : B ≤ B') : Rgs w B' A l := fun hn => by
  obtain ⟨b, off, e, h1, hc⟩ := h hn
  exact ⟨b, off, e, by omega, hc⟩
/-- From call to call. -/
theorem Rgs.on {w w' : World} {A : Option Addr} {l : List R} (h : Rgs w w.heap.size A l) (hb : Below w.heap.size w w') : Rgs w' w'.heap.size A l := (h.below hb).more hb.size
theorem Rgs.at_ {w : World} {B : Nat} {A : Option Addr} {l : List R} (h : Rgs w B A l) {k : Nat} (hk : k < l.length) :
    ∃ b off a c, A = some ⟨b, off, none⟩ ∧ b < B ∧ l[k]? = some (a, c) ∧ w.cell? ⟨b, off + k * 2, none⟩ = some (.int .i64 a) ∧ w.cell? ⟨b, off + k * 2 + 1, none⟩ = some (.int .i64 c) := by
  obtain ⟨b, off, e, hb, hc⟩ := h (fun e => by rw [e] at hk; simp at hk)
  have := hc k _ (List.getElem?_eq_getElem hk)
  exact ⟨b, off, _, _, e, hb, List.getElem?_eq_getElem hk, this.1, this.2⟩

theorem info32 : (Try.prog.info? 32).map (fun i => (i.zero, i.size, i.bytes)) = some (some (.agg #[.int .i64 0, .int .i64 0]), 2, 16) := by kernel_rfl
/-- A row of the call's own that holds the list. -/
def Ow (w : World) (B : Nat) (v : Value) (l : List R) : Prop := w.ownsRow B 32 2 v l.length (cellsR l)
theorem Ow.nil (w : World) (B : Nat) : Ow w B (.slice none 0 0) [] := World.ownsRow_nil _ _ _ _
theorem own_below {w w' : World} {base : Nat} {e : TypeId} {size : Nat} {v : Value} {n : Nat} {xs : List Value} (h : w.ownsRow base e size v n xs) (hb : Below w.heap.size w w') : w'.ownsRow base e size v n xs := by
  refine h.kept (row := none) ⟨hb.os, hb.tape, hb.output, hb.size, fun i hi _ => hb.block i hi⟩ ?_
  cases hv : v.ownBlock with
  | none => exact Or.inl rfl
  | some g => exact Or.inr (by simp)
theorem Ow.below {w w' : World} {B : Nat} {v : Value} {l : List R} (h : Ow w B v l) (hb : Below w.heap.size w w') : Ow w' B v l := own_below h hb
theorem Ow.less {w : World} {B B' : Nat} {v : Value} {l : List R} (h : Ow w B v l) (hb : B' ≤ B) : Ow w B' v l := by
  refine ⟨h.1, ?_⟩
  rcases h.2 with h2 | ⟨g, cap, cur, hv, hbg, rest⟩
  · exact .inl h2
  · exact .inr ⟨g, cap, cur, hv, by omega, rest⟩
/-- What an own row is, as a slice that reads. -/
theorem Ow.shape {w : World} {B : Nat} {v : Value} {l : List R} (h : Ow w B v l) : ∃ A cap, v = .slice A l.length cap ∧ l.length ≤ cap ∧ cap ≤ maxLen ∧ Rgs w w.heap.size A l ∧ (l = [] ∨ ∃ g, A = some ⟨g, 0, none⟩ ∧ B ≤ g ∧ g < w.heap.size) := by
  rcases h.2 with ⟨hv, hn⟩ | ⟨g, cap, cur, hv, hbg, hg, hnc, hcm, hcs, htake⟩
  · have : l = [] := List.eq_nil_of_length_eq_zero hn
    subst this
    exact ⟨none, 0, hv, by simp, by simp [maxLen], Rgs.nil, Or.inl rfl⟩
  · have hlt : g < w.heap.size := (Array.getElem?_eq_some_iff.1 hg).1
    refine ⟨_, cap, hv, hnc, hcm, fun _ => ⟨g, 0, rfl, hlt, fun j r hj => ?_⟩, Or.inr ⟨g, rfl, hbg, hlt⟩⟩
    have hc := cellsR_at l j r hj
    have hx := World.ownsRow.cells h (g := g) (by rw [hv]; rfl)
    have e : ∀ k, (⟨g, 0, none⟩ : Addr).add k = ⟨g, 0 + k, none⟩ := fun k => by unfold Addr.add; split <;> simp_all
    have h1 := hx _ _ hc.1
    have h2 := hx _ _ hc.2
    rw [e] at h1 h2
    exact ⟨h1, h2⟩
theorem bel_trans {w w1 w2 : World} (h1 : Below w.heap.size w w1) (h2 : Below w1.heap.size w1 w2) : Below w.heap.size w w2 := h1.trans (h2.mono h1.size)
theorem bel_trans' {B : Nat} {w w1 w2 : World} (hB : B ≤ w.heap.size) (h1 : Below B w w1) (h2 : Below w1.heap.size w1 w2) : Below B w w2 := h1.trans (h2.mono (Nat.le_trans hB h1.size))
theorem below_drews {B : Nat} {a w : World} (h : Below B a w) (n : Nat) : Below B a (w.drewN n) := ⟨h.os, h.tape, h.output, h.size, h.block⟩
/-- A call hands back a row of its own; what was stays. -/
def RetR (l : List R) (w : World) (e : Ending) (w' : World) : Prop := ∃ v, e = .returned v ∧ Ow w' w.heap.size v l ∧ Below w.heap.size w w'
end Go.Proofs.Ytfjcljhodnkieaa
