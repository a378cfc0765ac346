/-
  Slices of edits in memory: one that reads as a list of edits, nil let in; one that the call owns. Plain facts about cells; no function is walked.
-/
import Derived.Test.YtdpjcbljeklhmaaDoorW9
import Derived.Laws.OwnMore
import Derived.Deep.AppendLies
import Derived.Deep.Draws
import Derived.OwnWalk
namespace Go.Proofs.YtdpjcbljeklhmaaDoor
open Go.RowKit ObGap

/-- An edit. -/
structure Ed where
  k : Int
  a : Int
  n : Int
  s : Bs
/-- The cells of a list of edits, four each. -/
def cellsE : List Ed → List Value
  | [] => []
  | x :: l => .int .i64 x.k :: .int .i64 x.a :: .int .i64 x.n :: str x.s :: cellsE l
theorem cellsE_len : ∀ l : List Ed, (cellsE l).length = l.length * 4
  | [] => rfl
  | x :: l => by simp [cellsE, cellsE_len l]; omega
theorem cellsE_append : ∀ a b : List Ed, cellsE (a ++ b) = cellsE a ++ cellsE b
  | [], b => rfl
  | x :: a, b => by simp [cellsE, cellsE_append a b]
theorem cellsE_at : ∀ (l : List Ed) (j : Nat) (x : Ed), l[j]? = some x → (cellsE l)[j * 4]? = some (.int .i64 x.k) ∧ (cellsE l)[j * 4 + 1]? = some (.int .i64 x.a) ∧ (cellsE l)[j * 4 + 2]? = some (.int .i64 x.n) ∧ (cellsE l)[j * 4 + 3]? = some (str x.s)
  | [], j, x, h => by simp at h
  | y :: l, 0, x, h => by simp at h; subst h; simp [cellsE]
  | y :: l, j + 1, x, h => by
    have := cellsE_at l j x (by simpa using h)
    rw [show (j + 1) * 4 = j * 4 + 1 + 1 + 1 + 1 by omega]
    simpa [cellsE] using this
theorem cellsE_one : ∀ (l : List Ed), ∀ u ∈ cellsE l, u.oneCell' = true
  | [], u, h => by simp [cellsE] at h
  | x :: l, u, h => by
    simp only [cellsE, List.mem_cons] at h
    rcases h with rfl | rfl | rfl | rfl | h
    · rfl
    · rfl
    · rfl
    · rfl
    · exact cellsE_one l u h

/-- The four cells of an edit at a place. -/
def EdAt (w : World) (b o : Nat) (x : Ed) : Prop := w.cell? ⟨b, o, none⟩ = some (.int .i64 x.k) ∧ w.cell? ⟨b, o + 1, none⟩ = some (.int .i64 x.a) ∧ w.cell? ⟨b, o + 2, none⟩ = some (.int .i64 x.n) ∧ w.cell? ⟨b, o + 3, none⟩ = some (str x.s)
theorem EdAt.keep {w w' : World} {b o : Nat} {x : Ed} (h : EdAt w b o x) (e : w'.heap[b]? = w.heap[b]?) : EdAt w' b o x := by
  have hc : ∀ o, w'.cell? ⟨b, o, none⟩ = w.cell? ⟨b, o, none⟩ := fun o => World.cell?_of_block (w := w) e
  exact ⟨(hc _).trans h.1, (hc _).trans h.2.1, (hc _).trans h.2.2.1, (hc _).trans h.2.2.2⟩
/-- A slice whose elements read as the list, in a block below B. -/
def Eds (w : World) (B : Nat) (A : Option Addr) (l : List Ed) : Prop :=
  l ≠ [] → ∃ b off, A = some ⟨b, off, none⟩ ∧ b < B ∧ ∀ j x, l[j]? = some x → EdAt w b (off + j * 4) x
theorem Eds.nil {w : World} {B : Nat} {A : Option Addr} : Eds w B A [] := fun h => absurd rfl h
theorem Eds.below {w w' : World} {B : Nat} {A : Option Addr} {l : List Ed} (h : Eds w B A l) (hb : Below B w w') : Eds w' B A l := fun hn => by
  obtain ⟨b, off, e, h1, hc⟩ := h hn
  exact ⟨b, off, e, h1, fun j x hj => (hc j x hj).keep (hb.block _ h1)⟩
theorem Eds.more {w : World} {B B' : Nat} {A : Option Addr} {l : List Ed} (h : Eds w B A l) (hb : B ≤ B') : Eds w B' A l := fun hn => by
  obtain ⟨b, off, e, h1, hc⟩ := h hn
  exact ⟨b, off, e, by omega, hc⟩
theorem Eds.on {w w' : World} {A : Option Addr} {l : List Ed} (h : Eds w w.heap.size A l) (hb : Below w.heap.size w w') : Eds w' w'.heap.size A l := (h.below hb).more hb.size
theorem Eds.at_ {w : World} {B : Nat} {A : Option Addr} {l : List Ed} (h : Eds w B A l) {k : Nat} (hk : k < l.length) :
    ∃ b off, A = some ⟨b, off, none⟩ ∧ b < B ∧ EdAt w b (off + k * 4) l[k] := by
  obtain ⟨b, off, e, hb, hc⟩ := h (fun e => by rw [e] at hk; simp at hk)
  exact ⟨b, off, e, hb, hc k _ (List.getElem?_eq_getElem hk)⟩

/-- A row of the call's own that holds the list. -/
def Ow (w : World) (B : Nat) (v : Value) (l : List Ed) : Prop := w.ownsRow B 34 4 v l.length (cellsE l)
theorem Ow.nil (w : World) (B : Nat) : Ow w B (.slice none 0 0) [] := World.ownsRow_nil _ _ _ _
theorem own_below {w w' : World} {base : Nat} {e : TypeId} {size : Nat} {v : Value} {n : Nat} {xs : List Value} (h : w.ownsRow base e size v n xs) (hb : Below w.heap.size w w') : w'.ownsRow base e size v n xs := by
  refine h.kept (row := none) ⟨hb.os, hb.tape, hb.output, hb.size, fun i hi _ => hb.block i hi⟩ ?_
  cases hv : v.ownBlock with
  | none => exact Or.inl rfl
  | some g => exact Or.inr (by simp)
theorem Ow.below {w w' : World} {B : Nat} {v : Value} {l : List Ed} (h : Ow w B v l) (hb : Below w.heap.size w w') : Ow w' B v l := own_below h hb
theorem Ow.shape {w : World} {B : Nat} {v : Value} {l : List Ed} (h : Ow w B v l) : ∃ A cap, v = .slice A l.length cap ∧ Eds w w.heap.size A l ∧ (l = [] ∨ ∃ g, A = some ⟨g, 0, none⟩ ∧ B ≤ g ∧ g < w.heap.size) := by
  rcases h.2 with ⟨hv, hn⟩ | ⟨g, cap, cur, hv, hbg, hg, hnc, hcm, hcs, htake⟩
  · have : l = [] := List.eq_nil_of_length_eq_zero hn
    subst this
    exact ⟨none, 0, hv, Eds.nil, Or.inl rfl⟩
  · have hlt : g < w.heap.size := (Array.getElem?_eq_some_iff.1 hg).1
    refine ⟨_, cap, hv, fun _ => ⟨g, 0, rfl, hlt, fun j x hj => ?_⟩, Or.inr ⟨g, rfl, hbg, hlt⟩⟩
    have hc := cellsE_at l j x hj
    have hx := World.ownsRow.cells h (g := g) (by rw [hv]; rfl)
    have h0 := hx _ _ hc.1
    have h1 := hx _ _ hc.2.1
    have h2 := hx _ _ hc.2.2.1
    have h3 := hx _ _ hc.2.2.2
    rw [add_at] at h0 h1 h2 h3
    exact ⟨h0, h1, h2, h3⟩
/-- What Edits leaves of a list. -/
def eds (l : List Ed) (most each : Nat) : List Ed := (l.take most).map fun x => { x with s := x.s.take each }
theorem eds_len (l : List Ed) (most each : Nat) : (eds l most each).length ≤ most := by simp [eds]; omega
theorem eds_short {l : List Ed} {most each : Nat} : ∀ x ∈ eds l most each, x.s.length ≤ each := by
  intro x hx
  simp only [eds, List.mem_map] at hx
  obtain ⟨y, _, rfl⟩ := hx
  simp; omega
/-- A call hands back a row of its own; what was stays. -/
def RetE (l : List Ed) (w : World) (e : Ending) (w' : World) : Prop := ∃ v, e = .returned v ∧ Ow w' w.heap.size v l ∧ Below w.heap.size w w'
end Go.Proofs.YtdpjcbljeklhmaaDoor
