/-
  Rows of nodes in memory: a slice that reads as nodes; a row of numbers that a call owns; what Kids of the page's own answers. No conditions.
-/
import Derived.Test.YtceeimolfalmpaaSB
import Derived.Test.YtceeimolfalmpaaTA
import Derived.Deep.RegionHeld3
namespace Go.Proofs.Ytceeimolfalmpaa
open Go.RowKit ObSets ObTree

abbrev ints (zs : List Int) : List Value := zs.map (Value.int .i64)
/-- A node's value. -/
abbrev nv (x : Nd) (V : Value) : Value := .agg #[.int .i64 x.kind, .int .i64 x.a, .int .i64 x.b, V, .int .i64 x.mn, .int .i64 x.mx, .int .i64 x.n]
/-- A tree's value. -/
abbrev tr (A : Option Addr) (n c : Nat) : Value := .agg #[.slice A n c]
/-- A node's cells. -/
def NdAt (w : World) (b o : Nat) (x : Nd) : Prop :=
  ∃ As ks, (w.cell? ⟨b, o, none⟩ = some (.int .i64 x.kind) ∧ w.cell? ⟨b, o + 1, none⟩ = some (.int .i64 x.a) ∧ w.cell? ⟨b, o + 2, none⟩ = some (.int .i64 x.b) ∧ w.cell? ⟨b, o + 3, none⟩ = some (.slice As x.set.length ks) ∧ w.cell? ⟨b, o + 4, none⟩ = some (.int .i64 x.mn) ∧ w.cell? ⟨b, o + 5, none⟩ = some (.int .i64 x.mx) ∧ w.cell? ⟨b, o + 6, none⟩ = some (.int .i64 x.n)) ∧ S.Rgs w w.heap.size As x.set
/-- A slice that reads as nodes. -/
def Nr (w : World) (A : Option Addr) (l : List Nd) : Prop :=
  l ≠ [] → ∃ b off, A = some ⟨b, off, none⟩ ∧ b < w.heap.size ∧ ∀ j x, l[j]? = some x → NdAt w b (off + j * 7) x
theorem NdAt.below {w w' : World} {b o : Nat} {x : Nd} (h : NdAt w b o x) (hlt : b < w.heap.size) (hb : Below w.heap.size w w') : NdAt w' b o x := by
  obtain ⟨As, ks, ⟨c0, c1, c2, c3, c4, c5, c6⟩, hr⟩ := h
  exact ⟨As, ks, ⟨(hb.cell (p := ⟨b, _, none⟩) hlt).trans c0, (hb.cell (p := ⟨b, _, none⟩) hlt).trans c1, (hb.cell (p := ⟨b, _, none⟩) hlt).trans c2, (hb.cell (p := ⟨b, _, none⟩) hlt).trans c3, (hb.cell (p := ⟨b, _, none⟩) hlt).trans c4, (hb.cell (p := ⟨b, _, none⟩) hlt).trans c5, (hb.cell (p := ⟨b, _, none⟩) hlt).trans c6⟩, hr.on hb⟩
theorem Nr.below {w w' : World} {A : Option Addr} {l : List Nd} (h : Nr w A l) (hb : Below w.heap.size w w') : Nr w' A l := fun hne => by
  obtain ⟨b, off, e, hlt, hc⟩ := h hne
  exact ⟨b, off, e, Nat.lt_of_lt_of_le hlt hb.size, fun j x hx => (hc j x hx).below hlt hb⟩
/-- What a call hands back: a row of numbers of its own. -/
def RetZ (zs : List Int) (w : World) (e : Ending) (w' : World) : Prop := ∃ v, e = .returned v ∧ w'.ownsRow w.heap.size 3 1 v zs.length (ints zs) ∧ Below w.heap.size w w'
theorem row1 {w : World} {B g : Nat} (hg : g = w.heap.size) (hB : B ≤ g) (a : Int) : (w.alloc (.cells #[.int .i64 a] 3)).ownsRow B 3 1 (.slice (some ⟨g, 0, none⟩) 1 1) 1 (ints [a]) := by
  subst hg; exact World.ownsRow_lit w #[.int .i64 a] 1 hB (by unfold maxLen; omega) rfl
theorem row2 {w : World} {B g : Nat} (hg : g = w.heap.size) (hB : B ≤ g) (a b : Int) : (w.alloc (.cells #[.int .i64 a, .int .i64 b] 3)).ownsRow B 3 1 (.slice (some ⟨g, 0, none⟩) 2 2) 2 (ints [a, b]) := by
  subst hg; exact World.ownsRow_lit w #[.int .i64 a, .int .i64 b] 2 hB (by unfold maxLen; omega) rfl
theorem less1 {w : World} {B B' : Nat} {v : Value} {n : Nat} {xs : List Value} (h : w.ownsRow B 3 1 v n xs) (hb : B' ≤ B) : w.ownsRow B' 3 1 v n xs := by
  refine ⟨h.1, ?_⟩
  rcases h.2 with h2 | ⟨g, cap, cur, hv, hbg, rest⟩
  · exact .inl h2
  · exact .inr ⟨g, cap, cur, hv, Nat.le_trans hb hbg, rest⟩
set_option maxHeartbeats 1000000 in
theorem kids_any (x : Nd) (V : Value) (hV : ∃ A n c, V = .slice A n c) (w : World) : Calls Try.prog 44 #[nv x V] w (RetZ (kids x) w) := by
  obtain ⟨A, n, c, rfl⟩ := hV
  obtain ⟨kd, a, b, set, mn, mx, nn⟩ := x
  have hb := (Below.refl w.heap.size w).alloc (Nat.le_refl _) (.cells #[.int .i64 kd, .int .i64 a, .int .i64 b, .slice A n c, .int .i64 mn, .int .i64 mx, .int .i64 nn] 35)
  have HB := Lib.hid hb
  clear hb
  by_cases h2 : kd = 5 ∨ kd = 6
  · rw [kids_two (x := ⟨kd, a, b, set, mn, mx, nn⟩) h2]
    rcases h2 with rfl | rfl
    all_goals (
      go_enter Try.func44, Try.ntmps44
      go_wp2_with fail
      go_ret
      exact ⟨_, rfl, row2 (by simp) (by omega) a b, HB.out.alloc (by simp) _⟩)
  · by_cases h1 : kd = 7 ∨ kd = 8 ∨ kd = 9
    · rw [kids_one (x := ⟨kd, a, b, set, mn, mx, nn⟩) h1]
      rcases h1 with rfl | rfl | rfl
      all_goals (
        go_enter Try.func44, Try.ntmps44
        go_wp2_with fail
        go_ret
        exact ⟨_, rfl, row1 (by simp) (by omega) a, HB.out.alloc (by simp) _⟩)
    · rw [show kids (⟨kd, a, b, set, mn, mx, nn⟩ : Nd) = [] by unfold kids; rw [if_neg h2, if_neg h1]]
      have d5 : (kd == 5) = false := beq_eq_false_iff_ne.2 (by omega)
      have d6 : (kd == 6) = false := beq_eq_false_iff_ne.2 (by omega)
      have d7 : (kd == 7) = false := beq_eq_false_iff_ne.2 (by omega)
      have d8 : (kd == 8) = false := beq_eq_false_iff_ne.2 (by omega)
      have d9 : (kd == 9) = false := beq_eq_false_iff_ne.2 (by omega)
      go_enter Try.func44, Try.ntmps44
      go_wp2_with fail
      go_ret
      exact ⟨_, rfl, World.ownsRow_nil _ _ _ _, HB.out⟩
end Go.Proofs.Ytceeimolfalmpaa
