/-
  Slices of numbers in memory: one whose cells hold the values of a function, nil let in; one that the call owns; what a slice expression makes of one. Plain facts about cells; no function is walked.
-/
import Derived.Test.YtgnlepjpclcnoaaProg
import Derived.Test.YtgnlepjpclcnoaaPlain
import Derived.WalkKit
import Derived.WalkSpells
import Derived.WalkLawsBesides
import Derived.Below
import Derived.Laws.OwnMore
import Derived.Deep.AppendLies
import Derived.Deep.Draws
import Derived.Maps.AppendAt
import Derived.OwnWalk
namespace Go.Proofs.Ytgnlepjpclcnoaa
open Go.RowKit ObLine

theorem ret_bool {a b : Bool} (h : a = b) : Ending.returned (.bool a) = .returned (.bool b) := by rw [h]
theorem ret_int {k : IntKind} {a b : Int} (h : a = b) : Ending.returned (.int k a) = .returned (.int k b) := by rw [h]
theorem bel_trans {w w1 w2 : World} (h1 : Below w.heap.size w w1) (h2 : Below w1.heap.size w1 w2) : Below w.heap.size w w2 := h1.trans (h2.mono h1.size)
theorem below_drews {B : Nat} {a w : World} (h : Below B a w) (n : Nat) : Below B a (w.drewN n) := ⟨h.os, h.tape, h.output, h.size, h.block⟩
/-- The slice's cells hold the values of f. -/
def Cells (w : World) (B : Nat) (A : Option Addr) (n : Nat) (f : Nat → Int) : Prop := 0 < n → ∃ b off, A = some ⟨b, off, none⟩ ∧ b < B ∧ ∀ j, j < n → w.cell? ⟨b, off + j, none⟩ = some (.int .i64 (f j))
theorem Cells.below {w w' : World} {B : Nat} {A : Option Addr} {n : Nat} {f : Nat → Int} (h : Cells w B A n f) (hb : Below B w w') : Cells w' B A n f := fun hn => by
  obtain ⟨b, off, e, hB, hc⟩ := h hn
  exact ⟨b, off, e, hB, fun j hj => (hb.cell (p := ⟨b, off + j, none⟩) hB).trans (hc j hj)⟩
theorem Cells.more {w : World} {B B' : Nat} {A : Option Addr} {n : Nat} {f : Nat → Int} (h : Cells w B A n f) (hb : B ≤ B') : Cells w B' A n f := fun hn => by
  obtain ⟨b, off, e, hB, hc⟩ := h hn
  exact ⟨b, off, e, by omega, hc⟩
theorem Cells.on {w w' : World} {A : Option Addr} {n : Nat} {f : Nat → Int} (h : Cells w w.heap.size A n f) (hb : Below w.heap.size w w') : Cells w' w'.heap.size A n f := (h.below hb).more hb.size
theorem Cells.less {w : World} {B : Nat} {A : Option Addr} {n m : Nat} {f : Nat → Int} (h : Cells w B A n f) (hm : m ≤ n) : Cells w B A m f := fun h0 => by
  obtain ⟨b, off, e, hB, hc⟩ := h (by omega)
  exact ⟨b, off, e, hB, fun j hj => hc j (by omega)⟩
theorem Cells.drew {w : World} {B : Nat} {A : Option Addr} {n : Nat} {f : Nat → Int} (h : Cells w B A n f) (q : Nat) : Cells (w.drewN q) B A n f := h.below (below_drews (Below.refl _ _) q)

theorem info3 : (Try.prog.info? 3).map (fun i => (i.zero, i.size, i.bytes)) = some (some (.int .i64 0), 1, 8) := by kernel_rfl
theorem info3x : ∃ x, Try.prog.info? 3 = some x ∧ x.zero = some (.int .i64 0) ∧ x.size = 1 ∧ x.bytes = 8 := by
  have h := info3
  cases hx : Try.prog.info? 3 with
  | none => rw [hx] at h; cases h
  | some x => rw [hx] at h; simp at h; exact ⟨x, rfl, h⟩
/-- The call hands back a slice of its own that holds the numbers; what was stays. -/
def RetInts (zs : List Int) (w : World) (e : Ending) (w' : World) : Prop :=
  ∃ v, e = .returned v ∧ w'.ownsRow w.heap.size 3 1 v zs.length (zs.map (Value.int .i64)) ∧ Below w.heap.size w w'
theorem own_below {w w' : World} {base : Nat} {e : TypeId} {size : Nat} {v : Value} {n : Nat} {xs : List Value} (h : w.ownsRow base e size v n xs) (hb : Below w.heap.size w w') : w'.ownsRow base e size v n xs := by
  refine h.kept (row := none) ⟨hb.os, hb.tape, hb.output, hb.size, fun i hi _ => hb.block i hi⟩ ?_
  cases hv : v.ownBlock with
  | none => exact Or.inl rfl
  | some g => exact Or.inr (by simp)
theorem one_cell (w : World) (v : Value) (t : TypeId) : ∀ j u, [v][j]? = some u → (w.alloc (.cells #[v] t)).cell? ((⟨w.heap.size, 0, none⟩ : Addr).add j) = some u := by
  intro j u hj
  match j, hj with
  | 0, hj => simp at hj; subst hj; simp [Addr.add]
/-- One number appended: what is owned, and what stays. -/
theorem push_rel {w wr w1 w2 : World} {v v' : Value} {n : Nat} {xs : List Value} {y : Int} {o : Obj} (hB : Below w.heap.size w wr) (hb : Below wr.heap.size wr w1) (hown : wr.ownsRow w.heap.size 3 1 v n xs)
    (hown' : w2.ownsRow w.heap.size 3 1 v' (n + 1) (xs ++ [.int .i64 y])) (hg : (w1.alloc o).grownBy w2 v.ownBlock) : w2.ownsRow w.heap.size 3 1 v' (n + 1) (xs ++ [.int .i64 y]) ∧ Below w.heap.size w w2 := by
  have h1 := bel_trans hB hb
  have h2 := h1.alloc (by have := h1.size; omega) o
  refine ⟨hown', h2.grown hg (by have := h1.size; simp; omega) (fun k hk => ((own_below hown hb).lt k hk).1)⟩
/-- A slice that the call owns: its value and its cells, nil or not. -/
theorem own_cells {w : World} {base : Nat} {v : Value} {zs : List Int} (h : w.ownsRow base 3 1 v zs.length (zs.map (Value.int .i64))) :
    ∃ A cap, v = .slice A zs.length cap ∧ zs.length ≤ cap ∧ cap ≤ maxLen ∧ Cells w w.heap.size A zs.length (fun j => zs.getD j 0) := by
  have h0 := h
  rcases h.2 with ⟨hv, h1⟩ | ⟨g, cap, cur, hv, _, hg, hnc, hcm, _⟩
  · exact ⟨none, 0, by rw [hv, h1], by omega, by simp [maxLen], fun hn => by omega⟩
  · subst hv
    refine ⟨_, cap, rfl, hnc, hcm, fun _ => ⟨g, 0, rfl, (Array.getElem?_eq_some_iff.1 hg).1, fun j hj => ?_⟩⟩
    rw [Nat.zero_add, h0.cellAt j (by omega)]
    simp [hj]

/-- A slice expression whose value is known. -/
theorem wpList_slice_run {P : Program} {w : World} {ops : Array Oper} {rest : List Oper} {o : Oper} {a : Act} {Q : Exit → Act → World → Prop} (hgd : o.guard = none) (t : TypeId) (x : Operand) (lo hi mx : Option Operand)
    (ho : o.op = .slice t x lo hi mx) (v : Value) (hr : (Instr.sliceAt t (a.eval x) (lo.map a.eval) (hi.map a.eval) (mx.map a.eval)).run P w = .ok v w) (h : wpList P ops Q rest (a.put o.dst v) w) : wpList P ops Q (o :: rest) a w := by
  refine wpList_plain hgd fun K hK => ?_
  unfold Oper.wp
  simp [execOp, ho, hr, Result.andThen]
  exact hK _ _ h
theorem elem22 : Try.prog.elem 22 = 3 := by kernel_rfl
theorem und22 : Try.prog.underlying 22 = some (.slice (Try.prog.elem 22)) := by rw [elem22]; exact Try.underlying22
theorem size3 : (Try.prog.info? 3).map (·.size) = some 1 := by kernel_rfl
theorem run_size {e : TypeId} {n : Nat} (h : (Try.prog.info? e).map (·.size) = some n) (w : World) : (sizeOf e).run Try.prog w = .ok n w := by
  cases hx : Try.prog.info? e with
  | none => rw [hx] at h; cases h
  | some i => rw [hx] at h; simp at h; simp [sizeOf, typeInfo, hx, h]
/-- The first elements. -/
theorem cut_head (A : Option Addr) (n c i : Nat) (hn : i ≤ n) (hc : n ≤ c) :
    ∃ A' c', (∀ w, (Instr.sliceAt 22 (.slice A n c) none (some (.int .i64 (i : Int))) none).run Try.prog w = .ok (.slice A' i c') w) ∧ i ≤ c' ∧ c' = c ∧ ∀ w B f, Cells w B A n f → Cells w B A' i f := by
  refine ⟨if c = 0 then A else A.map fun a => a.add 0, c, fun w => ?_, by omega, rfl, fun w B f h h0 => ?_⟩
  · rw [run_sliceAt_slice w 22 _ _ _ _ und22, run_slice_h w 22 A n c und22 .i64 (i : Int) (by omega) (by omega), elem22, run_size size3]
    simp [Result.andThen, sliced]
  · obtain ⟨b, off, rfl, hb, hcl⟩ := h (by omega)
    refine ⟨b, off, ?_, hb, fun j hj => hcl j (by omega)⟩
    rw [if_neg (by omega)]
    simp [Addr.add]
/-- The elements from one on. -/
theorem cut_tail (A : Option Addr) (n c i : Nat) (hn : i ≤ n) (hc : n ≤ c) :
    ∃ A' c', (∀ w, (Instr.sliceAt 22 (.slice A n c) (some (.int .i64 (i : Int))) none none).run Try.prog w = .ok (.slice A' (n - i) c') w) ∧ n - i ≤ c' ∧ c' = c - i ∧ ∀ w B f, Cells w B A n f → Cells w B A' (n - i) (fun j => f (i + j)) := by
  refine ⟨if c = i then A else A.map fun a => a.add i, c - i, fun w => ?_, by omega, rfl, fun w B f h h0 => ?_⟩
  · rw [run_sliceAt_slice w 22 _ _ _ _ und22, run_slice_l w 22 A n c und22 .i64 (i : Int) (by omega) (by omega), elem22, run_size size3]
    simp [Result.andThen, sliced]
  · obtain ⟨b, off, rfl, hb, hcl⟩ := h (by omega)
    refine ⟨b, off + i, ?_, hb, fun j hj => ?_⟩
    · rw [if_neg (by omega)]
      simp [Addr.add]
    · rw [Nat.add_assoc]; exact hcl (i + j) (by omega)
end Go.Proofs.Ytgnlepjpclcnoaa
