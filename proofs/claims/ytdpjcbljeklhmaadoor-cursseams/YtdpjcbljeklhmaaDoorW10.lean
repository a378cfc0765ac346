/-
  What Edits leaves of a list of edits: the first so many, each text cut short. Condition: at most 1000 are asked for.
-/
import Derived.Test.YtdpjcbljeklhmaaDoorMem2
namespace Go.Proofs.YtdpjcbljeklhmaaDoor
open Go.RowKit ObGap

theorem four_cells (w : World) (a b c d : Value) (t : TypeId) : ∀ j u, [a, b, c, d][j]? = some u → (w.alloc (.cells #[a, b, c, d] t)).cell? ((⟨w.heap.size, 0, none⟩ : Addr).add j) = some u := by
  intro j u hj
  match j, hj with
  | 0, hj => simp at hj; subst hj; simp [Addr.add]
  | 1, hj => simp at hj; subst hj; simp [Addr.add]
  | 2, hj => simp at hj; subst hj; simp [Addr.add]
  | 3, hj => simp at hj; subst hj; simp [Addr.add]
  | j + 4, hj => simp at hj
theorem four_cells1 (w : World) (o : Obj) (a b c d : Value) (t : TypeId) : ∀ j u, [a, b, c, d][j]? = some u → ((w.alloc o).alloc (.cells #[a, b, c, d] t)).cell? ((⟨w.heap.size + 1, 0, none⟩ : Addr).add j) = some u := by
  have := four_cells (w.alloc o) a b c d t
  rwa [show (w.alloc o).heap.size = w.heap.size + 1 by simp] at this
theorem ones4 (a b c : Int) (s : Bs) : ∀ u ∈ [Value.int .i64 a, Value.int .i64 b, Value.int .i64 c, str s], u.oneCell' = true := by
  intro u hu; simp at hu; rcases hu with rfl | rfl | rfl | rfl <;> rfl
/-- One edit appended: what is owned, and what stays. -/
theorem push_ed {w wr w2 : World} {v v' : Value} {l : List Ed} {x : Ed} {o1 o2 : Obj} (hB : Below w.heap.size w wr) (hown : Ow wr w.heap.size v l)
    (hown' : w2.ownsRow w.heap.size 34 4 v' (l.length + 1) (cellsE l ++ [.int .i64 x.k, .int .i64 x.a, .int .i64 x.n, str x.s])) (hg : ((wr.alloc o1).alloc o2).grownBy w2 v.ownBlock) : Ow w2 w.heap.size v' (l ++ [x]) ∧ Below w.heap.size w w2 := by
  have h1 := (hB.alloc hB.size o1).alloc (by have := hB.size; simp; omega) o2
  refine ⟨?_, h1.grown hg (by have := hB.size; simp; omega) (fun k hk => (hown.lt k hk).1)⟩
  unfold Ow
  rw [cellsE_append, List.length_append]
  exact hown'
theorem eds_succ {l : List Ed} {most each k : Nat} (hk : k < l.length) (hm : k < most) : (eds l most each).take (k + 1) = (eds l most each).take k ++ [{ l[k] with s := l[k].s.take each }] := by
  have h1 : k < (eds l most each).length := by simp [eds]; omega
  rw [List.take_succ_eq_append_getElem h1]
  congr 1
  simp [eds]
theorem eds_all {l : List Ed} {most each k : Nat} (h : l.length ≤ k ∨ most ≤ k) : (eds l most each).take k = eds l most each := by
  apply List.take_of_length_le
  simp [eds]; omega
end Go.Proofs.YtdpjcbljeklhmaaDoor
