/-
  What shift of the program answers: the ranges, each end moved. Conditions: at most 1000000 ranges, whose ends are symbols; a move of at most 1000.
-/
import Derived.Test.YtfjcljhodnkieaaMem
namespace Go.Proofs.Ytfjcljhodnkieaa
open Go.RowKit ObSets

theorem two_cells (w : World) (a b : Value) (t : TypeId) : ∀ j u, [a, b][j]? = some u → (w.alloc (.cells #[a, b] t)).cell? ((⟨w.heap.size, 0, none⟩ : Addr).add j) = some u := by
  intro j u hj
  match j, hj with
  | 0, hj => simp at hj; subst hj; simp [Addr.add]
  | 1, hj => simp at hj; subst hj; simp [Addr.add]
  | j + 2, hj => simp at hj
theorem two_cells1 (w : World) (o : Obj) (a b : Value) (t : TypeId) : ∀ j u, [a, b][j]? = some u → ((w.alloc o).alloc (.cells #[a, b] t)).cell? ((⟨w.heap.size + 1, 0, none⟩ : Addr).add j) = some u := by
  have := two_cells (w.alloc o) a b t
  rwa [show (w.alloc o).heap.size = w.heap.size + 1 by simp] at this
theorem ones2 (a b : Int) : ∀ u ∈ [Value.int .i64 a, Value.int .i64 b], u.oneCell' = true := by
  intro u hu; simp at hu; rcases hu with rfl | rfl <;> rfl
/-- One range appended: what is owned, and what stays. -/
theorem push_rel {w wr w1 w2 : World} {v v' : Value} {l : List R} {a b : Int} {o : Obj} (hB : Below w.heap.size w wr) (hb : Below wr.heap.size wr w1) (hown : Ow wr w.heap.size v l)
    (hown' : w2.ownsRow w.heap.size 32 2 v' (l.length + 1) (cellsR l ++ [.int .i64 a, .int .i64 b])) (hg : (w1.alloc o).grownBy w2 v.ownBlock) : Ow w2 w.heap.size v' (l ++ [(a, b)]) ∧ Below w.heap.size w w2 := by
  have h1 := bel_trans hB hb
  have h2 := h1.alloc (by have := h1.size; omega) o
  refine ⟨?_, h2.grown hg (by have := h1.size; simp; omega) (fun k hk => ((own_below hown hb).lt k hk).1)⟩
  unfold Ow
  rw [cellsR_append, List.length_append]
  exact hown'
def moved (d : Int) (r : R) : R := (r.1 + d, r.2 + d)

set_option maxHeartbeats 1000000 in
set_option maxRecDepth 100000 in
theorem shift_any (A : Option Addr) (c : Nat) (l : List R) (d : Int) (w : World) (h : Rgs w w.heap.size A l) (hl : l.length ≤ 1000000) (hd : -1000 ≤ d ∧ d ≤ 1000) (hv : ∀ r ∈ l, V r) :
    Calls Try.prog 49 #[.slice A l.length c, .int .i64 d] w (RetR (l.map (moved d)) w) := by
  obtain ⟨i0, hi, hz0, hz1, hz2⟩ := info_parts info32
  obtain ⟨hd1, hd2⟩ := hd
  generalize hn : l.length = n at *
  have HN := Lib.hid hn
  have HV := Lib.hid hv
  clear hn hv
  go_enter Try.func49, Try.ntmps49
  go_wp2
  go_loopw [5, 10] (fun v t wr => ∃ k : Nat, k ≤ n ∧ t = .int .i64 k ∧ Ow wr w.heap.size v ((l.take k).map (moved d)) ∧ Below w.heap.size w wr) (fun _ t _ => n - (intOf t).toNat)
  case atStart => exact ⟨0, by omega, rfl, Ow.nil _ _, Below.refl _ _⟩
  case round =>
    obtain ⟨k, hk, rfl, hown, hb2⟩ := hrel
    have HO := Lib.hid hown
    clear hown
    by_cases hkn : k < n
    · obtain ⟨b, off, p, q, rfl, hbl, e1, f1, f2⟩ := (h.below hb2).at_ (k := k) (by rw [HN.out]; exact hkn)
      have hvr := HV.out (p, q) (List.mem_of_getElem? e1)
      have hp := sym_pos hvr.1
      have hq := sym_pos hvr.2.1
      simp only at hp hq
      obtain ⟨hp1, hp2⟩ := hp
      obtain ⟨hq1, hq2⟩ := hq
      have E1 := Lib.hid e1
      clear e1 hvr
      have hk1 : (k : Int) < (n : Int) := by omega
      have hlen := Lib.hid (show ((l.take k).map (moved d)).length = k by rw [List.length_map, List.length_take, HN.out]; omega)
      generalize hm : (l.take k).map (moved d) = m at HO hlen
      have HM := Lib.hid hm
      clear hm
      have w1 : IntKind.i64.wrap (p + d) = p + d := IntWalk.i64_in _ (by omega)
      have w2 : IntKind.i64.wrap (q + d) = q + d := IntWalk.i64_in _ (by omega)
      go_wp2_with (at_builtin; refine wpList_append_own _ rfl _ _ 22 rfl w.heap.size 32 i0 (.agg #[.int .i64 0, .int .i64 0]) 2 16 Try.underlying22 hi hz0 hz1 hz2 rfl (by omega) _ _ _ rfl ((HO.out.alloc _).alloc _) ⟨wr.heap.size + 1, 0, none⟩ 1 1 [.int .i64 (p + d), .int .i64 (q + d)] rfl rfl (two_cells1 _ _ _ _ _) (ones2 _ _) ?c3 ?c4 ?c5 ?_)
      case c3 => rw [hlen.out]; unfold maxLen; omega
      case c4 => rw [hlen.out]; omega
      case c5 => have := hb2.size; simp; omega
      intro v' w2 hown' hgrow _
      have R := push_rel hb2 ((Below.refl _ wr).alloc (Nat.le_refl _) _) HO.out hown' hgrow
      clear hown' hgrow
      have R1 := Lib.hid R.1; have R2 := R.2
      clear R
      have HT := Lib.hid (show (l.take (k + 1)).map (moved d) = m ++ [(p + d, q + d)] by rw [← HM.out, List.take_add_one, E1.out]; simp [moved])
      go_wp2
      go_roundw
      case rel => exact ⟨k + 1, by omega, by go_num, by rw [HT.out]; exact R1.out, R2⟩
      case measure => simp [intOf]; omega
    · have hk1 : decide (k < n) = false := by simp; omega
      obtain rfl : k = n := by omega
      have HO2 := Lib.hid (show Ow wr w.heap.size _ (l.map (moved d)) by have := HO.out; rwa [← HN.out, List.take_length] at this)
      go_wp2
      go_ret
      exact ⟨_, rfl, HO2.out, hb2⟩
end Go.Proofs.Ytfjcljhodnkieaa
