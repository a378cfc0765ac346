/-
  A slice of ranges that came in, opened: its value, its list of ranges, and how it lies. Beside it what the rows share. No condition.
-/
import Derived.Test.YtfjcljhodnkieaaRows
import Derived.Test.YtfjcljhodnkieaaMem
import Derived.Deep.SlicePairs
import Derived.ProofKit
namespace Go.Proofs.Ytfjcljhodnkieaa
open Go.ChangeShapes Go.WideShapes Go.ChangeAt Go.RowKit ObSets

theorem Try.own : ownKnob Try.prog.godebug = none := by kernel_rfl
theorem Try.laidOut : laidOutB Try.prog = true := by kernel_rfl
theorem cell_lt {w : World} {b o : Nat} {v : Value} (h : w.cell? ⟨b, o, none⟩ = some v) : b < w.heap.size := by
  rcases Nat.lt_or_ge b w.heap.size with h1 | h1
  · exact h1
  · unfold World.cell? at h
    rw [Array.getElem?_eq_none h1] at h
    cases h
theorem wf_i64_bd {x : Int} (h : (Lit.int .i64 x).wf = true) : -9223372036854775808 ≤ x ∧ x ≤ 9223372036854775807 := by
  simpa [Lit.wf, IntKind.min, IntKind.max, IntKind.signed, IntKind.bits] using h
/-- Both ends are ints of 64 bits. -/
def Fits (l : List R) : Prop := ∀ r ∈ l, (-9223372036854775808 ≤ r.1 ∧ r.1 ≤ 9223372036854775807) ∧ (-9223372036854775808 ≤ r.2 ∧ r.2 ≤ 9223372036854775807)
theorem view {H : Type} {enc : TypeId × Value → H} {W : World} {d : DataW H} {p : List MemPlace} {v : Value} (h : DataW.Trod enc Try.prog W 0 (fun _ => true) true 22 v d p) (hv : ∃ A n c, v = .slice A n c) :
    ∃ A n c l, v = .slice A n c ∧ l.length = n ∧ n ≤ c ∧ c ≤ maxLen ∧ (A = none → l = []) ∧ Rgs W W.heap.size A l ∧ Fits l := by
  obtain ⟨A, n, c, rfl⟩ := hv
  obtain ⟨fuel, hf⟩ := h
  rcases Deep.open_slice_pairs Try.underlying22 Try.underlying32 (by kernel_rfl) rfl rfl (by kernel_rfl) (by kernel_rfl) hf with ⟨hcs, _⟩ | ⟨a, len, cap, m, k, V0, V1, D0, D1, P0, P1, hcs, _, hl, hm, hmm, _, hcell⟩
  · simp [Value.cells] at hcs
    obtain ⟨rfl, rfl, rfl⟩ := hcs
    exact ⟨_, _, _, [], rfl, rfl, Nat.le_refl _, Nat.zero_le _, fun _ => rfl, Rgs.nil, fun r hr => by simp at hr⟩
  · simp [Value.cells] at hcs
    obtain ⟨rfl, rfl, rfl⟩ := hcs
    have hlm : n ≤ m := by rw [hmm]; split <;> omega
    have ints : ∀ i, ∃ q : Int × Int, i < n → V0 i = .int .i64 q.1 ∧ V1 i = .int .i64 q.2 ∧ (-9223372036854775808 ≤ q.1 ∧ q.1 ≤ 9223372036854775807) ∧ (-9223372036854775808 ≤ q.2 ∧ q.2 ≤ 9223372036854775807) := fun i => by
      by_cases hi : i < n
      · obtain ⟨_, _, h0, h1⟩ := hcell i (by omega)
        obtain ⟨x, hx, _, wx⟩ := DataW.trod_int Try.underlying3 h0
        obtain ⟨y, hy, _, wy⟩ := DataW.trod_int Try.underlying3 h1
        exact ⟨(x, y), fun _ => ⟨by injection hx, by injection hy, wf_i64_bd wx, wf_i64_bd wy⟩⟩
      · exact ⟨(0, 0), fun h => absurd h hi⟩
    obtain ⟨q, hq⟩ := Classical.axiomOfChoice ints
    refine ⟨_, _, _, (List.range n).map q, rfl, by simp, hl, hm, (fun h => by cases h), fun h0 => ?_, fun r hr => ?_⟩
    · have hn : 0 < n := by
        rcases Nat.eq_zero_or_pos n with h1 | h1
        · subst h1; simp at h0
        · exact h1
      obtain ⟨b, off, spot⟩ := a
      have hspot : spot = none := by simpa [Addr.add] using World.cell?_spot (hcell 0 (by omega)).1
      subst hspot
      refine ⟨b, off, rfl, ?_, fun j r hj => ?_⟩
      · have := (hcell 0 (by omega)).1
        rw [add_plain] at this
        exact cell_lt this
      · have hj' : j < n := by
          rcases Nat.lt_or_ge j n with h1 | h1
          · exact h1
          · rw [List.getElem?_eq_none (by simp; omega)] at hj; cases hj
        have hr : r = q j := by
          rw [List.getElem?_map, List.getElem?_range hj'] at hj
          simp at hj; exact hj.symm
        subst hr
        obtain ⟨c0, c1, _, _⟩ := hcell j (by omega)
        obtain ⟨e0, e1, _⟩ := hq j hj'
        rw [add_plain, e0] at c0
        rw [add_plain, e1, ← Nat.add_assoc] at c1
        exact ⟨c0, c1⟩
    · obtain ⟨i, hi, rfl⟩ := List.mem_map.1 hr
      exact (hq i (List.mem_range.1 hi)).2.2
theorem Rgs.take {w : World} {B : Nat} {A : Option Addr} {l : List R} (h : Rgs w B A l) (k : Nat) : Rgs w B A (l.take k) := fun hn => by
  obtain ⟨b, off, e, hb, hc⟩ := h (fun e => hn (by rw [e]; simp))
  refine ⟨b, off, e, hb, fun j r hj => hc j r ?_⟩
  rw [List.getElem?_take] at hj
  split at hj
  · exact hj
  · cases hj
theorem Fits.take {l : List R} (h : Fits l) (k : Nat) : Fits (l.take k) := fun r hr => h r (List.mem_of_mem_take hr)
end Go.Proofs.Ytfjcljhodnkieaa
