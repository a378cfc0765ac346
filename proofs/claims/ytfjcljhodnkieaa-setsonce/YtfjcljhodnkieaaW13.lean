/-
  What slices.Grow of nothing, slices.Concat of two and of three slices of ranges, and Or, of the program and of the page's own, answer. Condition: at most 300000 ranges each.
-/
import Derived.Test.YtfjcljhodnkieaaW9
import Derived.Test.YtfjcljhodnkieaaPlain3
import Derived.Lib.AppendZeros
import Derived.Laws.AppendOwnNone
namespace Go.Proofs.Ytfjcljhodnkieaa
open Go.RowKit ObSets

set_option maxHeartbeats 1000000 in
theorem grow_any (n : Nat) (w : World) (hn : n ≤ 1000000) : Calls Try.prog 54 #[.slice none 0 0, .int .i64 n] w (RetR [] w) := by
  obtain ⟨i0, hi, hz0, hz1, hz2⟩ := info_parts info32
  rcases Nat.eq_zero_or_pos n with rfl | h0
  · go_enter Try.func54, Try.ntmps54
    go_wp2
    go_ret
    exact ⟨_, rfl, Ow.nil _ _, Below.refl _ _⟩
  · have hrz := fun ty => Lib.run_append_nil_zeros (P := Try.prog) w 22 3 ty 32 i0 (.agg #[.int .i64 0, .int .i64 0]) .i64 .i64 Try.underlying22 Try.underlying3 hi hz0 n h0 (by omega) (by omega) (by rw [hz2]; omega)
    have hge := grownCap_ge w n 0 32
    have hcm := grownCap_le_maxLen w n 0 32 (by unfold maxLen; omega)
    generalize grownCap w n 0 32 = G at *
    have hcm' : G ≤ 9223372036854775807 := by unfold maxLen at hcm; omega
    have HS := Lib.hid (show (Builtin.zeroCells (Value.agg #[.int .i64 0, .int .i64 0]).cells n ++ Builtin.zeroCells (Value.agg #[.int .i64 0, .int .i64 0]).cells (G - n)).size = G * 2 by
      rw [Array.size_append, size_zeroCells, size_zeroCells]
      show n * 2 + (G - n) * 2 = G * 2
      omega)
    generalize (Builtin.zeroCells (Value.agg #[.int .i64 0, .int .i64 0]).cells n ++ Builtin.zeroCells (Value.agg #[.int .i64 0, .int .i64 0]).cells (G - n)) = cur at *
    have h1 : ¬ ((n : Int) < 0) := by omega
    have h4 : (0 : Int) < (n : Int) := by omega
    have hw : IntKind.i64.wrap (n : Int) = n := IntWalk.i64_in _ (by omega)
    go_enter Try.func54, Try.ntmps54
    go_wp2_with (at_builtin; refine Lib.wpList_append_run _ rfl _ _ _ _ rfl _ _ rfl rfl _ _ (hrz _) ?_)
    go_ret
    refine ⟨_, rfl, ⟨rfl, .inr ⟨w.heap.size, G, cur, rfl, Nat.le_refl _, heap_alloc_new w.drew _, Nat.zero_le _, hcm, HS.out, by simp [cellsR]⟩⟩, (Below.refl _ _).drew.alloc (by simp) _⟩

/-- One list appended to a row of the call's own, the source nil, empty or not. -/
theorem append_src {w : World} {B : Nat} {v : Value} {l m : List R} {A : Option Addr} {c : Nat} (ty : TypeId) (hown : Ow w B v l) (hr : Rgs w w.heap.size A m) (hA : A = none → m = []) (hlen : l.length + m.length ≤ 1000000) (hB : B ≤ w.heap.size) :
    ∃ v' w', (Builtin.append_ #[22, 22] ty #[v, .slice A m.length c]).run Try.prog w = .ok v' w' ∧ Ow w' B v' (l ++ m) ∧ w.grownBy w' v.ownBlock := by
  obtain ⟨i0, hi, hz0, hz1, hz2⟩ := info_parts info32
  rcases A with _ | ad
  · obtain rfl := hA rfl
    refine ⟨v, w, ?_, by simpa using hown, World.grownBy.refl w _⟩
    obtain ⟨A1, cap, rfl, hc1, hc2, _, _⟩ := hown.shape
    simp only [List.length_nil]
    rcases hown.2 with ⟨hv, _⟩ | ⟨g, cap', cur, hv, _, _, hnc, _⟩
    · rw [hv]
      simp [Builtin.append_, run_underlying Try.underlying22, sizeOf, typeInfo, hi, Builtin.lenOf, Builtin.firstCells]
    · rw [hv]
      simp [Builtin.append_, run_underlying Try.underlying22, sizeOf, typeInfo, hi, Builtin.lenOf, Builtin.firstCells, hnc, storeCells]
  · have hcells : ∀ j u, (cellsR m)[j]? = some u → w.cell? (ad.add j) = some u := by
      intro j u hu
      obtain ⟨r, h1, h2⟩ := cellsR_get m j u hu
      obtain ⟨b, off, e, _, hc⟩ := hr (fun e => by rw [e] at h1; simp at h1)
      injection e with e
      subst e
      have := hc _ _ h1
      rw [show (⟨b, off, none⟩ : Addr).add j = ⟨b, off + j, none⟩ by unfold Addr.add; split <;> simp_all]
      rcases h2 with ⟨h2, rfl⟩ | ⟨h2, rfl⟩
      · rw [show off + j = off + j / 2 * 2 by omega]; exact this.1
      · rw [show off + j = off + j / 2 * 2 + 1 by omega]; exact this.2
    obtain ⟨v', w', hrun, h2, h3, _⟩ := run_append_own (P := Try.prog) w B 22 ty 32 i0 (.agg #[.int .i64 0, .int .i64 0]) 2 16 Try.underlying22 hi hz0 hz1 hz2 rfl (by omega) v l.length (cellsR l) hown ad m.length c (cellsR m) (cellsR_len m) hcells (cellsR_one m) (by unfold maxLen; omega) (by omega) hB
    refine ⟨v', w', hrun, ?_, h3⟩
    unfold Ow
    rw [cellsR_append, List.length_append]
    exact h2
theorem rgs_none {w : World} {B : Nat} {A : Option Addr} {l : List R} (h : Rgs w B A l) : A = none → l = [] := fun e => by
  rcases l with _ | ⟨r, l⟩
  · rfl
  · obtain ⟨b, off, e2, _⟩ := h (by simp)
    rw [e] at e2; cases e2
end Go.Proofs.Ytfjcljhodnkieaa
