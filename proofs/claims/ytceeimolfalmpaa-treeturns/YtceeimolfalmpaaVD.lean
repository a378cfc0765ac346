/-
  Whether a row of nodes is a tree (Sound), of the program. Conditions: at most 20000 nodes, each with at most 1000000 ranges.
-/
import Derived.Test.YtceeimolfalmpaaVC
import Derived.Test.YtceeimolfalmpaaTS
namespace Go.Proofs.Ytceeimolfalmpaa
open Go.RowKit ObSets ObTree

abbrev bools (bs : List Bool) : List Value := bs.map Value.bool
theorem info4 : (Try.prog.info? 4).map (fun i => (i.zero, i.size, i.bytes)) = some (some (.bool false), 1, 1) := by kernel_rfl
theorem made_bools (n : Nat) : (madeCells (Value.bool false).cells (n * 1)).toList = bools (List.replicate n false) := by
  apply List.ext_getElem
  · simp [madeCells, bools]
  · intro j h1 h2
    simp [madeCells, bools, Value.cells, Nat.mod_one]
/-- A row of noes made. -/
theorem make_bools (n B : Nat) (w : World) (hn : n ≤ 20000) (hB : B ≤ w.heap.size) : ∃ w', (Instr.makeSlice 61 (.int .i64 (n : Int)) (.int .i64 (n : Int))).run Try.prog w = .ok (.slice (some ⟨w.heap.size, 0, none⟩) n n) w' ∧ w'.ownsRow B 4 1 (.slice (some ⟨w.heap.size, 0, none⟩) n n) n (bools (List.replicate n false)) ∧ w.grownBy w' none := by
  obtain ⟨i0, hi0, hz0, hz1, hz2⟩ := info_parts info4
  obtain ⟨w', h1, h2, h3⟩ := run_make_full (P := Try.prog) (w := w) B 61 4 i0 (.bool false) 1 Try.underlying61 hi0 hz0 hz1 .i64 .i64 n (by rw [hz2]; omega) (by unfold maxLen; omega) hB
  rw [made_bools] at h2
  exact ⟨w', h1, h2, h3⟩
/-- A cell of an own row. -/
theorem own_cellV {w : World} {B g n : Nat} {e : TypeId} {xs : List Value} (h : w.ownsRow B e 1 (.slice (some ⟨g, 0, none⟩) n n) n xs) {j : Nat} {z : Value} (hz : xs[j]? = some z) : w.cell? ⟨g, j, none⟩ = some z ∧ w.frozen? ⟨g, j, none⟩ = false ∧ B ≤ g ∧ g < w.heap.size := by
  have hc := h.cells (g := g) rfl j z hz
  rw [show (Addr.add ⟨g, 0, none⟩ j) = ⟨g, j, none⟩ by unfold Addr.add; split <;> simp_all] at hc
  refine ⟨hc, ?_, (h.lt g rfl).1, (h.lt g rfl).2⟩
  rcases h.2 with ⟨hv, _⟩ | ⟨g', cap, cur, hv, _, hg, _⟩
  · cases hv
  · injection hv with e1
    injection e1 with e1
    injection e1 with e1
    subst e1
    simp [World.frozen?, hg]
/-- Which of the first n numbers stand among the kids of the first nodes, or among these. -/
def rowK (L : List Nd) (n i : Nat) (l : List Int) : List Bool := (List.range n).map fun (m : Nat) => decide (0 < uses (L.take i) (m : Int) + l.count (m : Int))
theorem rowK_get (L : List Nd) (n i : Nat) (l : List Int) {m : Nat} (h : m < n) : (bools (rowK L n i l))[m]? = some (.bool (decide (0 < uses (L.take i) (m : Int) + l.count (m : Int)))) := by
  unfold bools rowK; rw [List.getElem?_map, List.getElem?_map, List.getElem?_range h]; rfl
theorem rowK_set (L : List Nd) (n i : Nat) (l : List Int) (z : Nat) : (bools (rowK L n i l)).set z (.bool true) = bools (rowK L n i (l ++ [(z : Int)])) := by
  unfold bools
  rw [← List.map_set]
  congr 1
  apply List.ext_getElem?
  intro m
  unfold rowK
  by_cases hm : m < n
  · rw [List.getElem?_map, List.getElem?_range hm, List.getElem?_set, Option.map_some]
    by_cases hz : z = m
    · subst hz
      rw [if_pos rfl, if_pos (by simpa using hm)]
      simp
      omega
    · rw [if_neg hz, List.getElem?_map, List.getElem?_range hm, Option.map_some, List.count_append, List.count_cons_of_ne (by simpa using fun e => hz (by omega)), List.count_nil, Nat.add_zero]
  · rw [List.getElem?_eq_none (by simp; omega), List.getElem?_eq_none (by simp; omega)]
theorem rowK_next (L : List Nd) (n i : Nat) {x : Nd} (h : L[i]? = some x) : rowK L n i (kids x) = rowK L n (i + 1) [] := by
  unfold rowK
  apply List.map_congr_left
  intro m _
  rw [List.take_add_one, h, Option.toList_some, uses_append, uses_one, List.count_nil, Nat.add_zero]
theorem rowK_zero (L : List Nd) (n : Nat) : rowK L n 0 [] = List.replicate n false := by
  apply List.ext_getElem
  · simp [rowK]
  · intro m h1 h2; simp [rowK, uses]
theorem uses_more {L : List Nd} {i : Nat} {x : Nd} (h : L[i]? = some x) (m : Int) : uses (L.take i) m + (kids x).count m ≤ uses L m := by
  have e : uses L m = uses (L.take i) m + uses (L.drop i) m := by rw [← uses_append, List.take_append_drop]
  have e2 : L.drop i = x :: L.drop (i + 1) := List.drop_eq_getElem?_toList_append.trans (by rw [h]; rfl)
  rw [e, e2]
  have : uses (x :: L.drop (i + 1)) m = (kids x).count m + uses (L.drop (i + 1)) m := by simp [uses, List.count_append]
  omega
theorem sum_ind (a : Nat) : ∀ n : Nat, ((List.range n).map (fun (m : Nat) => if a = m then 1 else 0)).sum = if a < n then 1 else 0
  | 0 => rfl
  | n + 1 => by
    rw [List.range_succ, List.map_append, List.sum_append, sum_ind a n]
    simp only [List.map_cons, List.map_nil, List.sum_cons, List.sum_nil]
    split <;> split <;> split <;> omega
theorem sum_add (f g : Nat → Nat) : ∀ l : List Nat, (l.map fun m => f m + g m).sum = (l.map f).sum + (l.map g).sum
  | [] => rfl
  | a :: l => by simp only [List.map_cons, List.sum_cons, sum_add f g l]; omega
theorem sum_count (n : Nat) : ∀ l : List Int, (∀ k ∈ l, 0 ≤ k ∧ k < (n : Int)) → ((List.range n).map fun (m : Nat) => l.count (m : Int)).sum = l.length
  | [], _ => by
    have : ∀ l : List Nat, (l.map fun _ => 0).sum = 0 := fun l => by induction l with | nil => rfl | cons a l ih => simpa using ih
    simpa using this (List.range n)
  | a :: l, h => by
    obtain ⟨h0, h1⟩ := h a (by simp)
    obtain ⟨b, rfl⟩ := Int.eq_ofNat_of_zero_le h0
    have e : ((List.range n).map fun (m : Nat) => ((b : Int) :: l).count (m : Int)) = (List.range n).map fun (m : Nat) => l.count (m : Int) + (if b = m then 1 else 0) := by
      apply List.map_congr_left
      intro m _
      rw [List.count_cons]
      congr 1
      by_cases hb : b = m
      · subst hb; simp
      · rw [if_neg hb, if_neg (by simpa using fun e => hb (by omega))]
    rw [e, sum_add, sum_ind, if_pos (by omega), sum_count n l (fun k hk => h k (by simp [hk])), List.length_cons]
theorem sum_ones (f : Nat → Nat) : ∀ n : Nat, (∀ m, m < n → f m ≤ 1) → ((List.range n).map f).sum ≤ n ∧ (((List.range n).map f).sum = n ↔ ∀ m, m < n → f m = 1)
  | 0, _ => ⟨Nat.le_refl _, fun _ m h => absurd h (Nat.not_lt_zero _), fun _ => rfl⟩
  | n + 1, h => by
    obtain ⟨h1, h2⟩ := sum_ones f n (fun m hm => h m (by omega))
    have h3 := h n (by omega)
    rw [List.range_succ, List.map_append, List.sum_append]
    simp only [List.map_cons, List.map_nil, List.sum_cons, List.sum_nil, Nat.add_zero]
    refine ⟨by omega, fun e m hm => ?_, fun e => ?_⟩
    · by_cases hmn : m < n
      · exact h2.1 (by omega) m hmn
      · obtain rfl : m = n := by omega
        omega
    · have e1 := h2.2 (fun m hm => e m (by omega))
      have e2 := e n (by omega)
      omega
/-- How many kids the first nodes have. -/
def totK (L : List Nd) (i : Nat) : Nat := ((L.take i).flatMap kids).length
theorem totK_le (L : List Nd) (i : Nat) : totK L i ≤ 2 * i := by
  have h : ∀ l : List Nd, (l.flatMap kids).length ≤ 2 * l.length := fun l => by
    induction l with
    | nil => simp
    | cons x l ih => have := kids_len x; simp only [List.flatMap_cons, List.length_append, List.length_cons]; omega
  have := h (L.take i)
  rw [List.length_take] at this
  unfold totK
  omega
theorem totK_next {L : List Nd} {i : Nat} {x : Nd} (h : L[i]? = some x) : totK L (i + 1) = totK L i + (kids x).length := by
  unfold totK
  rw [List.take_add_one, h, Option.toList_some, List.flatMap_append, List.length_append]; simp
/-- Where each number stands once at most among the kids, one node alone is nobody's kid just if the row is sound. -/
theorem roots_sound {L : List Nd} {n : Nat} (hn : L.length = n) (hs : SoundTo L n) (hu : ∀ m : Nat, m < n → uses L (m : Int) ≤ 1) : (n : Int) - (totK L n : Int) = 1 ↔ SoundL L := by
  have hall : ∀ k ∈ L.flatMap kids, 0 ≤ k ∧ k + 1 < (n : Int) := fun k hk => by
    obtain ⟨x, hx, hkx⟩ := List.mem_flatMap.1 hk
    obtain ⟨j, hj⟩ := List.getElem?_of_mem hx
    have hjn : j < n := by rw [← hn]; exact (List.getElem?_eq_some_iff.1 hj).1
    have := (hs j x hjn hj).2 k hkx
    omega
  have ht : totK L n = (L.flatMap kids).length := by unfold totK; rw [List.take_of_length_le (by omega)]
  cases n with
  | zero =>
    have : totK L 0 = 0 := rfl
    constructor
    · intro h; omega
    · intro h; have := h.1; omega
  | succ n =>
    have hsum := sum_count n (L.flatMap kids) (fun k hk => by have := hall k hk; omega)
    obtain ⟨h1, h2⟩ := sum_ones (fun m => uses L (m : Int)) n (fun m hm => hu m (by omega))
    have e : ((List.range n).map fun (m : Nat) => uses L (m : Int)).sum = totK L (n + 1) := by rw [ht]; exact hsum
    rw [e] at h1 h2
    constructor
    · intro h
      exact ⟨by omega, by rw [hn]; exact hs, fun m hm => h2.1 (by omega) m (by omega)⟩
    · intro h
      have := h2.2 (fun m hm => h.2.2 m (by omega))
      omega
end Go.Proofs.Ytceeimolfalmpaa
