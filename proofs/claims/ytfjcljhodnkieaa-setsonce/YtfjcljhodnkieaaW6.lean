/-
  What slices.SortFunc by Lo does to a row of ranges that the call owns: it holds the same ranges, sorted by Lo. By the library's own contract. Condition: at most 1000000 ranges.
-/
import Derived.Test.YtfjcljhodnkieaaMem
import Derived.Test.YtfjcljhodnkieaaShelf
namespace Go.Proofs.Ytfjcljhodnkieaa
open Go.RowKit ObSets Go.Shelf Go.Lib
open Go.Sort (SWO grow grow_grow alloc_eq_grow HoldsK flatK get_flatK size_flatK putRowK putRow putCells mapBlock onCells heap_grow_old PermIn SortedIn)

/-- A range's two cells. -/
def enc2 (x : R) : List Value := [.int .i64 x.1, .int .i64 x.2]

set_option maxHeartbeats 1000000 in
theorem closure_any (x y : R) (W : World) : Calls Try.prog 37 #[.agg #[.int .i64 x.1, .int .i64 x.2], .agg #[.int .i64 y.1, .int .i64 y.2]] W fun e w' => e = .returned (.int .i64 (Lib.compareInt x.1 y.1)) ∧ ∃ q os', w' = grow (W.drewN q) os' := by
  have hcon := fun W' => AnyG.cmp_Compare_int Try.cmpInt x.1 y.1 W'
  change ∀ W', Calls Try.prog 38 _ _ _ at hcon
  generalize Lib.compareInt x.1 y.1 = r at hcon ⊢
  go_enter Try.func37, Try.ntmps37
  go_wp2_with (go_at_call 38; refine (hcon _).mono ?_; rintro e w' ⟨rfl, rfl⟩)
  go_ret
  exact ⟨rfl, 0, _, by rw [alloc_eq_grow, alloc_eq_grow, grow_grow]; rfl⟩
theorem cmpLays (blk off size : Nat) (w : World) : CmpLays Try.prog 37 #[] enc2 2 (fun x y => Lib.compareInt x.1 y.1) blk off size w :=
  fun _ _ _ _ x y => closure_any x y _
theorem ltLo (x y : R) : ltOf (fun x y : R => Lib.compareInt x.1 y.1) x y = decide (x.1 < y.1) := by
  unfold ltOf Lib.compareInt
  by_cases h1 : x.1 < y.1
  · simp [h1]
  · by_cases h2 : y.1 < x.1 <;> simp [h1, h2]
theorem swoLo : SWO (ltOf fun x y : R => Lib.compareInt x.1 y.1) where
  irrefl x := by rw [ltLo]; simp
  trans x y z h1 h2 := by rw [ltLo] at *; simp at *; omega
  ntrans x y z h1 h2 := by rw [ltLo] at *; simp at *; omega

theorem flat_cells (l : List R) (t : Nat) (ht : t < l.length * 2) : (cellsR l)[t]? = some ((flatK enc2 2 l.toArray)[t]!) := by
  have hk : t / 2 < l.length := by omega
  rw [get_flatK _ _ _ _ (by simpa using ht)]
  have e : (l.toArray)[t / 2]! = l[t / 2] := by simp [hk]
  rw [e]
  have := cellsR_at l (t / 2) _ (List.getElem?_eq_getElem hk)
  rcases (show t % 2 = 0 ∨ t % 2 = 1 by omega) with h | h
  · rw [show t / 2 * 2 = t by omega] at this
    rw [this.1, h]; rfl
  · rw [show t / 2 * 2 + 1 = t by omega] at this
    rw [this.2, h]; rfl
theorem holds_row {w : World} {g : Nat} {cur : Array Value} {l : List R} (hb : w.heap[g]? = some (.cells cur 32 (0, 0))) (ht : cur.toList.take (l.length * 2) = cellsR l) : HoldsK enc2 2 w g 0 l.toArray := by
  intro j hj
  have hj' : j < l.length * 2 := by simpa using hj
  refine ⟨?_, by simp [World.frozen?, hb]⟩
  have h1 := flat_cells l j hj'
  rw [← ht, List.getElem?_take_of_lt hj'] at h1
  simp only [World.cell?, hb, Nat.zero_add]
  simp only [Option.isSome_none, Bool.false_eq_true, if_false]
  rw [← Array.getElem?_toList, h1]
  rfl
theorem heap_sorted2 {w : World} {g n : Nat} {os : Array Obj} {cur : Array Value} {e : TypeId} {fr : Nat × Nat} (d : Array R) (hb : w.heap[g]? = some (.cells cur e fr)) :
    (sortWorldK enc2 2 w g 0 n d os).heap[g]? = some (.cells (putCells id 0 (flatK enc2 2 d) cur) e fr) := by
  have hg : g < w.heap.size := (Array.getElem?_eq_some_iff.1 hb).1
  unfold sortWorldK
  rw [heap_grow_old _ _ (by simpa [putRowK] using hg)]
  simp [putRowK, putRow, mapBlock, Sort.ahead, Array.getElem?_modify, hb, onCells]
theorem grownBy_sorted2 {w : World} {g n : Nat} {os : Array Obj} (d : Array R) : w.grownBy (sortWorldK enc2 2 w g 0 n d os) (some g) := by
  unfold sortWorldK
  refine ⟨rfl, rfl, rfl, by simp [putRowK], fun k hk hne => ?_⟩
  rw [heap_grow_old _ _ (by simpa [putRowK] using hk)]
  have : g ≠ k := fun e => hne (by rw [e])
  simp [putRowK, putRow, mapBlock, Sort.ahead, Array.getElem?_modify, this]
theorem take_put (cur : Array Value) (l : List R) (h : l.length * 2 ≤ cur.size) : (putCells id 0 (flatK enc2 2 l.toArray) cur).toList.take (l.length * 2) = cellsR l := by
  apply List.ext_getElem?
  intro j
  by_cases hj : j < l.length * 2
  · rw [List.getElem?_take_of_lt hj, Array.getElem?_toList, flat_cells l j hj]
    simp [putCells, hj, show j < cur.size by omega]
  · rw [List.getElem?_take_eq_none (by omega), List.getElem?_eq_none (by rw [cellsR_len]; omega)]

theorem sort_any (B : Nat) (v : Value) (l : List R) (w : World) (h : Ow w B v l) (hB : B ≤ w.heap.size) (hl : l.length ≤ 1000000) :
    Calls Try.prog 36 #[v, .func (.func 37) #[] #[]] w fun e w' => e = .returned (.tuple #[]) ∧ ∃ l', l'.Perm l ∧ Srt l' ∧ l'.length = l.length ∧ Ow w' B v l' ∧ Below B w w' := by
  rcases h.2 with ⟨rfl, hn⟩ | ⟨g, cap, cur, rfl, hbg, hg, hnc, hcm, hcs, htake⟩
  · have hl0 : l = [] := List.eq_nil_of_length_eq_zero hn
    subst hl0
    have hcon := AnyF.slices_SortFunc_none Try.sortRng none 0 (.func (.func 37) #[] #[]) w
    change Calls Try.prog 36 _ _ _ at hcon
    refine hcon.mono ?_
    rintro e w' ⟨rfl, rfl⟩
    exact ⟨rfl, [], List.Perm.refl _, List.Pairwise.nil, rfl, h, Below.refl _ _⟩
  · have eg : ∀ args w, (callFunc 37 args).run Try.prog w = .ok (.enter 37 args) w := enters_of Try.func37 (by kernel_rfl) rfl
    have hlt : g < w.heap.size := (Array.getElem?_eq_some_iff.1 hg).1
    have hcon := AnyQ.slices_SortFunc Try.sortRng 2 Try.isAgg32 Try.sizeOf32 enc2 (fun _ => rfl) (fun x v hv => by simp [enc2] at hv; rcases hv with rfl | rfl <;> rfl) (fun x y => Lib.compareInt x.1 y.1) swoLo 37 #[] g 0 cap l.toArray w eg (cmpLays g 0 _ w) (holds_row hg htake) hlt (by simp; omega)
    change Calls Try.prog 36 _ _ _ at hcon
    rw [List.size_toArray] at hcon
    refine hcon.mono ?_
    rintro e w' ⟨rfl, d', n, os, hp, hs, rfl⟩
    have hsz : d'.size = l.length := by simpa using hp.1
    have hperm : d'.toList.Perm l := by
      have := hp.2.2
      rw [show d'.extract 0 l.length = d' by rw [← hsz]; simp, show l.toArray.extract 0 l.length = l.toArray by simp] at this
      simpa using this
    have hsrt : Srt d'.toList := by
      refine List.pairwise_iff_getElem.2 fun i j hi hj hij => ?_
      have := hs i j (Nat.zero_le _) hij (by simpa [hsz] using hj)
      rw [ltLo] at this
      have hi' : i < d'.size := by simpa using hi
      have hj' : j < d'.size := by simpa using hj
      rw [getElem!_pos d' j hj', getElem!_pos d' i hi'] at this
      simp at this
      simpa using this
    refine ⟨rfl, d'.toList, hperm, hsrt, by simpa using hsz, ?_, ?_⟩
    · unfold Ow
      rw [show d'.toList.length = l.length by simpa using hsz]
      refine ⟨by rw [cellsR_len]; simp [hsz], .inr ⟨g, cap, _, rfl, hbg, heap_sorted2 _ hg, hnc, hcm, by simp [putCells, hcs], ?_⟩⟩
      have := take_put cur d'.toList (by rw [show d'.toList.length = l.length by simpa using hsz, hcs]; omega)
      rw [show d'.toList.length = l.length by simpa using hsz] at this
      simpa using this
    · exact (Below.refl B w).grown (grownBy_sorted2 _) hB (fun k hk => by injection hk with hk; omega)
end Go.Proofs.Ytfjcljhodnkieaa
