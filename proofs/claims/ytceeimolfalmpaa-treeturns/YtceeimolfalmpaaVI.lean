/-
  What slices.SortFunc by numbered's closure does to a row of places that the call owns: the same places, as their trees begin, of two that begin alike the greater one ahead. By the library's own contract. Condition: at most 20000 places.
-/
import Derived.Test.YtceeimolfalmpaaVH
namespace Go.Proofs.Ytceeimolfalmpaa
open Go.RowKit ObSets ObTree Go.Shelf Go.Lib
open Go.Sort (SWO grow grow_grow alloc_eq_grow heap_grow_old PermIn SortedIn Holds putRow putCells mapBlock onCells)

/-- Does one place come ahead of another one? -/
def ahd (fs : List Int) (a b : Int) : Prop := fs[a.toNat]?.getD 0 < fs[b.toNat]?.getD 0 ∨ (fs[a.toNat]?.getD 0 = fs[b.toNat]?.getD 0 ∧ b < a)
instance (fs : List Int) (a b : Int) : Decidable (ahd fs a b) := by unfold ahd; infer_instance
theorem cmp_lt (a b p q : Int) : ((if compareInt a b ≠ 0 then compareInt a b else compareInt q p) < 0) ↔ (a < b ∨ a = b ∧ q < p) := by
  unfold compareInt
  split <;> split <;> (try split) <;> (try split) <;> omega
theorem cfV_lt (fs : List Int) (x y : Nat) : decide (cfV fs x y < 0) = decide (ahd fs x y) := by
  refine decide_eq_decide.2 ?_
  unfold cfV ahd
  rw [Int.toNat_natCast, Int.toNat_natCast]
  exact cmp_lt _ _ _ _
theorem ltCf (fs : List Int) (n : Nat) (x y : Fin (n + 1)) : ltOf (fun x y : Fin (n + 1) => cfV fs x.val y.val) x y = decide (ahd fs x.val y.val) := cfV_lt fs x.val y.val
theorem swoCf (fs : List Int) (n : Nat) : SWO (ltOf fun x y : Fin (n + 1) => cfV fs x.val y.val) where
  irrefl x := by rw [ltCf]; simp [ahd]
  trans x y z h1 h2 := by rw [ltCf] at *; simp [ahd] at *; omega
  ntrans x y z h1 h2 := by rw [ltCf] at *; simp [ahd] at *; omega
abbrev encF (n : Nat) (x : Fin (n + 1)) : Value := .int .i64 (x.val : Int)
theorem fins_of (n : Nat) : ∀ zs : List Int, (∀ z ∈ zs, 0 ≤ z ∧ z < ((n + 1 : Nat) : Int)) → ∃ ds : List (Fin (n + 1)), ds.map (fun x => (x.val : Int)) = zs
  | [], _ => ⟨[], rfl⟩
  | z :: zs, h => by
    obtain ⟨ds, hd⟩ := fins_of n zs (fun y hy => h y (by simp [hy]))
    obtain ⟨h0, h1⟩ := h z (by simp)
    refine ⟨⟨z.toNat, by omega⟩ :: ds, ?_⟩
    rw [List.map_cons, hd]
    congr 1
    show ((z.toNat : Nat) : Int) = z
    omega
theorem enc_cells (n : Nat) (ds : List (Fin (n + 1))) : ints (ds.map fun x => (x.val : Int)) = ds.map (encF n) := by simp [ints]
theorem holds_ints {w : World} {g n : Nat} {cur : Array Value} {ds : List (Fin (n + 1))} (hb : w.heap[g]? = some (.cells cur 3 (0, 0))) (ht : cur.toList.take ds.length = ds.map (encF n)) : Holds (encF n) w g 0 ds.toArray := by
  intro j hj
  have hj' : j < ds.length := by simpa using hj
  refine ⟨?_, by simp [World.frozen?, hb]⟩
  have h1 : (ds.map (encF n))[j]? = some (encF n ds[j]) := by rw [List.getElem?_map, List.getElem?_eq_getElem hj']; rfl
  rw [← ht, List.getElem?_take_of_lt hj'] at h1
  simp only [World.cell?, hb, Nat.zero_add]
  simp only [Option.isSome_none, Bool.false_eq_true, if_false]
  rw [← Array.getElem?_toList, h1]
  simp [hj']
theorem heap_sorted1 {w : World} {g k n : Nat} {os : Array Obj} {cur : Array Value} {e : TypeId} {fr : Nat × Nat} (d : Array (Fin (n + 1))) (hb : w.heap[g]? = some (.cells cur e fr)) :
    (sortWorld (encF n) w g 0 k d os).heap[g]? = some (.cells (putCells (encF n) 0 d cur) e fr) := by
  have hg : g < w.heap.size := (Array.getElem?_eq_some_iff.1 hb).1
  unfold sortWorld
  rw [heap_grow_old _ _ (by simpa [putRow, mapBlock, Sort.ahead] using hg)]
  simp [putRow, mapBlock, Sort.ahead, Array.getElem?_modify, hb, onCells]
theorem grownBy_sorted1 {w : World} {g k n : Nat} {os : Array Obj} (d : Array (Fin (n + 1))) : w.grownBy (sortWorld (encF n) w g 0 k d os) (some g) := by
  unfold sortWorld
  refine ⟨rfl, rfl, rfl, by simp [putRow, mapBlock, Sort.ahead, Sort.grow], fun j hj hne => ?_⟩
  rw [heap_grow_old _ _ (by simpa [putRow, mapBlock, Sort.ahead] using hj)]
  have : g ≠ j := fun e => hne (by rw [e])
  simp [putRow, mapBlock, Sort.ahead, Array.getElem?_modify, this]
theorem take_put1 {n : Nat} (cur : Array Value) (ds : List (Fin (n + 1))) (h : ds.length ≤ cur.size) : (putCells (encF n) 0 ds.toArray cur).toList.take ds.length = ds.map (encF n) := by
  apply List.ext_getElem?
  intro j
  by_cases hj : j < ds.length
  · rw [List.getElem?_take_of_lt hj, Array.getElem?_toList, List.getElem?_map, List.getElem?_eq_getElem hj]
    simp [putCells, hj, show j < cur.size by omega]
  · rw [List.getElem?_take_eq_none (by omega), List.getElem?_eq_none (by simp; omega)]
theorem sort_any (fs : List Int) (n c fb gF B : Nat) (hl : fs.length = n) (v : Value) (zs : List Int) (w : World) (hbox : w.cell? ⟨fb, 0, none⟩ = some (.slice (some ⟨gF, 0, none⟩) n c)) (hfb : fb < B) (hgF : gF < B)
    (hc : ∀ (j : Nat) z, fs[j]? = some z → w.cell? ⟨gF, j, none⟩ = some (.int .i64 z)) (h : w.ownsRow B 3 1 v zs.length (ints zs)) (hB : B ≤ w.heap.size) (hlen : zs.length ≤ 20000) (hzs : ∀ z ∈ zs, 0 ≤ z ∧ z < (n : Int)) :
    Calls Try.prog 62 #[v, .func (.func 63) #[] #[.pointer (some ⟨fb, 0, none⟩)]] w fun e w' => e = .returned (.tuple #[]) ∧ ∃ zs' : List Int, zs'.Perm zs ∧ zs'.Pairwise (fun a b => ¬ ahd fs b a) ∧ w'.ownsRow B 3 1 v zs'.length (ints zs') ∧ Below B w w' := by
  rcases h.2 with ⟨rfl, hn⟩ | ⟨g, cap, cur, rfl, hbg, hg, hnc, hcm, hcs, htake⟩
  · have hl0 : zs = [] := List.eq_nil_of_length_eq_zero hn
    subst hl0
    refine (Try.slices_SortFunc_none (α := Nat) none 0 _ w).mono ?_
    rintro e w' ⟨rfl, rfl⟩
    exact ⟨rfl, [], List.Perm.refl _, List.Pairwise.nil, h, Below.refl _ _⟩
  · by_cases hz0 : zs = []
    · subst hz0
      refine (Try.slices_SortFunc_none (α := Nat) (some ⟨g, 0, none⟩) cap _ w).mono ?_
      rintro e w' ⟨rfl, rfl⟩
      exact ⟨rfl, [], List.Perm.refl _, List.Pairwise.nil, h, Below.refl _ _⟩
    · obtain ⟨m, rfl⟩ : ∃ m, n = m + 1 := by
        cases n with
        | zero =>
          cases zs with
          | nil => exact absurd rfl hz0
          | cons z zs => have := hzs z (by simp); omega
        | succ m => exact ⟨m, rfl⟩
      obtain ⟨ds, hds⟩ := fins_of m zs hzs
      have hdl : ds.length = zs.length := by rw [← hds, List.length_map]
      have eg : ∀ args w, (callFunc 63 args).run Try.prog w = .ok (.enter 63 args) w := enters_of Try.func63 (by kernel_rfl) rfl
      have hlt : g < w.heap.size := (Array.getElem?_eq_some_iff.1 hg).1
      have hcl : CmpLays1 Try.prog 63 #[.pointer (some ⟨fb, 0, none⟩)] (encF m) (fun x y : Fin (m + 1) => cfV fs x.val y.val) g 0 ds.toArray.size w := fun k os dk _ x y => by
        have hk : Below B w (sortWorld (encF m) w g 0 k dk os) := (Below.refl B w).grown (grownBy_sorted1 dk) hB (fun j hj => by injection hj with hj; omega)
        exact closure_any fs (m + 1) c fb gF hl _ ((hk.cell (p := ⟨fb, 0, none⟩) hfb).trans hbox) (by have := hk.size; omega) (by have := hk.size; omega) (fun j z hz => (hk.cell (p := ⟨gF, j, none⟩) hgF).trans (hc j z hz)) x.val y.val x.isLt y.isLt
      have ht : cur.toList.take ds.length = ds.map (encF m) := by
        rw [hdl, ← enc_cells, hds]; simpa using htake
      have hcon := Try.slices_SortFunc (encF m) (fun _ => rfl) (fun x y : Fin (m + 1) => cfV fs x.val y.val) (swoCf fs m) 63 #[.pointer (some ⟨fb, 0, none⟩)] g 0 cap ds.toArray w eg hcl (holds_ints hg ht) hlt (by simp; omega)
      rw [List.size_toArray, hdl] at hcon
      refine hcon.mono ?_
      rintro e w' ⟨rfl, d', k, os, hp, hs, rfl⟩
      have hsz : d'.size = zs.length := by have := hp.1; simpa [hdl] using this
      have hperm : d'.toList.Perm ds := by
        have := hp.2.2
        rw [show d'.extract 0 zs.length = d' by rw [← hsz]; simp, show ds.toArray.extract 0 zs.length = ds.toArray by rw [← hdl]; simp] at this
        simpa using this
      have hl' : (d'.toList.map fun x => (x.val : Int)).length = zs.length := by simpa using hsz
      refine ⟨rfl, d'.toList.map (fun x => (x.val : Int)), by rw [← hds]; exact hperm.map _, ?_, ?_, ?_⟩
      · rw [List.pairwise_map]
        refine List.pairwise_iff_getElem.2 fun i j hi hj hij => ?_
        have := hs i j (Nat.zero_le _) hij (by simpa [hsz] using hj)
        rw [ltCf] at this
        have hi' : i < d'.size := by simpa using hi
        have hj' : j < d'.size := by simpa using hj
        rw [getElem!_pos d' j hj', getElem!_pos d' i hi'] at this
        simpa using this
      · rw [hl']
        refine ⟨by simp [ints, hsz], .inr ⟨g, cap, _, rfl, hbg, heap_sorted1 _ hg, hnc, hcm, by simp [putCells, hcs], ?_⟩⟩
        have := take_put1 cur d'.toList (by have : d'.toList.length = zs.length := by simpa using hsz
                                            omega)
        rw [show d'.toList.length = zs.length by simpa using hsz] at this
        rw [enc_cells]
        simpa using this
      · exact (Below.refl B w).grown (grownBy_sorted1 _) hB (fun j hj => by injection hj with hj; omega)
end Go.Proofs.Ytceeimolfalmpaa
