/-
  What Sizes of a buffer answers: how many bytes each chunk has.
-/
import Derived.Test.YtlobaokeagpefaaB13
namespace Go.Proofs.Ytlobaokeagpefaa
open Go.RowKit ObGap

theorem made_list (z : Value) (hz : z.cells = #[z]) (n : Nat) : madeCells z.cells n = Array.replicate n z := by
  rw [hz]
  apply Array.ext'
  simp [madeCells]
  apply List.ext_getElem
  · simp
  · intro i h1 h2
    simp [Nat.mod_one]
theorem make46 (n : Nat) (w : World) (h : n ≤ 2097152) : (Instr.makeSlice 46 (.int .i64 (n : Int)) (.int .i64 (n : Int))).run Try.prog w = .ok (.slice (some ⟨w.heap.size, 0, none⟩) n n) (w.alloc (.cells (Array.replicate n (.int .i64 0)) 3)) := by
  obtain ⟨x, hx, x1, x2, x3⟩ := info3x
  have := run_make (P := Try.prog) w 46 3 x (.int .i64 0) Try.underlying46 hx x1 .i64 .i64 n n (by omega) (by omega) (by rw [x3]; omega) (by omega)
  rw [this, x2, Nat.mul_one, Int.toNat_natCast, made_list _ rfl]
theorem make58 (n : Nat) (w : World) (h : n ≤ 2097152) : (Instr.makeSlice 58 (.int .i64 (n : Int)) (.int .i64 (n : Int))).run Try.prog w = .ok (.slice (some ⟨w.heap.size, 0, none⟩) n n) (w.alloc (.cells (Array.replicate n (.pointer none)) 63)) := by
  obtain ⟨x, hx, x1, x2, x3⟩ := info63x
  have := run_make (P := Try.prog) w 58 63 x (.pointer none) Try.underlying58 hx x1 .i64 .i64 n n (by omega) (by omega) (by rw [x3]; omega) (by omega)
  rw [this, x2, Nat.mul_one, Int.toNat_natCast, made_list _ rfl]
/-- A row that is filled from its head on. -/
def Fil (w : World) (g : Nat) (t : TypeId) (n j : Nat) (xs : List Value) : Prop := ∃ L : List Value, w.heap[g]? = some (.cells L.toArray t (0, 0)) ∧ L.length = n ∧ L.take j = xs.take j
theorem Fil.set {w : World} {g : Nat} {t : TypeId} {n j : Nat} {xs : List Value} (h : Fil w g t n j xs) (hj : j < n) {v : Value} (hv : xs[j]? = some v) : Fil (w.setCell ⟨g, j, none⟩ v) g t n (j + 1) xs := by
  obtain ⟨L, h1, h2, h3⟩ := h
  refine ⟨L.set j v, by have := heap_set j v h1; simpa using this, by simpa using h2, ?_⟩
  have hx : j < xs.length := (List.getElem?_eq_some_iff.1 hv).1
  rw [List.take_succ_eq_append_getElem (by rw [List.length_set]; omega), List.take_succ_eq_append_getElem hx, List.take_set_of_le (Nat.le_refl _), h3]
  congr 1
  rw [List.getElem?_eq_getElem hx] at hv
  injection hv with hv
  simp [hv]
theorem Fil.on {w w' : World} {g : Nat} {t : TypeId} {n j : Nat} {xs : List Value} (h : Fil w g t n j xs) (hb : Below w.heap.size w w') : Fil w' g t n j xs := by
  obtain ⟨L, h1, h2, h3⟩ := h
  exact ⟨L, (hb.block _ (lt_of_heap h1)).trans h1, h2, h3⟩
theorem Fil.own {w : World} {g : Nat} {t : TypeId} {n : Nat} {xs : List Value} (h : Fil w g t n n xs) (hx : xs.length = n) (hm : n ≤ 2097152) {B : Nat} (hB : B ≤ g) : w.ownsRow B t 1 (.slice (some ⟨g, 0, none⟩) n n) n xs := by
  obtain ⟨L, h1, h2, h3⟩ := h
  refine ⟨by omega, .inr ⟨g, n, _, rfl, hB, h1, Nat.le_refl _, by simp only [maxLen]; omega, by simpa using h2, ?_⟩⟩
  rw [Nat.mul_one, h3, List.take_of_length_le (by omega)]
theorem Fil.new (w : World) (t : TypeId) (n : Nat) (z : Value) (xs : List Value) : Fil (w.alloc (.cells (Array.replicate n z) t)) w.heap.size t n 0 xs := ⟨List.replicate n z, by rw [heap_new]; simp, by simp, by simp⟩
theorem Fil.cell {w : World} {g : Nat} {t : TypeId} {n j : Nat} {xs : List Value} (h : Fil w g t n j xs) (i : Nat) (hi : i < n) : (∃ v, w.cell? ⟨g, i, none⟩ = some v) ∧ w.frozen? ⟨g, i, none⟩ = false ∧ g < w.heap.size := by
  obtain ⟨L, h1, h2, h3⟩ := h
  exact ⟨⟨L[i], by rw [row_cell h1, List.getElem?_eq_getElem (by omega)]⟩, row_frozen h1 i, lt_of_heap h1⟩
/-- What Sizes answers. -/
def Siz (mx : Nat) (s : Bs) (w : World) (e : Ending) (w' : World) : Prop :=
  ∃ g T, e = .returned (.slice (some ⟨g, 0, none⟩) T.length T.length) ∧ w.heap.size ≤ g ∧ w'.ownsRow w.heap.size 3 1 (.slice (some ⟨g, 0, none⟩) T.length T.length) T.length (nums (T.map List.length)) ∧ Snd mx T ∧ T.flatten = s ∧ T.length ≤ 2097152 ∧ Below w.heap.size w w'
section
variable {w : World} {F : Nat → Prop} {b mx : Nat} {s : Bs} {p : Nat}
set_option maxHeartbeats 2000000 in
theorem bsizes_bu (h : Bu w F b mx s p) : Calls Try.prog 22 #[ptr b] w (Siz mx s w) := by
  obtain ⟨V, qs, U, hX, hC, hF, hs, hsnd, hsl, hp⟩ := h
  have HX := Lib.hid hX
  have HC := Lib.hid hC
  have hcl : qs.length ≤ 2097152 := by simpa using hX.cl
  obtain ⟨c0, c1, c2, c3, _⟩ := hX.cells
  obtain ⟨Av, cv, rfl, k1, k2, k3, k4⟩ := own_see hX.row
  have hlb := hX.lt
  have HK4 := Lib.hid k4
  have HSN := Lib.hid (And.intro hs hsnd)
  rw [List.length_map] at *
  have hmk := fun W => make46 qs.length W hcl
  have HXA := Lib.hid (fun o => HX.out.on ((Below.refl _ w).alloc (Nat.le_refl _) o))
  have c1a := fun o => (HXA.out o).cells.2.1
  clear hX hC hs hsnd k3 k4
  go_enter Try.func22, Try.ntmps22
  go_wp2_with fail
  have HB0 := Lib.hid (show Below w.heap.size w (w.alloc (.cells (Array.replicate qs.length (.int .i64 0)) 3)) from (Below.refl _ w).alloc (Nat.le_refl _) _)
  have HF0 := Lib.hid (Fil.new w 3 qs.length (.int .i64 0) (nums ((txs qs).map List.length)))
  generalize w.alloc (.cells (Array.replicate qs.length (.int .i64 0)) 3) = w0 at *
  go_loopw [19] (fun s19 wr => ∃ j : Nat, s19 = .int .i64 (j : Int) ∧ j ≤ qs.length ∧ Fil wr w.heap.size 3 qs.length j (nums ((txs qs).map List.length)) ∧ Below w.heap.size w wr) (fun s19 _ => qs.length - (intOf s19).toNat)
  case atStart => exact ⟨0, rfl, Nat.zero_le _, HF0.out, HB0.out⟩
  case round =>
    obtain ⟨j, rfl, hj, hf, hb⟩ := hrel
    have HFI := Lib.hid hf
    have HB := Lib.hid hb
    by_cases hjn : j < qs.length
    · have d1 : decide (j < qs.length) = true := decide_eq_true hjn
      have i1 : (j : Int) < (qs.length : Int) := by omega
      obtain ⟨r, rfl, k5, k6⟩ : ∃ r, Av = some ⟨r, 0, none⟩ ∧ r < w.heap.size ∧ ∀ i x, (ptrs (qs.map Q.c))[i]? = some x → w.cell? ⟨r, i, none⟩ = some x := by
        rcases HK4.out with ⟨_, _, k5⟩ | ⟨r, e, _, k5, _, k6⟩
        · simp at k5; omega
        · exact ⟨r, e, k5, k6⟩
      have m3 : wr.cell? ⟨r, j, none⟩ = some (ptr qs[j].c) := (hb.cell k5).trans (k6 j (ptr qs[j].c) (by simp [hjn]))
      obtain ⟨_, _, q0, hk⟩ := (HC.out.on hb).1 qs[j] (List.getElem_mem hjn)
      have HV := Lib.hid (show (nums ((txs qs).map List.length))[j]? = some (.int .i64 (qs[j].s.length : Int)) by simp [hjn])
      generalize qs[j] = x at *
      obtain ⟨xc, xg, xs⟩ := x
      simp only at *
      have HL := Lib.hid (len_chk hk)
      clear hk k6 hf hb
      go_wp2_with fail
      refine HL.out.mono ?_
      rintro e w2 ⟨rfl, hb2⟩
      have HF2 := Lib.hid (HFI.out.on hb2)
      have HB2 := Lib.hid (bel_trans HB.out hb2)
      obtain ⟨⟨v0, q1⟩, q2, q3⟩ := HF2.out.cell j hjn
      clear hb2
      go_wp2_with fail
      go_roundw
      case rel => exact ⟨j + 1, by go_num, by omega, HF2.out.set hjn HV.out, HB2.out.setCell (p := ⟨w.heap.size, j, none⟩) (Nat.le_refl _) _⟩
      case measure => simp [intOf]; omega
    · obtain rfl : j = qs.length := by omega
      have d1 : decide (qs.length < qs.length) = false := decide_eq_false (by omega)
      clear hf hb
      go_wp2_with fail
      go_ret
      have ho := HFI.out.own (by simp) hcl (Nat.le_refl w.heap.size)
      refine ⟨w.heap.size, txs qs, by simp, Nat.le_refl _, by simpa using ho, HSN.out.2, HSN.out.1, by simpa using hcl, HB.out⟩
end
end Go.Proofs.Ytlobaokeagpefaa
