/-
  What New and Clone answer and leave, for every size, for every chunk, and for none.
-/
import Derived.Test.YtdpjcbljeklhmaaDoorW7
import Derived.Laws.MakeOwn
namespace Go.Proofs.YtdpjcbljeklhmaaDoor
open Go.RowKit ObGap

set_option maxHeartbeats 400000 in
theorem new_not (n : Int) (w : World) (h : n < 4 ∨ 4096 < n) : Calls Tryd.prog 69 #[.int .i64 n] w fun e w' => e = .returned (.tuple #[.pointer none, .int .i64 3]) ∧ Below w.heap.size w w' := by
  by_cases h1 : n < 4
  · have d1 : decide (n < 4) = true := by simp [h1]
    clear h
    go_enter Tryd.func69, Tryd.ntmps69
    go_wp2_with fail
    go_ret2
    exact ⟨rfl, Below.refl _ _⟩
  · have d1 : decide (n < 4) = false := by simpa using h1
    have d2 : decide (4096 < n) = true := by simp; omega
    clear h h1
    go_enter Tryd.func69, Tryd.ntmps69
    go_wp2_with fail
    go_ret2
    exact ⟨rfl, Below.refl _ _⟩
theorem info5z : (Tryd.prog.info? 5).map (fun i => (i.zero, i.size, i.bytes)) = some (some (.int .u8 0), 1, 1) := by kernel_rfl
theorem made_bytes (n : Nat) : madeCells (Value.int .u8 0).cells n = (Lib.byteCells (List.replicate n 0)).toArray := by
  apply Array.ext
  · simp [madeCells, Lib.byteCells]
  · intro j h1 h2
    simp [madeCells, Lib.byteCells, Value.cells, Nat.mod_one]
theorem make_room (n : Nat) (w : World) (h5 : n ≤ 4096) : (Instr.makeSlice 72 (.int .i64 (n : Int)) (.int .i64 (n : Int))).run Tryd.prog w = .ok (.slice (some ⟨w.heap.size, 0, none⟩) n n) (w.alloc (.cells (Lib.byteCells (List.replicate n 0)).toArray 5)) := by
  have hi := info5z
  cases hq : Tryd.prog.info? 5 with
  | none => rw [hq] at hi; cases hi
  | some i =>
    rw [hq] at hi
    simp only [Option.map_some, Option.some.injEq, Prod.mk.injEq] at hi
    have := run_make (P := Tryd.prog) w 72 5 i (.int .u8 0) Tryd.underlying72 hq hi.1 .i64 .i64 n n (by omega) (by omega) (by rw [hi.2.2]; omega) (by omega)
    rw [this, hi.2.1, Nat.mul_one, Int.toNat_natCast, made_bytes]
theorem heap_new (w : World) (o : Obj) : (w.alloc o).heap[w.heap.size]? = some o := by
  show (w.heap.push o)[w.heap.size]? = _
  simp
/-- A chunk as it is made: its room first, then its block. -/
theorem made_chk (w : World) (n : Nat) (h4 : 4 ≤ n) (h5 : n ≤ 4096) :
    Chk ((w.alloc (.cells (Lib.byteCells (List.replicate n 0)).toArray 5)).alloc (.cells #[.slice (some ⟨w.heap.size, 0, none⟩) n n, .int .i64 0, .int .i64 (n : Int)] 90)) (w.heap.size + 1) w.heap.size n [] 0 := by
  refine ⟨List.replicate n 0, n, n, ⟨?_, ⟨[], ?_, by simp⟩, by omega, by omega, by simp, by simpa using h4, by simpa using h5⟩, by simp, by simp⟩
  · have := heap_new (w.alloc (.cells (Lib.byteCells (List.replicate n 0)).toArray 5)) (.cells #[.slice (some ⟨w.heap.size, 0, none⟩) n n, .int .i64 0, .int .i64 (n : Int)] 90)
    simpa using this
  · rw [Below.heap_alloc _ _ _ (by simp), heap_new, List.append_nil]
set_option maxHeartbeats 400000 in
theorem new_chk (n : Nat) (w : World) (h4 : 4 ≤ n) (h5 : n ≤ 4096) : Calls Tryd.prog 69 #[.int .i64 (n : Int)] w fun e w' => e = .returned (.tuple #[ptr (w.heap.size + 1), .int .i64 0]) ∧ Chk w' (w.heap.size + 1) w.heap.size n [] 0 ∧ Below w.heap.size w w' := by
  have d1 : decide ((n : Int) < 4) = false := by simp; omega
  have d2 : decide (4096 < (n : Int)) = false := by simp; omega
  have hmk := make_room n w h5
  have H := Lib.hid (made_chk w n h4 h5)
  clear h4 h5
  go_enter Tryd.func69, Tryd.ntmps69
  go_wp2_with fail
  go_ret2
  exact ⟨rfl, H.out, ((Below.refl _ _).alloc (Nat.le_refl _) _).alloc (by simp) _⟩

/-- A new room that holds those bytes. -/
def Room (w : World) (B : Nat) (L : Bs) (g K : Nat) : Prop := B ≤ g ∧ ∃ Z : List Value, w.heap[g]? = some (.cells (Lib.byteCells L ++ Z).toArray 5 (0, 0)) ∧ K = L.length + Z.length
theorem room_of {w : World} {B : Nat} {L : Bs} {v : Value} (h : w.ownsRow B 5 1 v L.length (Lib.byteCells L)) (h0 : 0 < L.length) : ∃ g K, v = .slice (some ⟨g, 0, none⟩) L.length K ∧ Room w B L g K := by
  rcases h.2 with ⟨_, e⟩ | ⟨g, cap, cur, hv, hbg, hg, hnc, hcm, hcs, htake⟩
  · omega
  · refine ⟨g, cap, hv, hbg, cur.toList.drop (L.length * 1), ?_, ?_⟩
    · rw [hg, ← htake, List.take_append_drop]
    · simp; omega
theorem nil_not (w : World) (a : Addr) (n c : Nat) : (binOp .eql 72 (.slice (some a) n c) (.slice none 0 0)).run Tryd.prog w = .ok (.bool false) w := Lib.run_eql_slice_nil (P := Tryd.prog) w 72 5 (some a) n c 0 0 Tryd.underlying72
theorem made_clone {w : World} {B c g : Nat} {L : Bs} {K p r : Nat} (h : Ck w c g L K p r) {w' : World} {g2 K2 : Nat} (hR : Room w' B L g2 K2) (s : Bs) (mx : Nat) (e1 : L.length = mx) (e2 : s = L.take p ++ L.drop r) :
    Chk (w'.alloc (.cells #[.slice (some ⟨g2, 0, none⟩) L.length K2, .int .i64 (p : Int), .int .i64 (r : Int)] 90)) w'.heap.size g2 mx s p := by
  obtain ⟨_, _, _, h1, h2, h3, h4⟩ := h
  obtain ⟨hB, Z, z1, z2⟩ := hR
  have hlt := lt_of_heap z1
  refine ⟨L, K2, r, ⟨heap_new _ _, ⟨Z, ?_, z2⟩, by omega, h1, h2, h3, h4⟩, e1, e2⟩
  rw [Below.heap_alloc _ _ _ hlt]; exact z1
end Go.Proofs.YtdpjcbljeklhmaaDoor
