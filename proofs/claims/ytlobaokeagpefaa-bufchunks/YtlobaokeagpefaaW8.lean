/-
  What New and Clone answer and leave, for every size, for every chunk, and for none.
-/
import Derived.Test.YtlobaokeagpefaaW7
import Derived.Laws.MakeOwn
namespace Go.Proofs.Ytlobaokeagpefaa
open Go.RowKit ObGap

set_option maxHeartbeats 400000 in
theorem new_not (n : Int) (w : World) (h : n < 4 ∨ 4096 < n) : Calls Try.prog 63 #[.int .i64 n] w fun e w' => e = .returned (.tuple #[.pointer none, .int .i64 3]) ∧ Below w.heap.size w w' := by
  by_cases h1 : n < 4
  · have d1 : decide (n < 4) = true := by simp [h1]
    clear h
    go_enter Try.func63, Try.ntmps63
    go_wp2_with fail
    go_ret2
    exact ⟨rfl, Below.refl _ _⟩
  · have d1 : decide (n < 4) = false := by simpa using h1
    have d2 : decide (4096 < n) = true := by simp; omega
    clear h h1
    go_enter Try.func63, Try.ntmps63
    go_wp2_with fail
    go_ret2
    exact ⟨rfl, Below.refl _ _⟩
theorem info5z : (Try.prog.info? 5).map (fun i => (i.zero, i.size, i.bytes)) = some (some (.int .u8 0), 1, 1) := by kernel_rfl
theorem made_bytes (n : Nat) : madeCells (Value.int .u8 0).cells n = (Lib.byteCells (List.replicate n 0)).toArray := by
  apply Array.ext
  · simp [madeCells, Lib.byteCells]
  · intro j h1 h2
    simp [madeCells, Lib.byteCells, Value.cells, Nat.mod_one]
theorem make_room (n : Nat) (w : World) (h5 : n ≤ 4096) : (Instr.makeSlice 56 (.int .i64 (n : Int)) (.int .i64 (n : Int))).run Try.prog w = .ok (.slice (some ⟨w.heap.size, 0, none⟩) n n) (w.alloc (.cells (Lib.byteCells (List.replicate n 0)).toArray 5)) := by
  have hi := info5z
  cases hq : Try.prog.info? 5 with
  | none => rw [hq] at hi; cases hi
  | some i =>
    rw [hq] at hi
    simp only [Option.map_some, Option.some.injEq, Prod.mk.injEq] at hi
    have := run_make (P := Try.prog) w 56 5 i (.int .u8 0) Try.underlying56 hq hi.1 .i64 .i64 n n (by omega) (by omega) (by rw [hi.2.2]; omega) (by omega)
    rw [this, hi.2.1, Nat.mul_one, Int.toNat_natCast, made_bytes]
theorem heap_new (w : World) (o : Obj) : (w.alloc o).heap[w.heap.size]? = some o := by
  show (w.heap.push o)[w.heap.size]? = _
  simp
/-- A chunk as it is made: its room first, then its block. -/
theorem made_chk (w : World) (n : Nat) (h4 : 4 ≤ n) (h5 : n ≤ 4096) :
    Chk ((w.alloc (.cells (Lib.byteCells (List.replicate n 0)).toArray 5)).alloc (.cells #[.slice (some ⟨w.heap.size, 0, none⟩) n n, .int .i64 0, .int .i64 (n : Int)] 81)) (w.heap.size + 1) w.heap.size n [] 0 := by
  refine ⟨List.replicate n 0, n, n, ⟨?_, ⟨[], ?_, by simp⟩, by omega, by omega, by simp, by simpa using h4, by simpa using h5⟩, by simp, by simp⟩
  · have := heap_new (w.alloc (.cells (Lib.byteCells (List.replicate n 0)).toArray 5)) (.cells #[.slice (some ⟨w.heap.size, 0, none⟩) n n, .int .i64 0, .int .i64 (n : Int)] 81)
    simpa using this
  · rw [Below.heap_alloc _ _ _ (by simp), heap_new, List.append_nil]
set_option maxHeartbeats 400000 in
theorem new_chk (n : Nat) (w : World) (h4 : 4 ≤ n) (h5 : n ≤ 4096) : Calls Try.prog 63 #[.int .i64 (n : Int)] w fun e w' => e = .returned (.tuple #[ptr (w.heap.size + 1), .int .i64 0]) ∧ Chk w' (w.heap.size + 1) w.heap.size n [] 0 ∧ Below w.heap.size w w' := by
  have d1 : decide ((n : Int) < 4) = false := by simp; omega
  have d2 : decide (4096 < (n : Int)) = false := by simp; omega
  have hmk := make_room n w h5
  have H := Lib.hid (made_chk w n h4 h5)
  clear h4 h5
  go_enter Try.func63, Try.ntmps63
  go_wp2_with fail
  go_ret2
  exact ⟨rfl, H.out, ((Below.refl _ _).alloc (Nat.le_refl _) _).alloc (by simp) _⟩

/-- A new room that holds those bytes. -/
def Room (w : World) (B : Nat) (L : Bs) (g K : Nat) : Prop := B ≤ g ∧ ∃ Z : List Value, w.heap[g]? = some (.cells (Lib.byteCells L ++ Z).toArray 5 (0, 0)) ∧ K = L.length + Z.length
theorem room_of {w : World} {B : Nat} {L : Bs} {v : Value} (h : w.ownsRow B 5 1 v L.length (Lib.byteCells L)) (h0 : 0 < L.length) : ∃ g K, v = .slice (some ⟨g, 0, none⟩) L.length K ∧ Room w B L g K := by
  rcases h.2 with ⟨_, e⟩ | ⟨g, cap, cur, hv, hbg, hg, hnc, hcm, hcs, htake⟩
  · omega
  · refine ⟨g, cap, hv, hbg, cur.toList.drop (L.length * 1), ?_, ?_⟩
    · rw [hg, ← htake, List.take_append_drop]
    · simp; omega
theorem nil_not (w : World) (a : Addr) (n c : Nat) : (binOp .eql 56 (.slice (some a) n c) (.slice none 0 0)).run Try.prog w = .ok (.bool false) w := Lib.run_eql_slice_nil (P := Try.prog) w 56 5 (some a) n c 0 0 Try.underlying56
set_option maxHeartbeats 400000 in
theorem sclone {w : World} {c g : Nat} {L : Bs} {K p r : Nat} (h : Ck w c g L K p r) :
    Calls Try.prog 55 #[.slice (some ⟨g, 0, none⟩) L.length K] w fun e w' => (∃ g2 K2, e = .returned (.slice (some ⟨g2, 0, none⟩) L.length K2) ∧ Room w' w.heap.size L g2 K2) ∧ Below w.heap.size w w' := by
  have HK := Lib.hid h
  have hnn := nil_not w ⟨g, 0, none⟩ L.length K
  have hi := info5z
  obtain ⟨_, _, _, h1, h2, h3, h4⟩ := h
  cases hq : Try.prog.info? 5 with
  | none => rw [hq] at hi; cases hi
  | some i0 =>
  rw [hq] at hi
  simp only [Option.map_some, Option.some.injEq, Prod.mk.injEq] at hi
  obtain ⟨hz0, hz1, hz2⟩ := hi
  have HC := Lib.hid (show ∀ j u, (Lib.byteCells L)[j]? = some u → (w.alloc (.cells #[] 5)).cell? ((⟨g, 0, none⟩ : Addr).add j) = some u from fun j u hj => by
    have hb := (HK.out.on ((Below.refl _ w).alloc (Nat.le_refl _) (.cells #[] 5))).part 0 L.length j u
    rw [List.drop_zero, List.take_length] at hb
    exact hb hj)
  have HO := Lib.hid (World.ownsRow_made (base := w.heap.size) (e := 5) (size := 1) w #[] 0 (Nat.le_refl _) (by simp) (by simp))
  have HL := Lib.hid (show 0 + L.length ≤ maxLen ∧ (0 + L.length) * 1 ≤ 140737488355328 by unfold maxLen; omega)
  have HP := Lib.hid (show 0 < L.length by omega)
  clear h1 h2 h3 h4
  go_enter Try.func55, Try.ntmps55
  go_wp2_with (at_builtin; refine wpList_append_own _ rfl _ _ 56 rfl w.heap.size 5 i0 (.int .u8 0) 1 1 Try.underlying56 hq hz0 hz1 hz2 rfl (by omega) _ 0 [] rfl HO.out ⟨g, 0, none⟩ L.length K (Lib.byteCells L) rfl (by rw [Lib.byteCells_length, Nat.mul_one]) HC.out (Lib.byteCells_one _) HL.out.1 HL.out.2 (by simp) ?_)
  intro v' w6 hown' hgrow _
  have hb : Below w.heap.size w w6 := ((Below.refl _ w).alloc (Nat.le_refl _) (.cells #[] 5)).grown hgrow (by simp) (fun k hk => by
    simp only [Value.ownBlock, Option.some.injEq] at hk; omega)
  obtain ⟨g2, K2, rfl, hR⟩ := room_of hown' HP.out
  clear hown' hgrow
  have HR := Lib.hid hR
  have HB := Lib.hid hb
  clear hR hb
  go_wp2_with fail
  go_ret
  exact ⟨⟨g2, K2, rfl, HR.out⟩, HB.out⟩

set_option maxHeartbeats 400000 in
theorem clone_nil (w : World) : Calls Try.prog 40 #[.pointer none] w fun e w' => e = .returned (.pointer none) ∧ Below w.heap.size w w' := by
  go_enter Try.func40, Try.ntmps40
  go_wp2_with fail
  go_ret
  exact ⟨rfl, Below.refl _ _⟩
theorem made_clone {w : World} {B c g : Nat} {L : Bs} {K p r : Nat} (h : Ck w c g L K p r) {w' : World} {g2 K2 : Nat} (hR : Room w' B L g2 K2) (s : Bs) (mx : Nat) (e1 : L.length = mx) (e2 : s = L.take p ++ L.drop r) :
    Chk (w'.alloc (.cells #[.slice (some ⟨g2, 0, none⟩) L.length K2, .int .i64 (p : Int), .int .i64 (r : Int)] 81)) w'.heap.size g2 mx s p := by
  obtain ⟨_, _, _, h1, h2, h3, h4⟩ := h
  obtain ⟨hB, Z, z1, z2⟩ := hR
  have hlt := lt_of_heap z1
  refine ⟨L, K2, r, ⟨heap_new _ _, ⟨Z, ?_, z2⟩, by omega, h1, h2, h3, h4⟩, e1, e2⟩
  rw [Below.heap_alloc _ _ _ hlt]; exact z1
set_option maxHeartbeats 1000000 in
theorem clone_chk {w : World} {c g mx : Nat} {s : Bs} {p : Nat} (h : Chk w c g mx s p) :
    Calls Try.prog 40 #[ptr c] w fun e w' => (∃ d g2, e = .returned (ptr d) ∧ Chk w' d g2 mx s p ∧ w.heap.size ≤ d ∧ w.heap.size ≤ g2) ∧ Below w.heap.size w w' := by
  obtain ⟨L, K, r, hk, hmx, hs⟩ := h
  have HX := Lib.hid hmx
  have HS := Lib.hid hs
  have HK := Lib.hid hk
  have HC := Lib.hid (sclone hk.drew)
  clear hk hmx hs
  go_enter Try.func40, Try.ntmps40
  go_wp2_with fail
  go_region_held3 (fun W => W.cell? ⟨c, 0, none⟩ = some (.slice (some ⟨g, 0, none⟩) L.length K) ∧ W.cell? ⟨c, 1, none⟩ = some (.int .i64 p) ∧ W.cell? ⟨c, 2, none⟩ = some (.int .i64 r)) (first | exact keepS HK.out rfl | exact keepS HK.out.drew (hb3.block _ HK.out.lt.1) | exact keepS (HK.out.drew.on hb3) (Below.heap_alloc _ _ _ (HK.out.drew.on hb3).lt.1)) (first
    | (go_at_call 55; refine HC.out.mono ?_; rintro e w3 ⟨⟨g2, K2, rfl, hR⟩, hb3⟩))
  all_goals (
    go_wp2_with fail
    go_ret
    exact ⟨⟨_, g2, rfl, made_clone (HK.out) hR s mx HX.out HS.out, hb3.size, hR.1⟩, (undrew hb3).alloc hb3.size _⟩)
end Go.Proofs.Ytlobaokeagpefaa
