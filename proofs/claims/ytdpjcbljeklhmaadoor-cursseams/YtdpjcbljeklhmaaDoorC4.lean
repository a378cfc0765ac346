/-
  What Seek of a cursor and New answer and leave: of a buffer at any place, of no buffer, of no cursor. Conditions: those of the buffer's invariant; the two tables of unicode/utf8 lie as their text lays them.
-/
import Derived.Test.YtdpjcbljeklhmaaDoorC3
namespace Go.Proofs.YtdpjcbljeklhmaaDoor
open Go.RowKit ObGap ObUtf

section
variable {w : World} {F : Nat → Prop} {b mx : Nat} {s : Bs} {p c at' n : Nat}
set_option maxHeartbeats 1000000 in
set_option maxRecDepth 100000 in
theorem seek_ok (hB : Bu w F b mx s p) (hC : Cu w c b at' n) (hT : U.Tb w) (k : Nat) (hk : U.isBI (ba s) (k : Int) = true) :
    Calls Tryd.prog 15 #[ptr c, .int .i64 (k : Int)] w fun e w' => e = .returned (.int .i64 0) ∧ Cu w' c b k n ∧ Ex c c w w' := by
  have HI := is_bu hB hT (k : Int)
  rw [hk] at HI
  have HI := Lib.hid HI
  have HX := Lib.hid (fun W (hb : Below w.heap.size w W) => hC.on hb)
  obtain ⟨c0, c1, c2, c3⟩ := hC.cells
  clear hB hT hk hC c3
  go_enter Tryd.func15, Tryd.ntmps15
  go_wp2_with fail
  refine HI.out.mono ?_
  rintro e w1 ⟨rfl, hb1⟩
  have HC1 := Lib.hid (HX.out _ hb1)
  have f1 := HC1.out.cells.2.2.2 1
  have g1 := HC1.out.cells.2.1
  go_wp2_with fail
  go_ret
  exact ⟨rfl, HC1.out.put k, (Ex.of hb1).setL 1 _⟩
set_option maxHeartbeats 1000000 in
set_option maxRecDepth 100000 in
theorem seek_no (hB : Bu w F b mx s p) (hC : Cu w c b at' n) (hT : U.Tb w) (i : Int) (hk : U.isBI (ba s) i = false) :
    Calls Tryd.prog 15 #[ptr c, .int .i64 i] w fun e w' => e = .returned (.int .i64 2) ∧ Below w.heap.size w w' := by
  have HI := is_bu hB hT i
  rw [hk] at HI
  have HI := Lib.hid HI
  obtain ⟨c0, c1, c2, c3⟩ := hC.cells
  clear hB hT hk hC c3
  go_enter Tryd.func15, Tryd.ntmps15
  go_wp2_with fail
  refine HI.out.mono ?_
  rintro e w1 ⟨rfl, hb1⟩
  go_wp2_with fail
  go_ret
  exact ⟨rfl, hb1⟩
set_option maxHeartbeats 400000 in
theorem seek_nil (i : Int) (w : World) : Calls Tryd.prog 15 #[.pointer none, .int .i64 i] w fun e w' => e = .returned (.int .i64 1) ∧ w = w' := by
  go_enter Tryd.func15, Tryd.ntmps15
  go_wp2_with fail
  go_ret
  exact ⟨rfl, rfl⟩
set_option maxHeartbeats 400000 in
theorem seek_bare (i : Int) (w : World) (c : Nat) (h0 : w.cell? ⟨c, 0, none⟩ = some (.pointer none)) : Calls Tryd.prog 15 #[ptr c, .int .i64 i] w fun e w' => e = .returned (.int .i64 1) ∧ w = w' := by
  go_enter Tryd.func15, Tryd.ntmps15
  go_wp2_with fail
  go_ret
  exact ⟨rfl, rfl⟩
theorem cu_new (w : World) (b : Nat) : Cu (w.alloc (.cells #[ptr b, .int .i64 0, .int .i64 0] 59)) w.heap.size b 0 0 := heap_new _ _
set_option maxHeartbeats 1000000 in
set_option maxRecDepth 100000 in
theorem new_ok (hB : Bu w F b mx s p) (hT : U.Tb w) (k : Nat) (hk : U.isBI (ba s) (k : Int) = true) :
    Calls Tryd.prog 12 #[ptr b, .int .i64 (k : Int)] w fun e w' => e = .returned (.tuple #[ptr w.heap.size, .int .i64 0]) ∧ Cu w' w.heap.size b k 0 ∧ Below w.heap.size w w' := by
  have hb := (Below.refl w.heap.size w).alloc (Nat.le_refl _) (.cells #[ptr b, .int .i64 0, .int .i64 0] 59)
  have HS := Lib.hid (seek_ok (hB.on hb) (cu_new w b) (hT.below hb) k hk)
  have HB := Lib.hid hb
  clear hb hB hT hk
  go_enter Tryd.func12, Tryd.ntmps12
  go_wp2_with fail
  refine HS.out.mono ?_
  rintro e w1 ⟨rfl, hc1, hx1⟩
  go_wp2_with fail
  go_ret2
  exact ⟨rfl, hc1, HB.out.trans (hx1.below HB.out.size (Nat.le_refl _) (Nat.le_refl _))⟩
set_option maxHeartbeats 1000000 in
set_option maxRecDepth 100000 in
theorem new_no (hB : Bu w F b mx s p) (hT : U.Tb w) (i : Int) (hk : U.isBI (ba s) i = false) :
    Calls Tryd.prog 12 #[ptr b, .int .i64 i] w fun e w' => e = .returned (.tuple #[.pointer none, .int .i64 2]) ∧ Below w.heap.size w w' := by
  have hb := (Below.refl w.heap.size w).alloc (Nat.le_refl _) (.cells #[ptr b, .int .i64 0, .int .i64 0] 59)
  have HS := Lib.hid (seek_no (hB.on hb) (cu_new w b) (hT.below hb) i hk)
  have HB := Lib.hid hb
  clear hb hB hT hk
  go_enter Tryd.func12, Tryd.ntmps12
  go_wp2_with fail
  refine HS.out.mono ?_
  rintro e w1 ⟨rfl, hb1⟩
  go_wp2_with fail
  go_ret2
  exact ⟨rfl, bel_trans HB.out hb1⟩
end
set_option maxHeartbeats 1000000 in
set_option maxRecDepth 100000 in
theorem new_nil (i : Int) (w : World) : Calls Tryd.prog 12 #[.pointer none, .int .i64 i] w fun e w' => e = .returned (.tuple #[.pointer none, .int .i64 1]) ∧ Below w.heap.size w w' := by
  have HB := Lib.hid ((Below.refl w.heap.size w).alloc (Nat.le_refl _) (.cells #[.pointer none, .int .i64 0, .int .i64 0] 59))
  have HS := Lib.hid (seek_bare i (w.alloc (.cells #[.pointer none, .int .i64 0, .int .i64 0] 59)) w.heap.size (by have h := heap_new w (.cells #[.pointer none, .int .i64 0, .int .i64 0] 59); simp only [World.cell?, h]; rfl))
  go_enter Tryd.func12, Tryd.ntmps12
  go_wp2_with fail
  refine HS.out.mono ?_
  rintro e w1 ⟨rfl, rfl⟩
  go_wp2_with fail
  go_ret2
  exact ⟨rfl, HB.out⟩
set_option maxHeartbeats 400000 in
theorem next_nil (w : World) : Calls Tryd.prog 16 #[.pointer none] w fun e w' => e = .returned (.tuple #[.int .i64 0, .bool false]) ∧ w = w' := by
  go_enter Tryd.func16, Tryd.ntmps16
  go_wp2_with fail
  go_ret2
  exact ⟨rfl, rfl⟩
set_option maxHeartbeats 400000 in
theorem prev_nil (w : World) : Calls Tryd.prog 18 #[.pointer none] w fun e w' => e = .returned (.tuple #[.int .i64 0, .bool false]) ∧ w = w' := by
  go_enter Tryd.func18, Tryd.ntmps18
  go_wp2_with fail
  go_ret2
  exact ⟨rfl, rfl⟩
set_option maxHeartbeats 400000 in
theorem place_nil (w : World) : Calls Tryd.prog 20 #[.pointer none] w fun e w' => e = .returned (.int .i64 0) ∧ w = w' := by
  go_enter Tryd.func20, Tryd.ntmps20
  go_wp2_with fail
  go_ret
  exact ⟨rfl, rfl⟩
set_option maxHeartbeats 400000 in
theorem fetched_nil (w : World) : Calls Tryd.prog 21 #[.pointer none] w fun e w' => e = .returned (.int .i64 0) ∧ w = w' := by
  go_enter Tryd.func21, Tryd.ntmps21
  go_wp2_with fail
  go_ret
  exact ⟨rfl, rfl⟩
end Go.Proofs.YtdpjcbljeklhmaaDoor
