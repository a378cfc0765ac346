/-
  BufFull answers true at every two ints.
-/
import Derived.Test.YtlobaokeagpefaaB17
namespace Go.Proofs.Ytlobaokeagpefaa
open Go.RowKit ObGap

/-- So many bytes that are 0. -/
def zs (n : Nat) : Bs := List.replicate n 0
def zO (n : Nat) : Obj := .cells (Lib.byteCells (List.replicate n 0)).toArray 5
theorem zs_len (n : Nat) : (zs n).length = n := by simp [zs]
theorem zs_make (n : Nat) (h5 : n ≤ 2097152) (w : World) : (Instr.makeSlice 56 (.int .i64 (n : Int)) (.int .i64 (n : Int))).run Try.prog w = .ok (.slice (some ⟨w.heap.size, 0, none⟩) n n) (w.alloc (zO n)) := by
  have hi := info5z
  cases hq : Try.prog.info? 5 with
  | none => rw [hq] at hi; cases hi
  | some i =>
    rw [hq] at hi
    simp only [Option.map_some, Option.some.injEq, Prod.mk.injEq] at hi
    have := run_make (P := Try.prog) w 56 5 i (.int .u8 0) Try.underlying56 hq hi.1 .i64 .i64 n n (by omega) (by omega) (by rw [hi.2.2]; omega) (by omega)
    rw [this, hi.2.1, Nat.mul_one, Int.toNat_natCast, made_bytes]
    rfl
theorem zs_str (n : Nat) (w : World) : (convert 56 9 (.slice (some ⟨w.heap.size, 0, none⟩) n n)).run Try.prog (w.alloc (zO n)) = .ok (str (zs n)) (w.alloc (zO n)) := by
  have hl : (zs n).length = n := zs_len n
  have h1 : (w.alloc (zO n)).heap[w.heap.size]? = some (.cells (Lib.byteCells (zs n)).toArray 5 (0, 0)) := heap_new _ _
  have := run_convert_bytes_back (P := Try.prog) (w.alloc (zO n)) 56 9 5 ⟨w.heap.size, 0, none⟩ n (zs n) Try.underlying56 Try.underlying5 Try.underlying9 (fun j hj => by
    rw [add_at, Nat.zero_add, row_cell h1]
    simp [Lib.byteCells, hj])
  rw [hl] at this
  exact this
set_option maxHeartbeats 400000 in
theorem within_big (i : Int) (n : Nat) (h : 0 < n) (hm : n ≤ 2097152) (w : World) : Calls Try.prog 18 #[.int .i64 i, .int .i64 (n : Int)] w fun e w' => e = .returned (.int .i64 (wi i n)) ∧ w = w' := by
  have h1 := Int.tmod_lt_of_pos i (show (0 : Int) < n by omega)
  have h2 := Int.lt_tmod_of_pos i (show (0 : Int) < n by omega)
  have hz : ((n : Int) == 0) = false := by simp; omega
  have hz2 : ¬ (n : Int) = 0 := by omega
  have hz3 : ¬ n = 0 := by omega
  have w0 : IntKind.i64.wrap (Int.tmod i n) = Int.tmod i n := IntWalk.i64_in _ (by omega)
  have w1 : IntKind.i64.wrap (Int.tmod i n + n) = Int.tmod i n + n := IntWalk.i64_in _ (by omega)
  obtain ⟨v, hv⟩ : ∃ v, v = wi i n := ⟨_, rfl⟩
  rw [← hv]
  unfold wi at hv
  by_cases hneg : Int.tmod i n < 0
  · have d : decide (Int.tmod i n < 0) = true := by simp [hneg]
    rw [if_pos hneg] at hv
    have HV := Lib.hid hv
    clear hneg hv h1 h2
    go_enter Try.func18, Try.ntmps18
    go_wp2_with fail
    go_ret
    exact ⟨ret_int HV.out.symm, rfl⟩
  · have d : decide (Int.tmod i n < 0) = false := by simpa using hneg
    rw [if_neg hneg] at hv
    have HV := Lib.hid hv
    clear hneg hv h1 h2
    go_enter Try.func18, Try.ntmps18
    go_wp2_with fail
    go_ret
    exact ⟨ret_int HV.out.symm, rfl⟩
theorem nat_of {i : Int} {n : Nat} (h : 0 < n) : ∃ a : Nat, wi i n = (a : Int) ∧ a < n := by
  have := wi_in i n h
  exact ⟨(wi i n).toNat, by omega, by omega⟩
theorem full_facts (N : Nat) (hN : N < 5000) : IntKind.i64.wrap ((1048576 : Int) - (N : Int)) = ((1048576 - N : Nat) : Int) ∧ (1048576 : Int) - (N : Int) = ((1048576 - N : Nat) : Int) ∧ IntKind.i64.wrap (((1048576 - N : Nat) : Int) + 1) = ((1048576 - N + 1 : Nat) : Int) ∧ IntKind.i64.wrap ((N : Int) + 1) = ((N + 1 : Nat) : Int) ∧ IntKind.i64.wrap ((1048576 - N : Nat) : Int) = ((1048576 - N : Nat) : Int) :=
  ⟨(IntWalk.i64_in _ (by omega)).trans (by omega), by omega, (IntWalk.i64_in _ (by omega)).trans (by omega), (IntWalk.i64_in _ (by omega)).trans (by omega), IntWalk.i64_in _ (by omega)⟩
section
variable {w wr : World} {b mx : Nat} {s : Bs} {p : Nat}
/-- An insert that is taken. -/
theorem nb_ins_ok (h : Nb w b mx s p wr) (a : Nat) (x : Bs) (ha : a ≤ s.length) (hl : s.length + x.length ≤ 1048576) : Calls Try.prog 21 #[ptr b, .int .i64 (a : Int), str x] wr fun e w' => e = .returned (.int .i64 0) ∧ Nb w b mx (s.take a ++ (x ++ s.drop a)) (a + x.length) w' := by
  have ho : out s (a : Int) = false := out_not (by omega) (by omega)
  have := nb_insert h (a : Int) x (by omega)
  rw [insE_in ho (by omega), insS_in ho (by omega), insP_in ho (by omega), Int.toNat_natCast] at this
  exact this
theorem nb_ins_big (h : Nb w b mx s p wr) (a : Nat) (x : Bs) (ha : a ≤ s.length) (hl : 1048576 < s.length + x.length) (hx : x.length ≤ 2097152) : Calls Try.prog 21 #[ptr b, .int .i64 (a : Int), str x] wr fun e w' => e = .returned (.int .i64 3) ∧ Nb w b mx s p w' := by
  have ho : out s (a : Int) = false := out_not (by omega) (by omega)
  have := nb_insert h (a : Int) x hx
  rw [insE_big ho hl, insS_big ho hl, insP_big ho hl] at this
  exact this
theorem nb_ins_out (h : Nb w b mx s p wr) (x : Bs) (hx : x.length ≤ 2097152) : Calls Try.prog 21 #[ptr b, .int .i64 (-1), str x] wr fun e w' => e = .returned (.int .i64 2) ∧ Nb w b mx s p w' := by
  have ho : out s (-1) = true := by simp [out]
  have := nb_insert h (-1) x hx
  rw [insE_out ho, insS_out ho, insP_out ho] at this
  exact this
end
set_option maxHeartbeats 4000000 in
set_option maxRecDepth 100000 in
theorem full_walk (n0 at0 : Int) (w : World) : Calls Try.prog 8 #[.int .i64 n0, .int .i64 at0] w fun e w' => e = .returned (.bool true) ∧ Below w.heap.size w w' := by
  obtain ⟨N, hN, hN5⟩ := nat_of (i := n0) (n := 5000) (by omega)
  obtain ⟨f1, f2, f3, f4, f5⟩ := full_facts N hN5
  have HW1 := Lib.hid (fun W => within_any n0 5000 (by omega) (by omega) W)
  rw [hN] at HW1
  have hMl : 1048576 - N ≤ 1048576 ∧ 1048576 - N + N = 1048576 ∧ 1043576 < 1048576 - N := by omega
  generalize hM : 1048576 - N = M at *
  obtain ⟨a, ha, hal⟩ := nat_of (i := at0) (n := M + 1) (by omega)
  have HW2 := Lib.hid (fun W => within_big at0 (M + 1) (by omega) (by omega) W)
  rw [ha] at HW2
  have mk1 := zs_make M (by omega)
  have mk2 := zs_make (N + 1) (by omega)
  simp only [show ((N + 1 : Nat) : Int) = (N : Int) + 1 by omega] at mk2
  have mk3 := zs_make N (by omega)
  have cv1 := zs_str M
  have cv2 := zs_str (N + 1)
  have cv3 := zs_str N
  have l1 := zs_len M
  have l2 := zs_len (N + 1)
  have l3 := zs_len N
  obtain ⟨s, hs, hsl⟩ : ∃ s, s = zs M ∧ s.length = M := ⟨_, rfl, l1⟩
  obtain ⟨u, hu, hul⟩ : ∃ u, u = zs (N + 1) ∧ u.length = N + 1 := ⟨_, rfl, l2⟩
  obtain ⟨v, hv, hvl⟩ : ∃ v, v = zs N ∧ v.length = N := ⟨_, rfl, l3⟩
  rw [← hs] at cv1
  rw [← hu] at cv2
  rw [← hv] at cv3
  have HL := Lib.hid (And.intro hsl (And.intro hul hvl))
  have HM := Lib.hid hMl
  have e0 : (([] : Bs).take 0 ++ (s ++ ([] : Bs).drop 0)) = s := by simp
  have dM : decide ((M : Int) = ((M : Nat) : Int)) = true := by simp
  clear hM ha l1 l2 l3 hs hu hv hsl hul hvl hN
  go_enter Try.func8, Try.ntmps8
  go_wp2_with fail
  refine (nb_new (Below.refl _ w) 4096 (by omega) (by omega)).mono ?_
  rintro e w1 ⟨rfl, h1⟩
  have C1 := Lib.hid h1
  clear h1
  go_wp2_with fail
  refine (HW1.out _).mono ?_
  rintro e w2 ⟨rfl, rfl⟩
  go_wp2_with fail
  have I1 := nb_ins_ok (C1.out.on (alloc_below w1 (zO M))) 0 s (by simp) (by have := HL.out; have := HM.out; simp; omega)
  rw [e0] at I1
  have G1 := Lib.hid I1
  clear I1
  refine G1.out.mono ?_
  rintro e w3 ⟨rfl, h3⟩
  have C3 := Lib.hid h3
  clear h3 C1 G1
  go_wp2_with fail
  refine (HW2.out _).mono ?_
  rintro e w4 ⟨rfl, rfl⟩
  go_wp2_with fail
  refine (nb_ins_big (C3.out.on (alloc_below w3 (zO (N + 1)))) a u (by have := HL.out; omega) (by have := HL.out; have := HM.out; omega) (by have := HL.out; omega)).mono ?_
  rintro e w5 ⟨rfl, h5⟩
  have C5 := Lib.hid h5
  clear h5 C3
  have I5 := nb_len C5.out
  rw [HL.out.1] at I5
  have G5 := Lib.hid I5
  clear I5
  go_wp2_with fail
  refine G5.out.mono ?_
  rintro e w6 ⟨rfl, h6⟩
  have C6 := Lib.hid h6
  clear h6 C5 G5
  go_wp2_with fail
  refine (nb_ins_out (C6.out.on (alloc_below w6 (zO (N + 1)))) u (by have := HL.out; omega)).mono ?_
  rintro e w7 ⟨rfl, h7⟩
  have C7 := Lib.hid h7
  clear h7 C6
  go_wp2_with fail
  have I8 := nb_ins_ok (C7.out.on (alloc_below w7 (zO N))) a v (by have := HL.out; omega) (by have := HL.out; have := HM.out; omega)
  obtain ⟨t, ht⟩ : ∃ t, t = s.take a ++ (v ++ s.drop a) := ⟨_, rfl⟩
  have htl : t.length = 1048576 := by rw [ht, put_len (by have := HL.out; omega)]; have := HL.out; have := HM.out; omega
  rw [← ht] at I8
  have HTL := Lib.hid htl
  have G8 := Lib.hid I8
  clear I8 htl ht
  refine G8.out.mono ?_
  rintro e w8 ⟨rfl, h8⟩
  have C8 := Lib.hid h8
  clear h8 C7 G8
  have I9 := nb_len C8.out
  rw [HTL.out] at I9
  have G9 := Lib.hid I9
  clear I9
  go_wp2_with fail
  refine G9.out.mono ?_
  rintro e w9 ⟨rfl, h9⟩
  have C9 := Lib.hid h9
  clear h9 C8 G9
  go_wp2_with fail
  refine (nb_ins_big C9.out a [120] (by have := HTL.out; omega) (by have := HTL.out; simp; omega) (by simp)).mono ?_
  rintro e w10 ⟨rfl, h10⟩
  have C10 := Lib.hid h10
  clear h10 C9
  go_wp2_with fail
  refine (nb_ins_ok C10.out a [] (by have := HTL.out; omega) (by have := HTL.out; simp; omega)).mono ?_
  rintro e w11 ⟨rfl, h11⟩
  have C11 := Lib.hid h11
  clear h11 C10
  go_wp2_with fail
  refine (wakes_any _).mono ?_
  rintro e w12 ⟨rfl, hb12⟩
  go_wp2_with fail
  go_ret
  exact ⟨rfl, bel_trans C11.out.2 hb12⟩
end Go.Proofs.Ytlobaokeagpefaa
