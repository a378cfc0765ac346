/-
  What (*strings.Builder).WriteString does at this program to a builder that is in use; what part of a buffer answers. Condition: the new length takes at most 2^47 bytes.
-/
import Derived.Test.YtdpjcbljeklhmaaDoorShelf
import Derived.Test.YtdpjcbljeklhmaaDoorB1
import Derived.Lib.AppendStr
import Derived.Lib.Builder
namespace Go.Proofs.YtdpjcbljeklhmaaDoor
open Go.RowKit ObGap

theorem ret_ints {a b c d : Int} (h : a = b) (k : c = d) : Ending.returned (.tuple #[.int .i64 a, .int .i64 c]) = .returned (.tuple #[.int .i64 b, .int .i64 d]) := by rw [h, k]
theorem sizeBld : (Tryd.prog.info? 74).map (·.size) = some 2 := by kernel_rfl
set_option maxHeartbeats 400000 in
theorem copyCheck_used (b : Nat) (w : World) (h0 : w.cell? ⟨b, 0, none⟩ = some (.pointer (some ⟨b, 0, none⟩))) :
    Calls Tryd.prog 63 #[.pointer (some ⟨b, 0, none⟩)] w fun e w' => e = .returned (.tuple #[]) ∧ w = w' := by
  obtain ⟨j, hj, _⟩ := Option.map_eq_some_iff.1 sizeBld
  have hne := Lib.run_neq_ptr_same (P := Tryd.prog) w ⟨b, 0, none⟩ Tryd.underlying71 hj
  go_enter Tryd.func63, Tryd.ntmps63
  go_wp2
  go_end0
  exact ⟨rfl, rfl⟩
set_option maxHeartbeats 1000000 in
set_option maxRecDepth 100000 in
theorem write_used (B b : Nat) (bs : List Value) (x : Bs) (w : World) (h : Lib.BuilderAt 74 5 B b (.pointer (some ⟨b, 0, none⟩)) bs w) (hlen : bs.length + x.length ≤ 140737488355328) (hBw : B ≤ w.heap.size) :
    Calls Tryd.prog 51 #[.pointer (some ⟨b, 0, none⟩), str x] w fun e w' => e = .returned (.tuple #[.int .i64 (x.length : Nat), .nilIface]) ∧ Lib.BuilderAt 74 5 B b (.pointer (some ⟨b, 0, none⟩)) (bs ++ Lib.byteCells x) w' ∧ Below B w w' := by
  have hi := info5z
  cases hq : Tryd.prog.info? 5 with
  | none => rw [hq] at hi; cases hi
  | some i0 =>
  rw [hq] at hi
  simp only [Option.map_some, Option.some.injEq, Prod.mk.injEq] at hi
  obtain ⟨hz0, hz1, hz2⟩ := hi
  obtain ⟨hB, v, hbk, hown, hne⟩ := h
  have HLN := Lib.hid (show bs.length + x.length ≤ maxLen ∧ bs.length + x.length ≤ 140737488355328 from ⟨by unfold maxLen; omega, hlen⟩)
  clear hlen
  have c0 : w.cell? ⟨b, 0, none⟩ = some (.pointer (some ⟨b, 0, none⟩)) := by rw [Lib.cell_of_heap hbk]; rfl
  have c1 : w.cell? ⟨b, 1, none⟩ = some v := by rw [Lib.cell_of_heap hbk]; rfl
  go_enter Tryd.func51, Tryd.ntmps51
  go_wp2_with fail
  refine (copyCheck_used b _ c0).mono ?_
  rintro e w1 ⟨rfl, rfl⟩
  go_wp2_with (at_builtin; refine Lib.wpList_append_own_string _ rfl _ _ 72 9 rfl B 5 i0 Tryd.underlying72 Tryd.underlying9 hq hz0 hz1 hz2 _ _ _ rfl hown ⟨⟨x⟩⟩ rfl ?c3 ?c4 ?c5 ?_)
  case c3 => exact HLN.out.1
  case c4 => exact HLN.out.2
  case c5 => exact hBw
  intro v' w2 hown' hgrow _
  have hlt := lt_of_heap hbk
  have hb2 : w2.heap[b]? = some (.cells #[.pointer (some ⟨b, 0, none⟩), v] 74 (0, 0)) := (hgrow.block b hlt (fun e => hne e.symm)).trans hbk
  have d0 : w2.cell? ⟨b, 0, none⟩ = some (.pointer (some ⟨b, 0, none⟩)) := by rw [Lib.cell_of_heap hb2]; rfl
  have d1 : w2.cell? ⟨b, 1, none⟩ = some v := by rw [Lib.cell_of_heap hb2]; rfl
  have f1 : w2.frozen? ⟨b, 1, none⟩ = false := Lib.frozen_of_heap hb2 1
  obtain ⟨ao, n', cap, rfl⟩ : ∃ ao n' cap, v' = .slice ao n' cap := by
    rcases hown'.2 with ⟨hv, _⟩ | ⟨g, cap, cur, hv, _⟩
    · exact ⟨_, _, _, hv⟩
    · exact ⟨_, _, _, hv⟩
  go_wp2
  go_ret2
  refine ⟨rfl, ?_, ?_⟩
  · exact Lib.BuilderAt.put (T := 74) (e := 5) hB hb2 (bs' := bs ++ Lib.byteCells x) (by rw [List.length_append, Lib.byteCells_length]; exact hown') (by decide)
  · exact ((Below.refl B _).grown hgrow hBw (fun k hk => (hown.lt k hk).1)).setCell (p := ⟨b, 1, none⟩) hB _
section
variable {w : World} {F : Nat → Prop} {b mx : Nat} {V U : Value} {cs E : List Nat} {p : Nat}
set_option maxHeartbeats 400000 in
theorem part_bx (h : Bx w F b mx V cs U E p) (i : Nat) (hi : i ≤ E.length) {c g : Nat} {s : Bs} {q : Nat} (hc : cs[i]? = some c) (hk : Chk w c g mx s q) (f t : Nat) (hf : f ≤ 2097152) (ht : t ≤ 2097152) (hst : stE E i ≤ t) :
    Calls Tryd.prog 50 #[ptr b, .int .i64 (i : Int), .int .i64 (f : Int), .int .i64 (t : Int)] w fun e w' => e = .returned (.tuple #[.int .i64 (f - stE E i : Nat), .int .i64 (min (t - stE E i) s.length : Nat)]) ∧ Below w.heap.size w w' := by
  have HS := Lib.hid (start_bx h i hi)
  have HL := Lib.hid (len_chk hk)
  obtain ⟨c0, c1, c2, c3, _⟩ := h.cells
  obtain ⟨A, cap, rfl, k1, k2, k3, k4⟩ := own_see h.row
  have hil : i < cs.length := (List.getElem?_eq_some_iff.1 hc).1
  rcases k4 with ⟨_, _, k5⟩ | ⟨r, rfl, _, k5, _, k6⟩
  · omega
  have m3 := k6 i (ptr c) (by rw [List.getElem?_map, hc]; rfl)
  have hlen := hk.len
  have hcl := h.cl
  generalize hst' : stE E i = st at *
  have HST := Lib.hid hst'
  have i1 : (i : Int) < (cs.length : Int) := by omega
  clear h k6 k3 hst' hc hk
  go_enter Tryd.func50, Tryd.ntmps50
  go_wp2_with fail
  refine HS.out.mono ?_
  rintro e w1 ⟨rfl, rfl⟩
  go_wp2_with fail
  refine HL.out.mono ?_
  rintro e w2 ⟨rfl, hb2⟩
  go_wp2_with fail
  go_ret2
  exact ⟨ret_ints (by omega) (by omega), hb2⟩
end
theorem bld_on {w w' : World} {B b : Nat} {p : Value} {bs : List Value} (h : Lib.BuilderAt 74 5 B b p bs w) (hb : Below w.heap.size w w') : Lib.BuilderAt 74 5 B b p bs w' := by
  obtain ⟨hB, v, hbk, hown, hne⟩ := h
  exact ⟨hB, v, (hb.block _ (lt_of_heap hbk)).trans hbk, own_keep hown fun g hg => hb.block _ (hown.lt g hg).2, hne⟩
theorem piece_step {T : List Bs} {i f t : Nat} (h : i < T.length) (h1 : st T i ≤ t) :
    (T.flatten.take (min t (st T (i + 1)))).drop f = (T.flatten.take (min t (st T i))).drop f ++ (T[i].take (min (t - st T i) T[i].length)).drop (f - st T i) := by
  have e0 := st_succ h
  have ea : (T.take i).flatten.length = st T i := rfl
  rw [flat_part h]
  generalize (T.take i).flatten = A at *
  generalize T[i] = x at *
  generalize (T.drop (i + 1)).flatten = B at *
  generalize st T i = a at *
  rw [e0]
  subst ea
  have e1 : List.take (min t A.length) (A ++ (x ++ B)) = A := by
    rw [List.take_append_of_le_length (by omega), List.take_of_length_le (by omega)]
  have e2 : List.take (min t (A.length + x.length)) (A ++ (x ++ B)) = A ++ x.take (min (t - A.length) x.length) := by
    rw [List.take_append, List.take_of_length_le (by omega), List.take_append_of_le_length (by omega)]
    congr 2; omega
  rw [e1, e2, List.drop_append]
section
variable {w : World} {F : Nat → Prop} {b mx : Nat} {V U : Value} {qs : List Q} {p : Nat}
set_option maxHeartbeats 2000000 in
theorem piece_bx (h : Bx w F b mx V (qs.map Q.c) U (ends (txs qs)) p) (hc : Chs w F mx qs) (f t : Nat) (hft : f ≤ t) (ht : t ≤ (txs qs).flatten.length) (htx : (txs qs).flatten.length ≤ 1048576) :
    Calls Tryd.prog 33 #[ptr b, .int .i64 (f : Int), .int .i64 (t : Int)] w fun e w' => e = .returned (str (((txs qs).flatten.take t).drop f)) ∧ Below w.heap.size w w' := by
  have HX := Lib.hid h
  have HC := Lib.hid hc
  have HT := Lib.hid ht
  have HX5 := Lib.hid htx
  have hcl : qs.length ≤ 2097152 := by simpa using h.cl
  have ht2 : t ≤ 1048576 := by omega
  have wq : IntKind.i64.wrap ((t : Int) - (f : Int)) = ((t - f : Nat) : Int) := (IntWalk.i64_in _ (by omega)).trans (by omega)
  have e1 : (t : Int) - (f : Int) = ((t - f : Nat) : Int) := by omega
  have HG := Lib.hid (fun (w1 : World) (hbk : w1.heap[w.heap.size]? = some (.cells #[.pointer none, .slice none 0 0] 74 (0, 0))) (hBw : w.heap.size ≤ w1.heap.size) => Tryd.Builder_Grow_fresh w.heap.size w.heap.size (t - f) w1 (Nat.le_refl _) hbk hBw (by omega))
  clear h hc ht htx
  go_enter Tryd.func33, Tryd.ntmps33
  go_wp2_with fail
  refine (HG.out _ (heap_new _ _) (by simp)).mono ?_
  rintro e w1 ⟨rfl, hbu1, hb1⟩
  have HB1 := Lib.hid (show Below w.heap.size w w1 from ((Below.refl _ _).alloc (Nat.le_refl _) _).trans hb1)
  have HU1 := Lib.hid hbu1
  clear hbu1 hb1
  go_wp2_with fail
  refine (with_bx (HX.out.on HB1.out) rfl f (by omega)).mono ?_
  rintro e w2 ⟨i0, rfl, hw0, rfl⟩
  have HW0 := Lib.hid hw0
  have hi0 : i0 ≤ qs.length := by have := hw0.1; simpa using this
  clear hw0
  go_wp2_with fail
  go_loopw [8] (fun s8 wr => ∃ i : Nat, s8 = .int .i64 i ∧ i0 ≤ i ∧ i ≤ qs.length ∧ Lib.BuilderAt 74 5 w.heap.size w.heap.size (ptr w.heap.size) (Lib.byteCells (((txs qs).flatten.take (min t (st (txs qs) i))).drop f)) wr ∧ Below w.heap.size w wr) (fun s8 _ => qs.length - (intOf s8).toNat)
  case atStart =>
    refine ⟨i0, rfl, Nat.le_refl _, hi0, ?_, HB1.out⟩
    have : ((txs qs).flatten.take (min t (st (txs qs) i0))).drop f = [] := by
      apply List.drop_of_length_le
      have := HW0.out.2.1
      simp only [List.length_take]; omega
    rw [this]; exact HU1.out
  case round =>
    obtain ⟨i, rfl, hlo, hhi, hbu, hb⟩ := hrel
    have HBU := Lib.hid hbu
    have HB := Lib.hid hb
    clear hbu hb
    have HX2 := Lib.hid (HX.out.on HB.out)
    obtain ⟨c0, c1, c2, c3, _⟩ := HX2.out.cells
    obtain ⟨A, cap, rfl, k1, k2, k3, k4⟩ := own_see HX2.out.row
    have HK4 := Lib.hid k4
    have hel : i ≤ (ends (txs qs)).length := by rw [ends_len]; simpa using hhi
    have HST := Lib.hid (show stE (ends (txs qs)) i = st (txs qs) i from stE_ends (by simpa using hhi))
    rw [List.length_map] at *
    clear k4 k3
    by_cases hin : i < qs.length
    · have d1 : decide (i < qs.length) = true := by simp [hin]
      by_cases hlt : st (txs qs) i < t
      · have hin2 : i < (txs qs).length := by simpa using hin
        have HSP := Lib.hid (piece_step (f := f) hin2 (Nat.le_of_lt hlt))
        have hq : (txs qs)[i] = qs[i].s := by simp
        rw [hq] at HSP
        have HQ := Lib.hid hq
        have hfl : f - st (txs qs) i ≤ min (t - st (txs qs) i) qs[i].s.length := by
          have h1 := HW0.out.2.2 (by simp; omega)
          have h2 := st_mono (T := txs qs) (show i0 + 1 ≤ i + 1 by omega)
          have h3 := st_succ hin2
          rw [hq] at h3
          omega
        obtain ⟨r, rfl, k5, k6⟩ : ∃ r, A = some ⟨r, 0, none⟩ ∧ r < wr.heap.size ∧ ∀ i x, (ptrs (qs.map Q.c))[i]? = some x → wr.cell? ⟨r, i, none⟩ = some x := by
          rcases HK4.out with ⟨_, _, k5⟩ | ⟨r, e, _, k5, _, k6⟩
          · omega
          · exact ⟨r, e, k5, k6⟩
        have m3 := k6 i (ptr qs[i].c) (by simp [hin])
        obtain ⟨_, _, q0, hk⟩ := (HC.out.on HB.out).1 qs[i] (List.getElem_mem hin)
        have HK := Lib.hid hk
        have HCI := Lib.hid (show (qs.map Q.c)[i]? = some qs[i].c by simp [hin])
        have hsl := hk.len
        generalize qs[i] = x at *
        obtain ⟨xc, xg, xs⟩ := x
        simp only at *
        have i1 : (i : Int) < (qs.length : Int) := by omega
        generalize hst : st (txs qs) i = a at *
        have hat : a ≤ 1048576 := by omega
        have d2 : decide (a < t) = true := by simp [hlt]
        generalize hmn : min (t - a) xs.length = hi at *
        have hmn2 : hi ≤ xs.length := by omega
        have HMN := Lib.hid hmn
        have HHST := Lib.hid hst
        clear hk k6 hmn hst hq
        have HS := start_bx HX2.out i hel
        rw [HST.out] at HS
        have HS2 := Lib.hid HS
        have HP := part_bx HX2.out i hel HCI.out HK.out f t (by omega) (by omega) (by rw [HST.out]; omega)
        rw [HST.out, HMN.out] at HP
        have HP2 := Lib.hid HP
        clear HS HP
        go_wp2_with fail
        refine HS2.out.mono ?_
        rintro e w3 ⟨rfl, rfl⟩
        go_wp2_with fail
        refine HP2.out.mono ?_
        rintro e w4 ⟨rfl, hb4⟩
        have HB4 := Lib.hid (bel_trans HB.out (hb4.mono (Nat.le_refl _)))
        clear c0 c1 c2 c3
        obtain ⟨c0, c1, c2, c3, _⟩ := (HX2.out.on hb4).cells
        have m4 : w4.cell? ⟨r, i, none⟩ = some (ptr xc) := (hb4.cell k5).trans m3
        have HK4 := Lib.hid (HK.out.on hb4)
        have HBL4 := Lib.hid hb4
        clear hb4
        go_wp2_with fail
        refine (text_chk HK4.out).mono ?_
        rintro e w5 ⟨rfl, hb5⟩
        have HB5 := Lib.hid (bel_trans HBL4.out hb5)
        have HU5 := Lib.hid (bld_on HBU.out HB5.out)
        have e2 : (⟨⟨xs⟩⟩ : ByteArray).extract (f - a) hi = ⟨⟨(xs.take hi).drop (f - a)⟩⟩ := bs_ext _ _ _
        have i2 : ((f - a : Nat) : Int) ≤ (hi : Int) := by omega
        have i3 : (hi : Int) ≤ (xs.length : Int) := by omega
        have HWL := Lib.hid (show (Lib.byteCells (((txs qs).flatten.take (min t a)).drop f)).length + ((xs.take hi).drop (f - a)).length ≤ 140737488355328 by
          rw [Lib.byteCells_length]; simp only [List.length_drop, List.length_take]; omega)
        have HSZ := Lib.hid (show w.heap.size ≤ w5.heap.size from Nat.le_trans HB.out.size HB5.out.size)
        generalize hz : (xs.take hi).drop (f - a) = z at *
        generalize f - a = lo at *
        clear hb5 hz
        go_wp2_with fail
        refine (write_used _ _ _ z _ HU5.out HWL.out HSZ.out).mono ?_
        rintro e w6 ⟨rfl, hbu6, hb6⟩
        have HU6 := Lib.hid hbu6
        have HB6 := Lib.hid ((bel_trans HB.out HB5.out).trans hb6)
        clear hbu6 hb6
        go_wp2_with fail
        go_roundw
        case rel =>
          refine ⟨i + 1, by go_num, by omega, by omega, ?_, HB6.out⟩
          have := HU6.out
          rw [HSP.out]
          simpa [Lib.byteCells] using this
        case measure => simp [intOf]; omega
      · have d2 : decide (st (txs qs) i < t) = false := by simpa using hlt
        have HS := start_bx HX2.out i hel
        rw [HST.out] at HS
        have HS2 := Lib.hid HS
        have HE := Lib.hid (show min t (st (txs qs) i) = t by omega)
        clear HS
        generalize hst : st (txs qs) i = a at *
        clear hst
        go_wp2_with fail
        refine HS2.out.mono ?_
        rintro e w3 ⟨rfl, rfl⟩
        go_wp2_with fail
        refine (Tryd.Builder_String_any _ _ _ _ (Or.inr HBU.out) HB.out.size).mono ?_
        rintro e w4 ⟨rfl, hb4⟩
        go_wp2_with fail
        go_ret
        exact ⟨(by rw [HE.out]; rfl), HB.out.trans hb4⟩
    · have d1 : decide (i < qs.length) = false := by simpa using hin
      have HE := Lib.hid (show min t (st (txs qs) i) = t by
        have : i = (txs qs).length := by simp; omega
        rw [this, st_all]; have := HT.out; omega)
      go_wp2_with fail
      refine (Tryd.Builder_String_any _ _ _ _ (Or.inr HBU.out) HB.out.size).mono ?_
      rintro e w4 ⟨rfl, hb4⟩
      go_wp2_with fail
      go_ret
      exact ⟨(by rw [HE.out]; rfl), HB.out.trans hb4⟩
end
end Go.Proofs.YtdpjcbljeklhmaaDoor
