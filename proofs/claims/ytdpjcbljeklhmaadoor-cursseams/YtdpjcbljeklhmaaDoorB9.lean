/-
  What count leaves: the ends of all chunks, told anew from one on; nothing else is changed.
-/
import Derived.Test.YtdpjcbljeklhmaaDoorB8
namespace Go.Proofs.YtdpjcbljeklhmaaDoor
open Go.RowKit ObGap

/-- A slice expression whose value is known. -/
theorem wpList_slice_run {P : Program} {w : World} {ops : Array Oper} {rest : List Oper} {o : Oper} {a : Act} {Q : Exit → Act → World → Prop} (hgd : o.guard = none) (t : TypeId) (x : Operand) (lo hi mx : Option Operand)
    (ho : o.op = .slice t x lo hi mx) (v : Value) (hr : (Instr.sliceAt t (a.eval x) (lo.map a.eval) (hi.map a.eval) (mx.map a.eval)).run P w = .ok v w) (h : wpList P ops Q rest (a.put o.dst v) w) : wpList P ops Q (o :: rest) a w := by
  refine wpList_plain hgd fun K hK => ?_
  unfold Oper.wp
  simp [execOp, ho, hr, Result.andThen]
  exact hK _ _ h
theorem elem46 : Tryd.prog.underlying 22 = some (.slice 3) := Tryd.underlying22
theorem size3 : (Tryd.prog.info? 3).map (·.size) = some 1 := by kernel_rfl
theorem run_size {e : TypeId} {n : Nat} (h : (Tryd.prog.info? e).map (·.size) = some n) (w : World) : (sizeOf e).run Tryd.prog w = .ok n w := by
  cases hx : Tryd.prog.info? e with
  | none => rw [hx] at h; cases h
  | some i => rw [hx] at h; simp at h; simp [sizeOf, typeInfo, hx, h]
set_option maxRecDepth 100000 in
/-- The first elements of an own row. -/
theorem own_head {w : World} {t e : TypeId} {U : Value} {xs : List Value} {i : Nat} (ht : Tryd.prog.underlying t = some (.slice e)) (he : Tryd.prog.elem t = e) (hs : (Tryd.prog.info? e).map (·.size) = some 1) (h : w.ownsRow 0 e 1 U xs.length xs) (hi : i ≤ xs.length) :
    ∃ A c, (∀ w, (Instr.sliceAt t U none (some (.int .i64 (i : Int))) none).run Tryd.prog w = .ok (.slice A i c) w) ∧ w.ownsRow 0 e 1 (.slice A i c) i (xs.take i) ∧ (∀ g, (Value.slice A i c).ownBlock = some g → U.ownBlock = some g) := by
  have ht2 : Tryd.prog.underlying t = some (.slice (Tryd.prog.elem t)) := by rw [he]; exact ht
  rcases h.2 with ⟨rfl, h0⟩ | ⟨g, cap, cur, rfl, hb, hgg, h1, h2, h3, h4⟩
  · obtain rfl : i = 0 := by omega
    refine ⟨none, 0, fun w => ?_, World.ownsRow_nil _ _ _ _, fun g hg => hg⟩
    rw [run_sliceAt_slice w t _ _ _ _ ht2, run_slice_h w t none 0 0 ht2 .i64 ((0 : Nat) : Int) (by omega) (by omega), he, run_size hs]
    rfl
  · refine ⟨some ⟨g, 0, none⟩, cap, fun w => ?_, ⟨by simp; omega, .inr ⟨g, cap, cur, rfl, hb, hgg, by omega, h2, h3, ?_⟩⟩, fun g hg => hg⟩
    · rw [run_sliceAt_slice w t _ _ _ _ ht2, run_slice_h w t _ _ _ ht2 .i64 (i : Int) (by omega) (by omega), he, run_size hs]
      simp [Result.andThen, sliced, Addr.add]
    · rw [← h4, List.take_take]; congr 1; omega
/-- The elements of an own row from one on. -/
theorem own_tail {w : World} {t e : TypeId} {V : Value} {xs : List Value} {i : Nat} (ht : Tryd.prog.underlying t = some (.slice e)) (he : Tryd.prog.elem t = e) (hs : (Tryd.prog.info? e).map (·.size) = some 1) (h : w.ownsRow 0 e 1 V xs.length xs) (hi : i ≤ xs.length) :
    ∃ A c, (∀ w, (Instr.sliceAt t V (some (.int .i64 (i : Int))) none none).run Tryd.prog w = .ok (.slice A (xs.length - i) c) w) ∧ (i < xs.length → ∃ r, A = some ⟨r, i, none⟩ ∧ V.ownBlock = some r) := by
  have ht2 : Tryd.prog.underlying t = some (.slice (Tryd.prog.elem t)) := by rw [he]; exact ht
  rcases h.2 with ⟨rfl, h0⟩ | ⟨g, cap, cur, rfl, hb, hgg, h1, h2, h3, h4⟩
  · obtain rfl : i = 0 := by omega
    refine ⟨none, 0, fun w => ?_, fun h => by omega⟩
    rw [run_sliceAt_slice w t _ _ _ _ ht2, run_slice_l w t none 0 0 ht2 .i64 ((0 : Nat) : Int) (by omega) (by omega), he, run_size hs]
    simp [Result.andThen, sliced, h0]
  · refine ⟨if cap = i then some ⟨g, 0, none⟩ else some ⟨g, i, none⟩, cap - i, fun w => ?_, fun h => ⟨g, by rw [if_neg (by omega)], rfl⟩⟩
    rw [run_sliceAt_slice w t _ _ _ _ ht2, run_slice_l w t _ _ _ ht2 .i64 (i : Int) (by omega) (by omega), he, run_size hs]
    simp only [Result.andThen, sliced, Int.toNat_natCast, Option.map_some, add_at, Nat.mul_one, Nat.zero_add]
/-- What was held, and what is new. -/
def Fn (F : Nat → Prop) (w w' : World) (k : Nat) : Prop := F k ∨ New w w' k
theorem Fn.mono {F : Nat → Prop} {w a b : World} (h : a.heap.size ≤ b.heap.size) {k : Nat} (hk : Fn F w a k) : Fn F w b k := hk.imp id (fun h1 => h1.mono h)
section
variable {w wr w1 w2 : World} {F G : Nat → Prop} {b mx : Nat} {V U U' : Value} {cs E : List Nat} {p : Nat}
theorem Bx.put2' (hb : w.heap[b]? = some (.cells #[.int .i64 (mx : Int), V, U, .int .i64 (p : Int)] 69 (0, 0))) (hr : w.ownsRow 0 81 1 V cs.length (ptrs cs)) (fb : F b) (fv : ∀ g, V.ownBlock = some g → F g) (h4 : 4 ≤ mx) (h5 : mx ≤ 4096) (cl : cs.length ≤ 2097152)
    (he : w.ownsRow 0 3 1 U' E.length (nums E)) (hf : ∀ g, U'.ownBlock = some g → F g) (hl : E.length ≤ 2097152) : Bx (w.setCell ⟨b, 2, none⟩ U') F b mx V cs U' E p := by
  have hs := heap_set 2 U' hb
  refine ⟨by simpa using hs, own_keep hr fun g hg => ?_, own_keep he fun g hg => ?_, fb, fv, hf, h4, h5, cl, hl⟩
  · obtain ⟨a, ht⟩ := own_ty hr hg
    exact Below.heap_setCell _ _ _ _ (ty_ne ht hb (by decide))
  · obtain ⟨a, ht⟩ := own_ty he hg
    exact Below.heap_setCell _ _ _ _ (ty_ne ht hb (by decide))
theorem Gs.below_right {F G : Nat → Prop} {w w' w'' : World} (h : Gs F G w w') (hb : Below w'.heap.size w' w'') : Gs F G w w'' :=
  ⟨hb.os.trans h.os, hb.tape.trans h.tape, hb.output.trans h.output, Nat.le_trans h.size hb.size, fun k hk hn => (hb.block k (by have := h.size; omega)).trans (h.block k hk hn), h.more⟩
/-- One end more. -/
theorem count_push {qs : List Q} {o : Obj} {v' : Value} {m : Nat} (hX : Bx wr (Fn F w wr) b mx V (qs.map Q.c) U E p) (hC : Chs wr (Fn F w wr) mx qs) (hgs : Gs F (Fn F w wr) w wr) (hb : Below wr.heap.size wr w1)
    (own' : w2.ownsRow 0 3 1 v' (E.length + 1) (nums E ++ [.int .i64 (m : Int)])) (hg : (w1.alloc o).grownBy w2 U.ownBlock) (hnew : ∀ g, v'.ownBlock = some g → U.ownBlock = some g ∨ (w1.alloc o).heap.size ≤ g) (hl : E.length + 1 ≤ 2097152) :
    Bx (w2.setCell ⟨b, 2, none⟩ v') (Fn F w (w2.setCell ⟨b, 2, none⟩ v')) b mx V (qs.map Q.c) v' (E ++ [m]) p ∧ Chs (w2.setCell ⟨b, 2, none⟩ v') (Fn F w (w2.setCell ⟨b, 2, none⟩ v')) mx qs ∧ Gs F (Fn F w (w2.setCell ⟨b, 2, none⟩ v')) w (w2.setCell ⟨b, 2, none⟩ v') := by
  have s1 := hb.size
  have s2 := hg.size
  have s0 : w1.heap.size ≤ (w1.alloc o).heap.size := by simp
  have sz : (w2.setCell ⟨b, 2, none⟩ v').heap.size = w2.heap.size := by simp [World.setCell]
  have hm : ∀ k, Fn F w wr k → Fn F w (w2.setCell ⟨b, 2, none⟩ v') k := fun k hk => hk.mono (by omega)
  have hbl : Below wr.heap.size wr (w1.alloc o) := hb.alloc (by omega) o
  have hX1 := hX.on hbl
  have hC1 := hC.on hbl
  have hx2 : w2.heap[b]? = some (.cells #[.int .i64 (mx : Int), V, U, .int .i64 (p : Int)] 69 (0, 0)) := (hg.block _ hX1.lt (fun e => hX1.neU e.symm rfl)).trans hX1.blk
  have hlt2 : ∀ g, v'.ownBlock = some g → g < w2.heap.size := fun g hg' => (own'.lt g hg').2
  refine ⟨?_, ?_, ?_⟩
  · refine Bx.put2' hx2 (own_keep hX1.row fun g hg' => hg.block _ (hX1.row.lt g hg').2 (fun e => hX1.neVU hg' e.symm rfl)) (hm _ hX.fb) (fun g hg' => hm _ (hX.fv g hg')) hX.h4 hX.h5 hX.cl (by simpa using own') (fun g hg' => ?_) (by simpa using hl)
    have h9 := hlt2 g hg'
    rcases hnew g hg' with h | h
    · exact hm _ (hX.fu g h)
    · exact .inr ⟨by have := hgs.size; omega, by omega⟩
  · exact ((hC1.grown hg (t := 3) (fun k hk => own_ty hX1.en hk) (by decide) (by decide)).setb hx2 2 v').mono hm
  · have g1 : Gs F (Fn F w wr) w (w1.alloc o) := hgs.below_right hbl
    have g2 : Gs (Fn F w wr) (Fn F w wr) (w1.alloc o) w2 := Gs.grown hg fun k hk => hX.fu k hk
    have g3 : Gs (Fn F w wr) (Fn F w wr) w2 (w2.setCell ⟨b, 2, none⟩ v') := Gs.set w2 hX.fb 2 v'
    refine ((g1.trans g2).trans g3).to fun k hk => ?_
    rcases hk with h | h
    · exact .inl (.inl h)
    · exact .inr h.1
end
/-- What count leaves. -/
def Cnt (F : Nat → Prop) (b mx : Nat) (V : Value) (qs : List Q) (p : Nat) (w : World) (e : Ending) (w' : World) : Prop :=
  ∃ U', e = .returned (.tuple #[]) ∧ Bx w' (Fn F w w') b mx V (qs.map Q.c) U' (ends (txs qs)) p ∧ Chs w' (Fn F w w') mx qs ∧ Gs F (Fn F w w') w w'
theorem one_cell3 (w : World) (m : Nat) (t : TypeId) : ∀ j u, [Value.int .i64 (m : Int)][j]? = some u → (w.alloc (.cells #[.int .i64 (m : Int)] t)).cell? ((⟨w.heap.size, 0, none⟩ : Addr).add j) = some u := by
  intro j u hj
  rw [add_at, Nat.zero_add]
  have h : (w.alloc (.cells #[.int .i64 (m : Int)] t)).heap[w.heap.size]? = some (.cells [.int .i64 (m : Int)].toArray t (0, 0)) := heap_new _ _
  rw [row_cell h]; exact hj
theorem info3x : ∃ x, Tryd.prog.info? 3 = some x ∧ x.zero = some (.int .i64 0) ∧ x.size = 1 ∧ x.bytes = 8 := by
  have h := info3
  cases hx : Tryd.prog.info? 3 with
  | none => rw [hx] at h; cases h
  | some x => rw [hx] at h; simp at h; exact ⟨x, rfl, h⟩
set_option maxRecDepth 100000 in
set_option maxHeartbeats 2000000 in
theorem count_bx {w : World} {F : Nat → Prop} {b mx : Nat} {V U : Value} {qs : List Q} {E : List Nat} {p : Nat} (h : Bx w F b mx V (qs.map Q.c) U E p) (hC : Chs w F mx qs) (i : Nat) (hi : i ≤ qs.length) (hiE : i ≤ E.length) (hE : E.take i = (ends (txs qs)).take i) (htx : (txs qs).flatten.length ≤ 1048576) :
    Calls Tryd.prog 58 #[ptr b, .int .i64 (i : Int)] w (Cnt F b mx V qs p w) := by
  obtain ⟨y, hy, y1, y2, y3⟩ := info3x
  have HX := Lib.hid h
  have HC := Lib.hid hC
  have hcl : qs.length ≤ 2097152 := by simpa using h.cl
  have HST := start_bx h i hiE
  have hst : stE E i = st (txs qs) i := stE_of hE (Nat.le_refl _) (by simpa using hi)
  rw [hst] at HST
  have HS := Lib.hid HST
  obtain ⟨c0, c1, c2, c3, cf⟩ := h.cells
  have f2 := cf 2
  obtain ⟨A1, q1, hs1, hU1, hUb⟩ := own_head elem46 (by kernel_rfl) size3 (show w.ownsRow 0 3 1 U (nums E).length (nums E) by simpa using h.en) (i := i) (by simpa using hiE)
  obtain ⟨A, ca, hs2, hA⟩ := own_tail Tryd.underlying67 (by kernel_rfl) info63s (show w.ownsRow 0 81 1 V (ptrs (qs.map Q.c)).length (ptrs (qs.map Q.c)) by simpa using h.row) (i := i) (by simpa using hi)
  have hln : (ptrs (qs.map Q.c)).length = qs.length := by simp
  rw [hln] at hs2 hA
  have HA := Lib.hid hA
  have HU1 := Lib.hid (show w.ownsRow 0 3 1 (.slice A1 i q1) ((ends (txs qs)).take i).length (nums ((ends (txs qs)).take i)) by
    have e : ((ends (txs qs)).take i).length = i := by rw [List.length_take, ends_len]; simp; omega
    rw [e, ← hE, nums, List.map_take]; exact hU1)
  have HUB := Lib.hid hUb
  clear h hC HST hst hU1 hUb hA cf
  go_enter Tryd.func58, Tryd.ntmps58
  go_wp2_with fail
  refine HS.out.mono ?_
  rintro e w1 ⟨rfl, rfl⟩
  go_wp2_with (with_reducible first
    | refine wpList_slice_run rfl 22 (.tmp 14) none (some (.tmp 15)) none rfl _ (hs1 _) ?_
    | refine wpList_slice_run rfl 67 (.tmp 22) (some (.tmp 23)) none none rfl _ (hs2 _) ?_)
  have HW0 := Lib.hid (show Bx (w.setCell ⟨b, 2, none⟩ (.slice A1 i q1)) F b mx V (qs.map Q.c) (.slice A1 i q1) ((ends (txs qs)).take i) p from
    HX.out.put2 HU1.out (fun g hg => HX.out.fu g (HUB.out g hg)) (by rw [List.length_take, ends_len]; simp; omega))
  have HW1 := Lib.hid (show Chs (w.setCell ⟨b, 2, none⟩ (.slice A1 i q1)) F mx qs from HC.out.setb HX.out.blk 2 _)
  have HW2 := Lib.hid (show Gs F F w (w.setCell ⟨b, 2, none⟩ (.slice A1 i q1)) from Gs.set w HX.out.fb 2 _)
  generalize w.setCell ⟨b, 2, none⟩ (.slice A1 i q1) = w1 at HW0 HW1 HW2
  have HFM := Lib.hid (show ∀ k, F k → Fn F w w1 k from fun k hk => .inl hk)
  have hdl : (ends (txs qs)).length = qs.length := by rw [ends_len]; simp
  go_loopw [4, 26] (fun s4 s26 wr => ∃ (j : Nat) (U' : Value), s26 = .int .i64 (j : Int) ∧ s4 = .int .i64 (st (txs qs) (i + j) : Nat) ∧ i + j ≤ qs.length ∧ Bx wr (Fn F w wr) b mx V (qs.map Q.c) U' ((ends (txs qs)).take (i + j)) p ∧ Chs wr (Fn F w wr) mx qs ∧ Gs F (Fn F w wr) w wr) (fun _ s26 _ => qs.length - (intOf s26).toNat)
  case atStart => exact ⟨0, _, rfl, rfl, hi, HW0.out.mono HFM.out, HW1.out.mono HFM.out, HW2.out.to fun k hk => hk.imp id And.left⟩
  case round =>
    obtain ⟨j, U', rfl, rfl, hij, hX, hC, hG⟩ := hrel
    have HX' := Lib.hid hX
    have HC' := Lib.hid hC
    have HG' := Lib.hid hG
    clear hX hC hG
    have hstl := st_le (txs qs) (i + j)
    by_cases hj : i + j < qs.length
    · have d1 : decide (j < qs.length - i) = true := by simp; omega
      have d2 : (j : Int) < ((qs.length - i : Nat) : Int) := by omega
      obtain ⟨r, rfl, hr⟩ := HA.out (by omega)
      have m3 : wr.cell? ⟨r, i + j, none⟩ = some (ptr qs[i + j].c) := by
        have := HX'.out.row.cells hr (i + j) (ptr qs[i + j].c) (by simp [hj])
        rwa [add_at, Nat.zero_add] at this
      obtain ⟨_, _, q0, hk⟩ := HC'.out.1 qs[i + j] (List.getElem_mem hj)
      have hjt : i + j < (txs qs).length := by simpa using hj
      have hsc := st_succ hjt
      have hstl2 := st_le (txs qs) (i + j + 1)
      have hq : (txs qs)[i + j] = qs[i + j].s := by simp
      rw [hq] at hsc
      have HT := Lib.hid (ends_take hjt)
      generalize qs[i + j] = x at *
      obtain ⟨xc, xg, xs⟩ := x
      simp only at *
      have HL := Lib.hid (len_chk hk)
      generalize hst1 : st (txs qs) (i + j) = a at *
      have hsum : (a : Int) + (xs.length : Int) = ((st (txs qs) (i + j + 1) : Nat) : Int) := by omega
      have wsum : IntKind.i64.wrap ((a : Int) + (xs.length : Int)) = ((st (txs qs) (i + j + 1) : Nat) : Int) := (IntWalk.i64_in _ (by omega)).trans hsum
      generalize hst2 : st (txs qs) (i + j + 1) = z at *
      have HS2 := Lib.hid hst2
      have HEL := Lib.hid (show ((ends (txs qs)).take (i + j)).length = i + j by rw [List.length_take, hdl]; omega)
      clear hk hst1 hst2 hsc
      go_wp2_with fail
      refine HL.out.mono ?_
      rintro e w2 ⟨rfl, hb2⟩
      have HB2 := Lib.hid hb2
      obtain ⟨p0, p1, p2, p3, pf⟩ := (HX'.out.on hb2).cells
      have pf2 := pf 2
      have HEN := Lib.hid (fun o => ((HX'.out.on HB2.out).on ((Below.refl _ w2).alloc (Nat.le_refl _) o)).en)
      clear hb2 pf p0 p1 p3
      go_wp2_with (at_builtin; refine wpList_append_at rfl (.tmp 38) (.tmp 40) 22 rfl 3 y (.int .i64 0) 8 Tryd.underlying22 hy y1 y2 y3 rfl _ ((ends (txs qs)).take (i + j)).length (nums ((ends (txs qs)).take (i + j))) rfl (HEN.out _) ⟨w2.heap.size, 0, none⟩ 1 1 [.int .i64 (z : Int)] rfl rfl (one_cell3 _ _ _) ?c2 ?c3 ?c4 ?_)
      case c2 => intro u hu; simp at hu; subst hu; rfl
      case c3 => have := HEL.out; unfold maxLen; omega
      case c4 => have := HEL.out; omega
      intro v' w3 hown' hgrow hnew
      have R := count_push (m := z) HX'.out HC'.out HG'.out HB2.out (by rw [HEL.out, nums, List.map_take]; exact hown') hgrow (fun g hg => (hnew g hg).imp id (fun h => by simpa using h)) (by have := HEL.out; omega)
      have bk : w3.frozen? ⟨b, 2, none⟩ = false ∧ w3.cell? ⟨b, 2, none⟩ = some U' := by
        have hX2 := (HX'.out.on HB2.out).on ((Below.refl _ w2).alloc (Nat.le_refl _) (.cells #[.int .i64 (z : Int)] 3))
        have e := hgrow.block _ hX2.lt (fun e => hX2.neU e.symm rfl)
        obtain ⟨_, _, h3, _, h5⟩ := hX2.cells
        exact ⟨by have := h5 2; simp only [World.frozen?, e] at this ⊢; exact this, (World.cell?_of_block e).trans h3⟩
      obtain ⟨bk1, bk2⟩ := bk
      obtain ⟨A3, cap3, rfl, _⟩ := own_see hown'
      have HR := Lib.hid R
      clear hown' hgrow hnew R
      go_wp2_with fail
      go_roundw
      case rel =>
        obtain ⟨r1, r2, r3⟩ := HR.out
        refine ⟨j + 1, .slice A3 (i + j + 1) cap3, by go_num, ?_, by omega, ?_, r2, r3⟩
        · rw [show i + (j + 1) = i + j + 1 by omega, HS2.out]
        · rw [show i + (j + 1) = i + j + 1 by omega, HT.out]; exact r1
      case measure => simp [intOf]; omega
    · have d1 : decide (j < qs.length - i) = false := by simp; omega
      have HE := Lib.hid (show (ends (txs qs)).take (i + j) = ends (txs qs) from List.take_of_length_le (by omega))
      go_wp2_with fail
      go_end0
      exact ⟨U', rfl, by have := HX'.out; rw [HE.out] at this; exact this, HC'.out, HG'.out⟩
end Go.Proofs.YtdpjcbljeklhmaaDoor
