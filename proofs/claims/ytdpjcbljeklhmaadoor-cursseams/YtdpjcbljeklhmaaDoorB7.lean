/-
  What slices.Replace of a row of chunks answers, where it goes up to the end, and where there is no room; all cases together.
-/
import Derived.Test.YtdpjcbljeklhmaaDoorB6
namespace Go.Proofs.YtdpjcbljeklhmaaDoor
open Go.RowKit ObGap

section
variable {w : World} {g n cap : Nat} {xs Z : List Value} {Av : Option Addr} {m capv : Nat} {vs : List Value} {i j : Nat}
theorem info63x : ∃ x, Tryd.prog.info? 81 = some x ∧ x.zero = some (.pointer none) ∧ x.size = 1 ∧ x.bytes = 8 := by
  have h := info63
  cases hx : Tryd.prog.info? 81 with
  | none => rw [hx] at h; cases h
  | some x => rw [hx] at h; simp at h; exact ⟨x, rfl, h⟩
theorem old_alloc (w : World) (o : Obj) {q : Nat} (hq : q < w.heap.size) : (w.drew.alloc o).heap[q]? = w.heap[q]? := by
  show (w.heap.push o)[q]? = _
  rw [Array.getElem?_push, if_neg (by omega)]
theorem zeros63 (n : Nat) : (Builtin.zeroCells (Value.pointer none).cells n).toList = List.replicate n (.pointer none) := by
  rw [show (Value.pointer none).cells = #[.pointer none] from rfl]
  simp [Builtin.zeroCells]
  apply List.ext_getElem
  · simp
  · intro i h1 h2
    simp [Nat.mod_one]
theorem app_room (h : Rp w g n cap xs Z Av m capv vs i j) (hr : i + m ≤ cap) :
    ∃ w' R, (∀ ty, (Builtin.append_ #[67, 67] ty #[.slice (some ⟨g, 0, none⟩) i cap, .slice Av m capv]).run Tryd.prog w = .ok (.slice (some ⟨g, 0, none⟩) (i + m) cap) w') ∧ w'.heap[g]? = some (.cells (R : List Value).toArray 81 (0, 0)) ∧ R.length = cap ∧ R.take (i + m) = xs.take i ++ vs ∧ w.grownBy w' (some g) := by
  obtain ⟨x, hx, x1, x2, x3⟩ := info63x
  have hl : (xs ++ Z).length = cap := by rw [List.length_append, h.xl, h.hc]
  have hij := h.ij
  have hjn := h.jn
  have hxl := h.xl
  rcases Nat.eq_zero_or_pos m with h0 | h0
  · obtain ⟨rfl, rfl⟩ := h.nl h0
    subst h0
    have hv : vs = [] := List.eq_nil_of_length_eq_zero h.vl
    subst hv
    refine ⟨w, xs ++ Z, fun ty => ?_, h.hg, hl, ?_, gby_refl _ _⟩
    · refine run_append_owned_none (P := Tryd.prog) (w := w) 0 67 ty 81 x 1 Tryd.underlying67 hx _ i (xs.take i) ?_
      exact ⟨by simp; omega, .inr ⟨g, cap, _, rfl, Nat.zero_le _, h.hg, by omega, h.hm, by simp; have := hl; rw [List.length_append] at this; omega, by simp; rw [List.take_append_of_le_length (by omega)]⟩⟩
    · rw [Nat.add_zero, List.append_nil, List.take_append_of_le_length (by omega)]
  · obtain ⟨k, rfl, hk, _, hsrc⟩ := h.src h0
    refine ⟨_, _, fun ty => run_append_room (P := Tryd.prog) w 67 ty 81 x Tryd.underlying67 hx g i cap _ h.hg ⟨k, 0, none⟩ m capv vs (by rw [x2, h.vl]; omega) (fun q u hq => by rw [add_at, Nat.zero_add]; exact hsrc q u hq) h.v1 hr (by rw [x2, h.vl]; simp only [List.size_toArray]; omega), setRow_heap _ g _ _ 81 _ h.hg, ?_, ?_, gby_row (gby_refl _ _) _⟩
    · simp only [x2, Nat.mul_one, h.vl, List.length_append, List.length_take, List.length_drop]
      have := hl; rw [List.length_append] at this; omega
    · simp only [x2, Nat.mul_one]
      rw [List.take_left' (by simp only [List.length_append, List.length_take]; rw [h.vl]; omega), List.take_append_of_le_length (by omega)]
theorem app_grow (h : Rp w g n cap xs Z Av m capv vs i j) (hr : cap < i + m) :
    ∃ w' R k c, (∀ ty, (Builtin.append_ #[67, 67] ty #[.slice (some ⟨g, 0, none⟩) i cap, .slice Av m capv]).run Tryd.prog w = .ok (.slice (some ⟨k, 0, none⟩) (i + m) c) w') ∧ w'.heap[k]? = some (.cells (R : List Value).toArray 81 (0, 0)) ∧ R.length = c ∧ i + m ≤ c ∧ c ≤ maxLen ∧ R.take (i + m) = xs.take i ++ vs ∧ w.grownBy w' (some g) ∧ w.heap.size ≤ k := by
  obtain ⟨x, hx, x1, x2, x3⟩ := info63x
  have hl : (xs ++ Z).length = cap := by rw [List.length_append, h.xl, h.hc]
  have hij := h.ij
  have hjn := h.jn
  have hxl := h.xl
  have hn := h.hn
  have hmm := h.mm
  have hc := h.hc
  have hml : i + m ≤ maxLen := by simp only [maxLen]; omega
  obtain ⟨k, rfl, hk, _, hsrc⟩ := h.src (by omega)
  have hge := grownCap_ge w (i + m) cap 81
  have hle := grownCap_le_maxLen w (i + m) cap 81 hml
  have hrun := fun ty => run_append_grow (P := Tryd.prog) w 67 ty 81 x (.pointer none) Tryd.underlying67 hx x1 ⟨g, 0, none⟩ i cap (xs.take i) (by rw [x2]; simp; omega)
    (fun q u hq => by
      rw [add_at, Nat.zero_add, row_cell h.hg]
      rw [List.getElem?_take] at hq
      split at hq
      · rw [List.getElem?_append_left (by omega)]; exact hq
      · cases hq)
    ⟨k, 0, none⟩ m capv vs (by rw [x2, h.vl]; omega) (fun q u hq => by rw [add_at, Nat.zero_add]; exact hsrc q u hq) (by omega) (by simp only [maxLen] at hml; omega) (growslice_fits (by omega) (by rw [x3]; omega))
  refine ⟨_, (xs.take i ++ vs) ++ List.replicate (grownCap w (i + m) cap 81 - (i + m)) (.pointer none), _, _, fun ty => hrun ty, ?_, ?_, hge, hle, ?_, ?_, Nat.le_refl _⟩
  · have e := heap_alloc_new w.drew (.cells ((xs.take i).toArray ++ vs.toArray ++ Builtin.zeroCells (Value.pointer none).cells (grownCap w (i + m) cap 81 - (i + m))) 81)
    refine Eq.trans e ?_
    refine congrArg (fun a => some (Obj.cells a 81 (0, 0))) ?_
    apply Array.ext'
    simp [zeros63]
  · simp; rw [h.vl]; omega
  · exact List.take_left' (by simp; rw [h.vl]; omega)
  · exact ⟨rfl, rfl, rfl, by simp, fun q hq _ => old_alloc w _ hq⟩
set_option maxHeartbeats 4000000 in
set_option maxRecDepth 100000 in
theorem rep1 (h : Rp w g n cap xs Z Av m capv vs i n) :
    Calls Tryd.prog 60 #[.slice (some ⟨g, 0, none⟩) n cap, .int .i64 (i : Int), .int .i64 (n : Int), .slice Av m capv] w (Repl w g (xs.take i ++ (vs ++ xs.drop n))) := by
  have H := Lib.hid h
  have H1 := Lib.hid (fun hr => app_room h hr)
  have H2 := Lib.hid (fun hr => app_grow h hr)
  obtain ⟨hg, xl, hc, hm, hn, mm, vl, _, src, ij, jn, x1, v1⟩ := h
  have hcap : n ≤ cap := by omega
  have ht : xs.take i ++ (vs ++ xs.drop n) = xs.take i ++ vs := by rw [List.drop_of_length_le (by omega), List.append_nil]
  have htl : (xs.take i ++ vs).length = i + m := by simp; omega
  rw [ht]
  generalize hIM : i + m = im at *
  have HIM := Lib.hid hIM
  have i0 : (i : Int) ≤ (n : Int) := by omega
  have i2 : (n : Int) ≤ (cap : Int) := by omega
  have i3 : (i : Int) ≤ (cap : Int) := by omega
  have hij1 : ¬ (i : Int) = (n : Int) := by omega
  have hij2 : ((i : Int) == (n : Int)) = false := by simp; omega
  have hij3 : ¬ i = n := by omega
  have n2 : (cap = i) = False := by simp; omega
  have hz : (if cap = 0 then none else some (⟨g, 0, none⟩ : Addr)) = some ⟨g, 0, none⟩ := by simp; omega
  clear hg xl hc src x1 v1 hIM vl ht
  rcases Nat.lt_or_ge cap im with hr | hr
  · obtain ⟨w', R, k, c, hrun, hk, hR, hlc, hcm, htk, hgr, hnew⟩ := H2.out hr
    have HP := Lib.hid (show Repl w g (xs.take i ++ vs) (.returned (.slice (some ⟨k, 0, none⟩) im c)) w' from Repl.new hk hR hlc hcm htk htl hgr hnew)
    have d1 : decide (im < n) = false := by simp; omega
    clear hk hR hlc hcm htk hgr hnew htl
    go_enter Tryd.func60, Tryd.ntmps60
    go_wp2_with (with_reducible refine Lib.wpList_append_run _ rfl (.tmp 32) (.tmp 33) 67 67 rfl _ _ rfl rfl _ _ (hrun _) ?_)
    go_ret
    exact HP.out
  · obtain ⟨w', R, hrun, hk, hR, htk, hgr⟩ := H1.out hr
    have HK := Lib.hid hk
    have HR := Lib.hid hR
    have HTK := Lib.hid htk
    have HGR := Lib.hid hgr
    have HTL := Lib.hid htl
    clear hk hR htk hgr htl
    rcases Nat.lt_or_ge im n with htn | htn
    · have d1 : decide (im < n) = true := by simp; omega
      have i7 : (im : Int) ≤ (n : Int) := by omega
      have n4 : (cap = im) = False := by simp; omega
      have hcl : ∀ ty, (Builtin.clear_ #[67] ty #[.slice (some ⟨g, im, none⟩) (n - im) (cap - im)]).run Tryd.prog w' = .ok (.tuple #[]) (w'.setRow g (splice R im (List.replicate (n - im) (.pointer none))).toArray) := fun ty =>
        run_clear_row w' 67 81 ty (.pointer none) Tryd.underlying67 zero63 rfl rfl g im (n - im) (cap - im) (by omega) R 81 HK.out (by have := HR.out; omega)
      go_enter Tryd.func60, Tryd.ntmps60
      go_wp2_with (with_reducible refine Lib.wpList_append_run _ rfl (.tmp 32) (.tmp 33) 67 67 rfl _ _ rfl rfl _ _ (hrun _) ?_)
      go_ret
      exact Repl.own (setRow_heap _ g _ _ 81 _ HK.out) ((splice_len (by have := HR.out; rw [List.length_replicate]; omega)).trans HR.out) hr hm (by rw [splice_lo (by have := HR.out; omega) (Nat.le_refl _), HTK.out]) HTL.out (gby_row HGR.out _)
    · have d1 : decide (im < n) = false := by simp; omega
      go_enter Tryd.func60, Tryd.ntmps60
      go_wp2_with (with_reducible refine Lib.wpList_append_run _ rfl (.tmp 32) (.tmp 33) 67 67 rfl _ _ rfl rfl _ _ (hrun _) ?_)
      go_ret
      exact Repl.own HK.out HR.out hr hm HTK.out HTL.out HGR.out
theorem app_make (h : Rp w g n cap xs Z Av m capv vs i j) (q tot : Nat) (hq : i < tot) (hr : cap < tot) (ht : tot ≤ 6291456) :
    ∃ w' R k c, (∀ ty, (Builtin.append_ #[67, 3] ty #[.slice (some ⟨g, 0, none⟩) i cap, .int .i64 ((tot - i : Nat) : Int)]).run Tryd.prog (w.drewN q) = .ok (.slice (some ⟨k, 0, none⟩) tot c) w') ∧ w'.heap[k]? = some (.cells (R : List Value).toArray 81 (0, 0)) ∧ R.length = c ∧ tot ≤ c ∧ c ≤ maxLen ∧ R.take i = xs.take i ∧ w.grownBy w' (some g) ∧ w.heap.size ≤ k ∧ Below w.heap.size w w' := by
  obtain ⟨x, hx, x1, x2, x3⟩ := info63x
  have hl : (xs ++ Z).length = cap := by rw [List.length_append, h.xl, h.hc]
  have hij := h.ij
  have hjn := h.jn
  have hxl := h.xl
  have hn := h.hn
  have hc := h.hc
  have e0 : i + (tot - i) = tot := by omega
  have hml : tot ≤ maxLen := by simp only [maxLen]; omega
  have hge := grownCap_ge (w.drewN q) tot cap 81
  have hle := grownCap_le_maxLen (w.drewN q) tot cap 81 hml
  have hold : (Builtin.firstCells x.size i (.slice (some ⟨g, 0, none⟩) i cap)).run Tryd.prog (w.drewN q).drew = .ok (xs.take i).toArray (w.drewN q).drew :=
    run_firstCells_some (P := Tryd.prog) (w.drewN q).drew x.size i ⟨g, 0, none⟩ i cap (xs.take i) (by rw [x2]; simp; omega) (fun r u hr => by
      rw [add_at, Nat.zero_add]
      show w.cell? _ = _
      rw [row_cell h.hg]
      rw [List.getElem?_take] at hr
      split at hr
      · rw [List.getElem?_append_left (by omega)]; exact hr
      · cases hr)
  have hrun := fun ty => Lib.run_append_grow_zeros (P := Tryd.prog) (w.drewN q) 67 3 ty 81 x (.pointer none) .i64 .i64 Tryd.underlying67 Tryd.underlying3 hx x1 (some ⟨g, 0, none⟩) i cap (xs.take i) hold (tot - i) (by omega) (by omega) (by omega) (by omega) (by rw [x3]; omega) (growslice_fits (by omega) (by rw [x3]; omega))
  rw [e0] at hrun
  refine ⟨_, xs.take i ++ (List.replicate (tot - i) (.pointer none) ++ List.replicate (grownCap (w.drewN q) tot cap 81 - tot) (.pointer none)), _, _, fun ty => hrun ty, ?_, ?_, hge, hle, ?_, ?_, Nat.le_refl _, ?_⟩
  · have e := heap_alloc_new (w.drewN q).drew (.cells ((xs.take i).toArray ++ Builtin.zeroCells (Value.pointer none).cells (tot - i) ++ Builtin.zeroCells (Value.pointer none).cells (grownCap (w.drewN q) tot cap 81 - tot)) 81)
    refine Eq.trans e ?_
    refine congrArg (fun a => some (Obj.cells a 81 (0, 0))) ?_
    apply Array.ext'
    simp [zeros63]
  · simp; omega
  · exact List.take_left' (by simp; omega)
  · exact ⟨rfl, rfl, rfl, by simp, fun r hr _ => old_alloc (w.drewN q) _ hr⟩
  · exact ⟨rfl, rfl, rfl, by simp, fun r hr => old_alloc (w.drewN q) _ hr⟩
set_option maxHeartbeats 4000000 in
set_option maxRecDepth 100000 in
theorem rep2 (h : Rp w g n cap xs Z Av m capv vs i j) (hjn : j < n) (hroom : cap < i + m + (n - j)) :
    Calls Tryd.prog 60 #[.slice (some ⟨g, 0, none⟩) n cap, .int .i64 (i : Int), .int .i64 (j : Int), .slice Av m capv] w (Repl w g (xs.take i ++ (vs ++ xs.drop j))) := by
  have H := Lib.hid h
  have H2 := Lib.hid (fun q tot h1 h2 h3 => app_make h q tot h1 h2 h3)
  obtain ⟨hg, xl, hc, hm, hn, mm, vl, _, src, ij, jn, x1, v1⟩ := h
  have hcap : n ≤ cap := by omega
  generalize hNJ : n - j = nj at *
  generalize hIM : i + m = im at *
  generalize hTOT : im + nj = tot at *
  have HNJ := Lib.hid hNJ
  have HIM := Lib.hid hIM
  have HTOT := Lib.hid hTOT
  have htm : tot ≤ 6291456 := by omega
  have i0 : (i : Int) ≤ (j : Int) := by omega
  have i1 : (j : Int) ≤ (n : Int) := by omega
  have i2 : (j : Int) ≤ (cap : Int) := by omega
  have i3 : (i : Int) ≤ (cap : Int) := by omega
  have hij1 : ¬ (i : Int) = (j : Int) := by omega
  have hij2 : ((i : Int) == (j : Int)) = false := by simp; omega
  have hij3 : ¬ i = j := by omega
  have hjn1 : ¬ (j : Int) = (n : Int) := by omega
  have hjn2 : ((j : Int) == (n : Int)) = false := by simp; omega
  have hjn3 : ¬ j = n := by omega
  have wq1 : IntKind.i64.wrap ((i : Int) + (m : Int)) = (im : Int) := (IntWalk.i64_in _ (by omega)).trans (by omega)
  have wq2 : IntKind.i64.wrap ((im : Int) + (nj : Int)) = (tot : Int) := (IntWalk.i64_in _ (by omega)).trans (by omega)
  have e1 : (i : Int) + (m : Int) = (im : Int) := by omega
  have wq3 : IntKind.i64.wrap (im : Int) = (im : Int) := IntWalk.i64_in _ (by omega)
  have wq4 : IntKind.i64.wrap ((tot : Int) - (i : Int)) = ((tot - i : Nat) : Int) := (IntWalk.i64_in _ (by omega)).trans (by omega)
  have d1 : decide (cap < tot) = true := by simp; omega
  have i4 : (i : Int) ≤ (tot : Int) := by omega
  have i5 : (im : Int) ≤ (tot : Int) := by omega
  have n1 : (cap = j) = False := by simp; omega
  have n2 : (cap = i) = False := by simp; omega
  have hz : (if cap = 0 then none else some (⟨g, 0, none⟩ : Addr)) = some ⟨g, 0, none⟩ := by simp; omega
  clear hg xl hc src x1 v1 hIM hTOT vl
  go_enter Tryd.func60, Tryd.ntmps60
  go_wp2_with fail
  go_quiet (fail)
  obtain ⟨w', R, k, c, hrun, hk, hR, hlc, hcm, htk, hgr, hnew, hbl⟩ := H2.out nq tot (by omega) hroom htm
  have HK := Lib.hid hk
  have HR := Lib.hid (And.intro hR htk)
  have HGR := Lib.hid hgr
  have HGK := Lib.hid (show g ≠ k by have := lt_of_heap H.out.hg; omega)
  have HG0 := Lib.hid (show w'.heap[g]? = some (.cells (xs ++ Z).toArray 81 (0, 0)) from (hbl.block _ (lt_of_heap H.out.hg)).trans H.out.hg)
  have HV := Lib.hid (show 0 < vs.length → ∃ ad, Av = some ad ∧ ∀ q v, vs[q]? = some v → w'.cell? (ad.add q) = some v from fun h0 => by
    obtain ⟨kv, rfl, _, ⟨cc, hcc, _⟩, hs⟩ := H.out.src (by have := H.out.vl; omega)
    refine ⟨_, rfl, fun q v hq => ?_⟩
    rw [add_at, Nat.zero_add, World.cell?_of_block (w := w) (hbl.block _ (lt_of_heap hcc))]
    exact hs q v hq)
  have nc1 : (c = i) = False := by simp; omega
  have nc2 : (c = im) = False := by have h1 := HTOT.out; have h2 := HNJ.out; simp; omega
  have hzk : (if c = 0 then none else some (⟨k, 0, none⟩ : Addr)) = some ⟨k, 0, none⟩ := by simp; omega
  have HCL := Lib.hid hlc
  have HNEW := Lib.hid hnew
  clear hk hR htk hgr hnew hbl
  go_wp2_with (first
    | (with_reducible refine Lib.wpList_append_run _ rfl (.tmp 63) (.tmp 66) 67 3 rfl _ _ rfl rfl _ _ (hrun _) ?_)
    | (with_reducible refine wpList_copy_row rfl (.tmp 70) (.tmp 71) 67 67 rfl 81 Tryd.underlying67 info63s _ _ _ _ _ _ rfl rfl k i R 81 HK.out vs ?c1 ?c2 ?c3 H.out.v1 ?_))
  case c1 => have h1 := H.out.vl; have h2 := HIM.out; have h3 := HTOT.out; simp only [Nat.min_def]; split <;> omega
  case c2 => first | exact fun h0 => ⟨rfl, HV.out h0⟩ | exact fun h0 => HV.out h0
  case c3 => have h1 := H.out.vl; have h2 := HR.out.1; have h3 := HIM.out; have h4 := HTOT.out; have h5 := HCL.out; omega
  intro w1 hw1
  have HL0 := Lib.hid (show i ≤ R.length ∧ i + vs.length = im ∧ im ≤ R.length ∧ R.length = c by
    have h1 := H.out.vl; have h2 := HR.out.1; have h3 := HIM.out; have h4 := HTOT.out; have h5 := HCL.out; omega)
  have HG1 := Lib.hid (show w.grownBy w1 (some g) by rw [hw1.out]; exact ⟨HGR.out.os, HGR.out.tape, HGR.out.output, by have := HGR.out.size; simpa using this, fun q hq hn => (setRow_other _ _ _ _ (by have := HNEW.out; omega)).trans (HGR.out.block q hq hn)⟩)
  have HR1 := Lib.hid (show w1.heap[k]? = some (.cells (splice R i vs).toArray 81 (0, 0)) by rw [hw1.out]; exact setRow_heap _ k _ _ 81 _ HK.out)
  have HG2 := Lib.hid (show w1.heap[g]? = some (.cells (xs ++ Z).toArray 81 (0, 0)) by rw [hw1.out]; exact (setRow_other _ _ _ _ HGK.out).trans HG0.out)
  have HC1 := Lib.hid (show (splice R i vs).length = c ∧ (splice R i vs).take im = xs.take i ++ vs by
    have h := HL0.out
    refine ⟨(splice_len (by omega)).trans h.2.2.2, ?_⟩
    rw [splice_at h.1 h.2.1.symm, HR.out.2])
  generalize splice R i vs = C1 at HR1 HC1
  have HD := Lib.hid (show (xs.drop j).length = nj by have h1 := H.out.xl; have h2 := HNJ.out; simp; omega)
  have HSRC := Lib.hid (show ∀ q v, (xs.drop j)[q]? = some v → w1.drew.cell? ((⟨g, j, none⟩ : Addr).add q) = some v from fun q v hq => by
    rw [add_at]
    show w1.cell? _ = _
    have hl : q < (xs.drop j).length := (List.getElem?_eq_some_iff.1 hq).1
    rw [List.length_drop] at hl
    rw [row_cell HG2.out, List.getElem?_append_left (by omega)]
    rwa [List.getElem?_drop] at hq)
  have HX1 := Lib.hid (show ∀ u ∈ xs.drop j, u.oneCell' = true from fun u hu => H.out.x1 u (List.mem_of_mem_drop hu))
  have HFIT := Lib.hid (show im + (xs.drop j).length ≤ C1.length by have h1 := HD.out; have h2 := HC1.out.1; have h3 := HTOT.out; have h4 := HCL.out; omega)
  have HMIN := Lib.hid (show (xs.drop j).length = Nat.min nj (tot - im) by have h1 := HD.out; have h3 := HTOT.out; simp only [Nat.min_def]; split <;> omega)
  clear hw1
  go_wp2_with fail
  go_region_held3 (fun _ => True) (exact trivial) (first
    | (refine step_copy_row rfl (.tmp 78) (.tmp 81) 67 67 rfl 81 Tryd.underlying67 info63s _ _ _ _ _ _ rfl rfl k im C1 81 HR1.out (xs.drop j) HMIN.out (fun _ => ⟨rfl, _, rfl, HSRC.out⟩) HFIT.out HX1.out ?_; intro w2 hw2))
  have HGB := Lib.hid (show w.grownBy w2 (some g) by rw [hw2.out]; exact ⟨HG1.out.os, HG1.out.tape, HG1.out.output, by have := HG1.out.size; simpa using this, fun q hq hn => (setRow_other _ _ _ _ (by have := HNEW.out; omega)).trans (HG1.out.block q hq hn)⟩)
  have HR2 := Lib.hid (show w2.heap[k]? = some (.cells (splice C1 im (xs.drop j)).toArray 81 (0, 0)) by rw [hw2.out]; exact setRow_heap _ k _ _ 81 _ HR1.out)
  have HC2 := Lib.hid (show (splice C1 im (xs.drop j)).length = c ∧ (splice C1 im (xs.drop j)).take tot = xs.take i ++ (vs ++ xs.drop j) by
    have h1 := HFIT.out; have h2 := HD.out; have h3 := HTOT.out
    refine ⟨(splice_len h1).trans HC1.out.1, ?_⟩
    rw [splice_at (by omega) (by omega), HC1.out.2, List.append_assoc])
  have HTL := Lib.hid (targ_len H.out.xl H.out.vl ij jn HNJ.out HIM.out HTOT.out)
  generalize splice C1 im (xs.drop j) = C2 at HR2 HC2
  clear hw2
  go_wp2_with fail
  go_ret
  exact Repl.new HR2.out HC2.out.1 HCL.out hcm HC2.out.2 HTL.out HGB.out HNEW.out
/-- All cases. -/
theorem rep (h : Rp w g n cap xs Z Av m capv vs i j) :
    Calls Tryd.prog 60 #[.slice (some ⟨g, 0, none⟩) n cap, .int .i64 (i : Int), .int .i64 (j : Int), .slice Av m capv] w (Repl w g (xs.take i ++ (vs ++ xs.drop j))) := by
  have hjn := h.jn
  rcases Nat.lt_or_ge j n with h1 | h1
  · rcases Nat.lt_or_ge cap (i + m + (n - j)) with h2 | h2
    · exact rep2 h h1 h2
    · rcases Nat.lt_or_ge j (i + m) with h3 | h3
      · exact rep4 h h1 h2 h3
      · exact rep3 h h1 h2 h3
  · obtain rfl : j = n := by omega
    exact rep1 h
end
end Go.Proofs.YtdpjcbljeklhmaaDoor
