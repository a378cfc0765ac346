/-
  What slices.Replace of a row of chunks answers: the elements ahead, the new ones, those behind; in the same block, or in a new one. Conditions: i < j ≤ len(s), the new elements lie in another block, at most 2^21 of each.
-/
import Derived.Test.YtdpjcbljeklhmaaDoorB4
namespace Go.Proofs.YtdpjcbljeklhmaaDoor
open Go.RowKit ObGap

/-- What Replace leaves. -/
def Repl (w : World) (g : Nat) (target : List Value) (e : Ending) (w' : World) : Prop :=
  ∃ V', e = .returned V' ∧ w'.ownsRow 0 81 1 V' target.length target ∧ w.grownBy w' (some g) ∧ (∀ k, V'.ownBlock = some k → k = g ∨ w.heap.size ≤ k)
theorem splice_len {L cs : List Value} {o : Nat} (h : o + cs.length ≤ L.length) : (splice L o cs).length = L.length := length_splice L o cs h
/-- The slice's row, and that of the new ones. -/
structure Rp (w : World) (g n cap : Nat) (xs Z : List Value) (Av : Option Addr) (m capv : Nat) (vs : List Value) (i j : Nat) : Prop where
  hg : w.heap[g]? = some (.cells (xs ++ Z).toArray 81 (0, 0))
  xl : xs.length = n
  hc : cap = n + Z.length
  hm : cap ≤ maxLen
  hn : n ≤ 2097152
  mm : m ≤ 2097152
  vl : vs.length = m
  nl : m = 0 → Av = none ∧ capv = 0
  src : 0 < m → ∃ k, Av = some ⟨k, 0, none⟩ ∧ k ≠ g ∧ (∃ c, w.heap[k]? = some (.cells c 81 (0, 0)) ∧ c.size ≠ 0) ∧ ∀ j u, vs[j]? = some u → w.cell? ⟨k, j, none⟩ = some u
  ij : i < j
  jn : j ≤ n
  x1 : ∀ u ∈ xs, u.oneCell' = true
  v1 : ∀ u ∈ vs, u.oneCell' = true
theorem Rp.drews {w : World} {g n cap : Nat} {xs Z : List Value} {Av : Option Addr} {m capv : Nat} {vs : List Value} {i j : Nat} (h : Rp w g n cap xs Z Av m capv vs i j) (q : Nat) : Rp (w.drewN q) g n cap xs Z Av m capv vs i j :=
  ⟨h.hg, h.xl, h.hc, h.hm, h.hn, h.mm, h.vl, h.nl, h.src, h.ij, h.jn, h.x1, h.v1⟩
theorem Rp.source {w : World} {g n cap : Nat} {xs Z : List Value} {Av : Option Addr} {m capv : Nat} {vs : List Value} {i j : Nat} (h : Rp w g n cap xs Z Av m capv vs i j) (h0 : 0 < vs.length) : ∃ ad, Av = some ad ∧ ∀ j v, vs[j]? = some v → w.cell? (ad.add j) = some v := by
  obtain ⟨k, rfl, _, _, hs⟩ := h.src (by have := h.vl; omega)
  exact ⟨_, rfl, fun j v hj => by rw [add_at, Nat.zero_add]; exact hs j v hj⟩
theorem row_cell {w : World} {g : Nat} {L : List Value} {t : TypeId} (h : w.heap[g]? = some (.cells L.toArray t (0, 0))) (j : Nat) : w.cell? ⟨g, j, none⟩ = L[j]? := by
  simp [World.cell?, h]
theorem splice_hi {L cs : List Value} {o k : Nat} (ho : o ≤ L.length) (h : o + cs.length ≤ k) : (splice L o cs)[k]? = L[k]? := by
  unfold splice
  have e : (L.take o).length = o := by simp; omega
  rw [List.getElem?_append_right (by omega), e, List.getElem?_append_right (by omega), List.getElem?_drop]
  congr 1; omega
theorem splice_lo {L cs : List Value} {o k : Nat} (ho : o ≤ L.length) (h : k ≤ o) : (splice L o cs).take k = L.take k := by
  unfold splice
  rw [List.take_append_of_le_length (by simp; omega), List.take_take]; congr 1; omega
theorem splice_at {L cs : List Value} {o k : Nat} (ho : o ≤ L.length) (h : k = o + cs.length) : (splice L o cs).take k = L.take o ++ cs := by
  subst h
  unfold splice
  have e : (L.take o).length = o := by simp; omega
  rw [← List.append_assoc, List.take_append_of_le_length (by simp only [List.length_append, e]; omega)]
  exact List.take_of_length_le (by simp only [List.length_append, e]; omega)
theorem gby_refl (w : World) (r : Option Nat) : w.grownBy w r := ⟨rfl, rfl, rfl, Nat.le_refl _, fun _ _ _ => rfl⟩
theorem gby_row {w w1 : World} {g : Nat} (h : w.grownBy w1 (some g)) (R : Array Value) : w.grownBy (w1.setRow g R) (some g) :=
  ⟨h.os, h.tape, h.output, by simpa using h.size, fun k hk hn => (setRow_other _ _ _ _ (fun e => hn (by rw [e]))).trans (h.block k hk hn)⟩
theorem gby_drews {w w1 : World} {r : Option Nat} (h : w.grownBy w1 r) (n : Nat) : w.grownBy (w1.drewN n) r := ⟨h.os, h.tape, h.output, h.size, h.block⟩
theorem gby_drew {w w1 : World} {r : Option Nat} (h : w.grownBy w1 r) : w.grownBy w1.drew r := ⟨h.os, h.tape, h.output, h.size, h.block⟩
theorem own_mk {w : World} {g cap tot : Nat} {R target : List Value} (h : w.heap[g]? = some (.cells R.toArray 81 (0, 0))) (h1 : R.length = cap) (h2 : tot ≤ cap) (h3 : cap ≤ maxLen) (h4 : R.take tot = target) (h5 : target.length = tot) : w.ownsRow 0 81 1 (.slice (some ⟨g, 0, none⟩) tot cap) target.length target :=
  ⟨by omega, .inr ⟨g, cap, R.toArray, by rw [h5], Nat.zero_le _, h, by omega, h3, by simpa using h1, by rw [h5]; simpa using h4⟩⟩
/-- Replaced in its own block. -/
theorem Repl.own {w w' : World} {g cap tot : Nat} {R target : List Value} (h : w'.heap[g]? = some (.cells R.toArray 81 (0, 0))) (h1 : R.length = cap) (h2 : tot ≤ cap) (h3 : cap ≤ maxLen) (h4 : R.take tot = target) (h5 : target.length = tot) (hg : w.grownBy w' (some g)) : Repl w g target (.returned (.slice (some ⟨g, 0, none⟩) tot cap)) w' :=
  ⟨_, rfl, own_mk h h1 h2 h3 h4 h5, hg, fun k hk => by
    simp only [Value.ownBlock, Option.some.injEq] at hk; exact .inl hk.symm⟩
/-- Replaced in a new block. -/
theorem Repl.new {w w' : World} {g k cap tot : Nat} {R target : List Value} (h : w'.heap[k]? = some (.cells R.toArray 81 (0, 0))) (h1 : R.length = cap) (h2 : tot ≤ cap) (h3 : cap ≤ maxLen) (h4 : R.take tot = target) (h5 : target.length = tot) (hg : w.grownBy w' (some g)) (hk : w.heap.size ≤ k) : Repl w g target (.returned (.slice (some ⟨k, 0, none⟩) tot cap)) w' :=
  ⟨_, rfl, own_mk h h1 h2 h3 h4 h5, hg, fun q hq => by
    simp only [Value.ownBlock, Option.some.injEq] at hq; exact .inr (by omega)⟩
theorem targ_len {xs vs : List Value} {n m i j nj im tot : Nat} (h1 : xs.length = n) (h2 : vs.length = m) (ij : i < j) (jn : j ≤ n) (e1 : n - j = nj) (e2 : i + m = im) (e3 : im + nj = tot) : (xs.take i ++ (vs ++ xs.drop j)).length = tot := by simp; omega
theorem zero63 (w : World) : (zeroValue 81).run Tryd.prog w = .ok (.pointer none) w := Tryd.zeroValue81 w
set_option maxHeartbeats 4000000 in
set_option maxRecDepth 100000 in
theorem rep3 {w : World} {g n cap : Nat} {xs Z : List Value} {Av : Option Addr} {m capv : Nat} {vs : List Value} {i j : Nat} (h : Rp w g n cap xs Z Av m capv vs i j) (hjn : j < n) (hroom : i + m + (n - j) ≤ cap) (him : i + m ≤ j) :
    Calls Tryd.prog 60 #[.slice (some ⟨g, 0, none⟩) n cap, .int .i64 (i : Int), .int .i64 (j : Int), .slice Av m capv] w (Repl w g (xs.take i ++ (vs ++ xs.drop j))) := by
  have H := Lib.hid h
  obtain ⟨hg, xl, hc, hm, hn, mm, vl, _, src, ij, jn, x1, v1⟩ := h
  have hcap : n ≤ cap := by omega
  generalize hNJ : n - j = nj at *
  generalize hIM : i + m = im at *
  generalize hTOT : im + nj = tot at *
  have HNJ := Lib.hid hNJ
  have HIM := Lib.hid hIM
  have HTOT := Lib.hid hTOT
  have i0 : (i : Int) ≤ (j : Int) := by omega
  have i1 : (j : Int) ≤ (n : Int) := by omega
  have i2 : (j : Int) ≤ (cap : Int) := by omega
  have i3 : (i : Int) ≤ (cap : Int) := by omega
  have hij1 : ¬ (i : Int) = (j : Int) := by omega
  have hij2 : ((i : Int) == (j : Int)) = false := by simp; omega
  have hij3 : ¬ i = j := by omega
  have hjn1 : ¬ (j : Int) = (n : Int) := by omega
  have hjn2 : ((j : Int) == (n : Int)) = false := by simp; omega
  have hjn3 : ¬ j = n := by omega
  have wq1 : IntKind.i64.wrap ((i : Int) + (m : Int)) = (im : Int) := (IntWalk.i64_in _ (by omega)).trans (by omega)
  have wq2 : IntKind.i64.wrap ((im : Int) + (nj : Int)) = (tot : Int) := (IntWalk.i64_in _ (by omega)).trans (by omega)
  have e1 : (i : Int) + (m : Int) = (im : Int) := by omega
  have wq3 : IntKind.i64.wrap (im : Int) = (im : Int) := IntWalk.i64_in _ (by omega)
  have d1 : decide (cap < tot) = false := by simp; omega
  have d2 : decide (im ≤ j) = true := by simp; omega
  have i4 : (i : Int) ≤ (tot : Int) := by omega
  have i5 : (im : Int) ≤ (tot : Int) := by omega
  have i6 : (tot : Int) ≤ (cap : Int) := by omega
  have i7 : (tot : Int) ≤ (n : Int) := by omega
  have n1 : (cap = j) = False := by simp; omega
  have n2 : (cap = i) = False := by simp; omega
  have n3 : (cap = im) = False := by simp; omega
  have hz : (if cap = 0 then none else some (⟨g, 0, none⟩ : Addr)) = some ⟨g, 0, none⟩ := by simp; omega
  clear hg xl hc src x1 v1 hIM hTOT vl
  go_enter Tryd.func60, Tryd.ntmps60
  go_wp2_with fail
  go_quiet (fail)
  go_wp2_with (with_reducible refine wpList_copy_row rfl (.tmp 95) (.tmp 96) 67 67 rfl 81 Tryd.underlying67 info63s _ _ _ _ _ _ rfl rfl g i (xs ++ Z) 81 (H.out.drews _).hg vs ?c1 ?c2 ?c3 H.out.v1 ?_)
  case c1 => have h1 := H.out.vl; have h2 := HIM.out; have h3 := HTOT.out; simp only [Nat.min_def]; split <;> omega
  case c2 => first | exact fun h0 => ⟨rfl, H.out.source h0⟩ | exact fun h0 => H.out.source h0
  case c3 => have h1 := H.out.vl; have h2 := H.out.xl; have h3 := HIM.out; rw [List.length_append]; omega
  intro w1 hw1
  have HL0 := Lib.hid (show i ≤ (xs ++ Z).length ∧ i + vs.length = im ∧ im ≤ (xs ++ Z).length ∧ (xs ++ Z).length = cap by
    have h1 := H.out.vl; have h2 := H.out.xl; have h3 := HIM.out; have h4 := H.out.hc; rw [List.length_append]; omega)
  have HG1 := Lib.hid (show w.grownBy w1 (some g) by rw [hw1.out]; exact gby_row (gby_drews (gby_refl _ _) _) _)
  have HR1 := Lib.hid (show w1.heap[g]? = some (.cells (splice (xs ++ Z) i vs).toArray 81 (0, 0)) by rw [hw1.out]; exact setRow_heap _ g _ _ 81 _ H.out.hg)
  have HC1 := Lib.hid (show (splice (xs ++ Z) i vs).length = cap ∧ (splice (xs ++ Z) i vs).take im = xs.take i ++ vs ∧ ∀ k, im ≤ k → (splice (xs ++ Z) i vs)[k]? = (xs ++ Z)[k]? by
    have h := HL0.out
    refine ⟨(splice_len (by omega)).trans h.2.2.2, ?_, fun k hk => splice_hi h.1 (by omega)⟩
    rw [splice_at h.1 h.2.1.symm, List.take_append_of_le_length (by have := H.out.xl; omega)])
  obtain ⟨C1, hC1⟩ : ∃ C1, C1 = splice (xs ++ Z) i vs := ⟨_, rfl⟩
  rw [← hC1] at HR1 HC1
  have HD := Lib.hid (show (xs.drop j).length = nj by have h1 := H.out.xl; have h2 := HNJ.out; simp; omega)
  have HSRC := Lib.hid (show ∀ q v, (xs.drop j)[q]? = some v → w1.drew.cell? ((⟨g, j, none⟩ : Addr).add q) = some v from fun q v hq => by
    rw [add_at]
    show w1.cell? _ = _
    have hl : q < (xs.drop j).length := (List.getElem?_eq_some_iff.1 hq).1
    rw [List.length_drop] at hl
    rw [row_cell HR1.out, HC1.out.2.2 _ (by omega), List.getElem?_append_left (by omega)]
    rwa [List.getElem?_drop] at hq)
  have HX1 := Lib.hid (show ∀ u ∈ xs.drop j, u.oneCell' = true from fun u hu => H.out.x1 u (List.mem_of_mem_drop hu))
  have HFIT := Lib.hid (show im + (xs.drop j).length ≤ C1.length by have h1 := HD.out; have h2 := HC1.out.1; have h3 := HTOT.out; omega)
  have HMIN := Lib.hid (show (xs.drop j).length = Nat.min nj (tot - im) by have h1 := HD.out; have h3 := HTOT.out; simp only [Nat.min_def]; split <;> omega)
  clear hw1 hC1
  go_wp2_with fail
  go_region_held3 (fun _ => True) (exact trivial) (first
    | (refine step_copy_row rfl (.tmp 103) (.tmp 106) 67 67 rfl 81 Tryd.underlying67 info63s _ _ _ _ _ _ rfl rfl g im C1 81 HR1.out (xs.drop j) HMIN.out (fun _ => ⟨rfl, _, rfl, HSRC.out⟩) HFIT.out HX1.out ?_; intro w2 hw2))
  have HG2 := Lib.hid (show w.grownBy w2 (some g) by rw [hw2.out]; exact gby_row (gby_drew HG1.out) _)
  have HR2 := Lib.hid (show w2.heap[g]? = some (.cells (splice C1 im (xs.drop j)).toArray 81 (0, 0)) by rw [hw2.out]; exact setRow_heap _ g _ _ 81 _ HR1.out)
  have HC2 := Lib.hid (show (splice C1 im (xs.drop j)).length = cap ∧ (splice C1 im (xs.drop j)).take tot = xs.take i ++ (vs ++ xs.drop j) by
    have h1 := HFIT.out; have h2 := HD.out; have h3 := HTOT.out
    refine ⟨(splice_len h1).trans HC1.out.1, ?_⟩
    rw [splice_at (by omega) (by omega), HC1.out.2.1, List.append_assoc])
  have HTL := Lib.hid (targ_len H.out.xl H.out.vl ij jn HNJ.out HIM.out HTOT.out)
  generalize splice C1 im (xs.drop j) = C2 at HR2 HC2
  clear hw2
  rcases Nat.lt_or_ge tot n with htn | htn
  · have n4 : (cap = tot) = False := by simp; omega
    have hcl : ∀ ty, (Builtin.clear_ #[67] ty #[.slice (some ⟨g, tot, none⟩) (n - tot) (cap - tot)]).run Tryd.prog w2 = .ok (.tuple #[]) (w2.setRow g (splice C2 tot (List.replicate (n - tot) (.pointer none))).toArray) := fun ty =>
      run_clear_row w2 67 81 ty (.pointer none) Tryd.underlying67 zero63 rfl rfl g tot (n - tot) (cap - tot) (by omega) C2 81 HR2.out (by have := HC2.out.1; omega)
    go_wp2_with fail
    go_ret
    exact Repl.own (setRow_heap _ g _ _ 81 _ HR2.out) ((splice_len (by have := HC2.out.1; rw [List.length_replicate]; omega)).trans HC2.out.1) hroom hm (by rw [splice_lo (by have := HC2.out.1; omega) (Nat.le_refl _), HC2.out.2]) HTL.out (gby_row HG2.out _)
  · obtain rfl : n = tot := by omega
    have hcl : ∀ A c ty, (Builtin.clear_ #[67] ty #[.slice (some A) 0 c]).run Tryd.prog w2 = .ok (.tuple #[]) w2 := fun A c ty => run_clear_none w2 67 81 ty Tryd.underlying67 A c
    by_cases hcn : cap = n
    · subst hcn
      go_wp2_with fail
      go_ret
      exact Repl.own HR2.out HC2.out.1 hroom hm HC2.out.2 HTL.out HG2.out
    · have n4 : (cap = n) = False := by simp [hcn]
      go_wp2_with fail
      go_ret
      exact Repl.own HR2.out HC2.out.1 hroom hm HC2.out.2 HTL.out HG2.out
end Go.Proofs.YtdpjcbljeklhmaaDoor
