/-
  What slices.Replace of a row of chunks answers, where there is room and it grows.
-/
import Derived.Test.YtdpjcbljeklhmaaDoorB5
namespace Go.Proofs.YtdpjcbljeklhmaaDoor
open Go.RowKit ObGap

theorem splice_two {L vs D : List Value} {i im tot : Nat} (h1 : i + vs.length = im) (h2 : im + D.length ≤ L.length) (h3 : tot = im + D.length) : (splice (splice L im D) i vs).take tot = L.take i ++ (vs ++ D) := by
  have e1 : (splice L im D).take i = L.take i := splice_lo (by omega) (by omega)
  have e2 : (splice L im D).drop (i + vs.length) = D ++ L.drop (im + D.length) := by
    unfold splice
    rw [h1, List.drop_append_of_le_length (by simp; omega), List.drop_of_length_le (by simp; omega), List.nil_append]
  have e3 : splice (splice L im D) i vs = (L.take i ++ (vs ++ D)) ++ L.drop (im + D.length) := by
    rw [splice, e1, e2]; simp
  rw [e3]
  exact List.take_left' (by simp; omega)
theorem row_shape {w : World} {g : Nat} {c : Array Value} {t : TypeId} (h : w.heap[g]? = some (.cells c t (0, 0))) : w.shape? g = some (t, c.size) := by simp [World.shape?, h]
theorem row_frozen {w : World} {g : Nat} {c : Array Value} {t : TypeId} (h : w.heap[g]? = some (.cells c t (0, 0))) (i : Nat) : w.frozen? ⟨g, i, none⟩ = false := by simp [World.frozen?, h]
set_option maxHeartbeats 4000000 in
set_option maxRecDepth 100000 in
theorem rep4 {w : World} {g n cap : Nat} {xs Z : List Value} {Av : Option Addr} {m capv : Nat} {vs : List Value} {i j : Nat} (h : Rp w g n cap xs Z Av m capv vs i j) (hjn : j < n) (hroom : i + m + (n - j) ≤ cap) (him : j < i + m) :
    Calls Tryd.prog 60 #[.slice (some ⟨g, 0, none⟩) n cap, .int .i64 (i : Int), .int .i64 (j : Int), .slice Av m capv] w (Repl w g (xs.take i ++ (vs ++ xs.drop j))) := by
  have H := Lib.hid h
  obtain ⟨hg, xl, hc, hm, hn, mm, vl, _, src, ij, jn, x1, v1⟩ := h
  have hcap : n ≤ cap := by omega
  generalize hNJ : n - j = nj at *
  generalize hIM : i + m = im at *
  generalize hTOT : im + nj = tot at *
  have HNJ := Lib.hid hNJ
  have HIM := Lib.hid hIM
  have HTOT := Lib.hid hTOT
  have i0 : (i : Int) ≤ (j : Int) := by omega
  have i1 : (j : Int) ≤ (n : Int) := by omega
  have i2 : (j : Int) ≤ (cap : Int) := by omega
  have i3 : (i : Int) ≤ (cap : Int) := by omega
  have hij1 : ¬ (i : Int) = (j : Int) := by omega
  have hij2 : ((i : Int) == (j : Int)) = false := by simp; omega
  have hij3 : ¬ i = j := by omega
  have hjn1 : ¬ (j : Int) = (n : Int) := by omega
  have hjn2 : ((j : Int) == (n : Int)) = false := by simp; omega
  have hjn3 : ¬ j = n := by omega
  have wq1 : IntKind.i64.wrap ((i : Int) + (m : Int)) = (im : Int) := (IntWalk.i64_in _ (by omega)).trans (by omega)
  have wq2 : IntKind.i64.wrap ((im : Int) + (nj : Int)) = (tot : Int) := (IntWalk.i64_in _ (by omega)).trans (by omega)
  have e1 : (i : Int) + (m : Int) = (im : Int) := by omega
  have wq3 : IntKind.i64.wrap (im : Int) = (im : Int) := IntWalk.i64_in _ (by omega)
  have d1 : decide (cap < tot) = false := by simp; omega
  have d2 : decide (im ≤ j) = false := by simp; omega
  have i4 : (i : Int) ≤ (tot : Int) := by omega
  have i5 : (im : Int) ≤ (tot : Int) := by omega
  have i6 : (tot : Int) ≤ (cap : Int) := by omega
  have n1 : (cap = j) = False := by simp; omega
  have n2 : (cap = i) = False := by simp; omega
  have n3 : (cap = im) = False := by simp; omega
  have hz : (if cap = 0 then none else some (⟨g, 0, none⟩ : Addr)) = some ⟨g, 0, none⟩ := by simp; omega
  obtain ⟨k, rfl, hkg, ⟨kc, hkc, hk0⟩, hkv⟩ := src (by omega)
  have hov : ∀ q, (callFunc 73 #[.slice (some ⟨g, im, none⟩) (tot - im) (cap - im), .slice (some ⟨k, 0, none⟩) m capv]).run Tryd.prog (w.drewN q) = .ok (.value (.bool false)) (w.drewN q) := fun q => by
    rw [run_callFunc_extern Tryd.func73 (by kernel_rfl) (by kernel_rfl) (by kernel_rfl) (e := Extern.SlicesOverlaps.overlaps #[67, 67] #[4]) (by kernel_rfl),
      Lib.run_overlaps_apart (w.drewN q) 67 4 81 Tryd.underlying67 1 Tryd.sizeOf81 ⟨g, im, none⟩ ⟨k, 0, none⟩ (tot - im) (cap - im) m capv (Ne.symm hkg) 81 81 (xs ++ Z).toArray.size kc.size (row_shape (w := w.drewN q) hg) (row_shape (w := w.drewN q) hkc) hk0 (row_frozen (w := w.drewN q) hg _) (row_frozen (w := w.drewN q) hg _)]
    rfl
  have HKG := Lib.hid hkg
  have HKC := Lib.hid hkc
  have HKV := Lib.hid hkv
  clear hg xl hc src x1 v1 hIM hTOT vl hkg hkc hkv hk0
  have HD := Lib.hid (show (xs.drop j).length = nj by have h1 := H.out.xl; have h2 := HNJ.out; simp; omega)
  have HSRC := Lib.hid (show ∀ q0 q v, (xs.drop j)[q]? = some v → (w.drewN q0).cell? ((⟨g, j, none⟩ : Addr).add q) = some v from fun q0 q v hq => by
    rw [add_at]
    show w.cell? _ = _
    have hl : q < (xs.drop j).length := (List.getElem?_eq_some_iff.1 hq).1
    rw [List.length_drop] at hl
    rw [row_cell H.out.hg, List.getElem?_append_left (by omega)]
    rwa [List.getElem?_drop] at hq)
  have HX1 := Lib.hid (show ∀ u ∈ xs.drop j, u.oneCell' = true from fun u hu => H.out.x1 u (List.mem_of_mem_drop hu))
  have HFIT := Lib.hid (show im + (xs.drop j).length ≤ (xs ++ Z).length by have h1 := HD.out; have h2 := H.out.hc; have h3 := HTOT.out; have h4 := H.out.xl; rw [List.length_append]; omega)
  have HMIN := Lib.hid (show (xs.drop j).length = Nat.min nj (tot - im) by have h1 := HD.out; have h3 := HTOT.out; simp only [Nat.min_def]; split <;> omega)
  go_enter Tryd.func60, Tryd.ntmps60
  go_wp2_with fail
  go_quiet (fail)
  go_wp2_with fail
  obtain ⟨W, hW⟩ : ∃ W, W = w.drewN nq := ⟨_, rfl⟩
  have HW := Lib.hid (show Rp W g n cap xs Z (some ⟨k, 0, none⟩) m capv vs i j by rw [hW]; exact H.out.drews nq)
  have HGW := Lib.hid (show w.grownBy W (some g) by rw [hW]; exact gby_drews (gby_refl _ _) _)
  have HSW := Lib.hid (show ∀ q v, (xs.drop j)[q]? = some v → W.drew.cell? ((⟨g, j, none⟩ : Addr).add q) = some v by rw [hW]; exact fun q v hq => HSRC.out nq q v hq)
  have HKW := Lib.hid (show ∀ j u, vs[j]? = some u → W.cell? ⟨k, j, none⟩ = some u by rw [hW]; exact HKV.out)
  rw [← hW]
  clear hW hov
  go_region_held3 (fun _ => True) (exact trivial) (first
    | (refine step_copy_row rfl (.tmp 126) (.tmp 129) 67 67 rfl 81 Tryd.underlying67 info63s _ _ _ _ _ _ rfl rfl g im (xs ++ Z) 81 HW.out.hg (xs.drop j) HMIN.out (fun _ => ⟨rfl, _, rfl, HSW.out⟩) HFIT.out HX1.out ?_; intro w1 hw1))
  have HG1 := Lib.hid (show w.grownBy w1 (some g) by rw [hw1.out]; exact gby_row (gby_drew HGW.out) _)
  have HR1 := Lib.hid (show w1.heap[g]? = some (.cells (splice (xs ++ Z) im (xs.drop j)).toArray 81 (0, 0)) by rw [hw1.out]; exact setRow_heap _ g _ _ 81 _ HW.out.hg)
  have HV1 := Lib.hid (show ∀ q v, vs[q]? = some v → w1.cell? ((⟨k, 0, none⟩ : Addr).add q) = some v from fun q v hq => by
    rw [add_at, Nat.zero_add, hw1.out]
    have e : (W.drew.setRow g (splice (xs ++ Z) im (xs.drop j)).toArray).cell? ⟨k, q, none⟩ = W.cell? ⟨k, q, none⟩ := World.cell?_of_block (w := W) (setRow_other _ _ _ _ HKG.out)
    rw [e]; exact HKW.out q v hq)
  have HC1 := Lib.hid (show (splice (xs ++ Z) im (xs.drop j)).length = cap ∧ (splice (splice (xs ++ Z) im (xs.drop j)) i vs).take tot = xs.take i ++ (vs ++ xs.drop j) by
    have h1 := HFIT.out; have h2 := HD.out; have h3 := HTOT.out; have h4 := HIM.out; have h5 := H.out.vl; have h6 := H.out.xl
    refine ⟨(splice_len h1).trans (by rw [List.length_append]; have := H.out.hc; omega), ?_⟩
    rw [splice_two (by omega) h1 (by omega), List.take_append_of_le_length (by omega)])
  have HTL := Lib.hid (targ_len H.out.xl H.out.vl ij jn HNJ.out HIM.out HTOT.out)
  generalize splice (xs ++ Z) im (xs.drop j) = C1 at HR1 HC1
  clear hw1
  go_wp2_with (with_reducible refine wpList_copy_row rfl (.tmp 133) (.tmp 134) 67 67 rfl 81 Tryd.underlying67 info63s _ _ _ _ _ _ rfl rfl g i C1 81 HR1.out vs ?c1 ?c2 ?c3 H.out.v1 ?_)
  case c1 => have h1 := H.out.vl; have h2 := HIM.out; have h3 := HTOT.out; simp only [Nat.min_def]; split <;> omega
  case c2 => first | exact fun _ q v hq => (by have := HV1.out q v hq; rwa [add_at, Nat.zero_add] at this) | exact fun _ => ⟨rfl, _, rfl, HV1.out⟩
  case c3 => have h1 := H.out.vl; have h2 := HC1.out.1; have h3 := HIM.out; omega
  intro w2 hw2
  have HR2 := Lib.hid (show w2.heap[g]? = some (.cells (splice C1 i vs).toArray 81 (0, 0)) by rw [hw2.out]; exact setRow_heap _ g _ _ 81 _ HR1.out)
  have HG2 := Lib.hid (show w.grownBy w2 (some g) by rw [hw2.out]; exact gby_row HG1.out _)
  have HL2 := Lib.hid (show (splice C1 i vs).length = cap by
    have h1 := H.out.vl; have h2 := HC1.out.1; have h3 := HIM.out
    exact (splice_len (by omega)).trans h2)
  clear hw2
  go_wp2_with fail
  go_ret
  exact Repl.own HR2.out HL2.out hroom hm HC1.out.2 HTL.out HG2.out
end Go.Proofs.YtdpjcbljeklhmaaDoor
