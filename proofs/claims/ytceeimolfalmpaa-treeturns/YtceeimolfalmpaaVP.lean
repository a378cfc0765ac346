/-
  Two trees held against each other: by the program (Same), by the statements (EqTree). Conditions: at most 20000 nodes, each with at most 1000000 ranges.
-/
import Derived.Test.YtceeimolfalmpaaVO
namespace Go.Proofs.Ytceeimolfalmpaa
open Go.RowKit ObSets ObTree ObTree.Tree

abbrev ndCells (x : Nd) (As : Option Addr) (sl ks : Nat) : Array Value := #[.int .i64 x.kind, .int .i64 x.a, .int .i64 x.b, .slice As sl ks, .int .i64 x.mn, .int .i64 x.mx, .int .i64 x.n]
set_option maxHeartbeats 4000000 in
set_option maxRecDepth 100000 in
theorem eqfunc_any (A A' : Option Addr) (n c m d : Nat) (L M : List Nd) (w : World) (hN : Nr w A L) (hn : L.length = n) (hM : Nr w A' M) (hm : M.length = m) (hnb : n ≤ 20000) (hs : ∀ x ∈ L, x.set.length ≤ 1000000) (hs2 : ∀ x ∈ M, x.set.length ≤ 1000000) :
    Calls Try.prog 36 #[.slice A n c, .slice A' m d, .func (.func 37) #[] #[]] w (RetB w (L = M)) := by
  by_cases hlen : n = m
  · subst hlen
    have hb : ((n : Int) != (n : Int)) = false := by simp
    have HN := Lib.hid hN; have HLN := Lib.hid hn; have HM := Lib.hid hM; have HLM := Lib.hid hm; have HS := Lib.hid hs; have HS2 := Lib.hid hs2
    clear hN hn hM hm hs hs2
    go_enter Try.func36, Try.ntmps36
    go_wp2_with fail
    go_loopw [17] (fun t wr => ∃ k : Nat, t = .int .i64 (k : Int) ∧ k ≤ n ∧ Hid (L.take k = M.take k) ∧ Hid (Below w.heap.size w wr)) (fun t _ => n - (intOf t).toNat)
    case atStart => exact ⟨0, rfl, Nat.zero_le _, Lib.hid rfl, Lib.hid (Below.refl _ _)⟩
    case round =>
      obtain ⟨i, rfl, hi, HT, HG⟩ := hrel
      have hgs := HG.out.size
      by_cases hin : i < n
      · have d1 : decide (i < n) = true := decide_eq_true hin
        have hin' : (i : Int) < (n : Int) := by omega
        obtain ⟨x, hx⟩ : ∃ x, L[i]? = some x := ⟨_, List.getElem?_eq_getElem (by rw [HLN.out]; exact hin)⟩
        obtain ⟨y, hy⟩ : ∃ y, M[i]? = some y := ⟨_, List.getElem?_eq_getElem (by rw [HLM.out]; exact hin)⟩
        obtain ⟨bb, off, rfl, hbl, hnd⟩ := nr_at HN.out hx
        obtain ⟨bb2, off2, rfl, hbl2, hnd2⟩ := nr_at HM.out hy
        obtain ⟨As, ks, ⟨c0, c1, c2, c3, c4, c5, c6⟩, hrg⟩ := hnd.below hbl HG.out
        obtain ⟨Bs, js, ⟨e0, e1, e2, e3, e4, e5, e6⟩, hrg2⟩ := hnd2.below hbl2 HG.out
        have HSA := Lib.hid (fun (W : World) (hW : Below wr.heap.size wr W) => same_any x y As Bs ks js W (hrg.on hW) (hrg2.on hW) (HS.out x (List.mem_of_getElem? hx)) (HS2.out y (List.mem_of_getElem? hy)))
        obtain ⟨sl, hsl⟩ : ∃ sl, x.set.length = sl := ⟨_, rfl⟩
        obtain ⟨sl2, hsl2⟩ : ∃ sl2, y.set.length = sl2 := ⟨_, rfl⟩
        rw [hsl] at c3 HSA
        rw [hsl2] at e3 HSA
        have hW2 := ((Below.refl wr.heap.size wr).alloc (Nat.le_refl _) (.cells (ndCells x As sl ks) 35)).alloc (by simp) (.cells (ndCells y Bs sl2 js) 35)
        have hW1 := (Below.refl wr.heap.size wr).alloc (Nat.le_refl _) (.cells (ndCells x As sl ks) 35)
        have HW2 := Lib.hid hW2
        have HBW := Lib.hid (HG.out.trans (hW2.mono hgs))
        have HX := Lib.hid hx; have HY := Lib.hid hy
        have g0 := (hW1.cell (p := ⟨bb2, _, none⟩) (show bb2 < wr.heap.size by omega)).trans e0
        have g1 := (hW1.cell (p := ⟨bb2, _, none⟩) (show bb2 < wr.heap.size by omega)).trans e1
        have g2 := (hW1.cell (p := ⟨bb2, _, none⟩) (show bb2 < wr.heap.size by omega)).trans e2
        have g3 := (hW1.cell (p := ⟨bb2, _, none⟩) (show bb2 < wr.heap.size by omega)).trans e3
        have g4 := (hW1.cell (p := ⟨bb2, _, none⟩) (show bb2 < wr.heap.size by omega)).trans e4
        have g5 := (hW1.cell (p := ⟨bb2, _, none⟩) (show bb2 < wr.heap.size by omega)).trans e5
        have g6 := (hW1.cell (p := ⟨bb2, _, none⟩) (show bb2 < wr.heap.size by omega)).trans e6
        clear hnd hnd2 hx hy hrg hrg2 hsl hsl2 hW2 hW1
        go_wp2_with fail
        refine (HSA.out _ HW2.out).mono ?_
        rintro e w2 ⟨q, rfl, hq, hb2⟩
        have HB3 := Lib.hid (HBW.out.trans (hb2.mono HBW.out.size))
        clear hb2
        cases q with
        | false =>
          have HNO := Lib.hid (show L ≠ M from fun h => by
            have h1 := HX.out
            rw [h, HY.out] at h1
            injection h1 with h1
            have := hq.2 h1.symm
            cases this)
          clear hq
          go_wp2_with fail
          go_ret
          exact ⟨false, rfl, iff_of_false Bool.noConfusion HNO.out, HB3.out⟩
        | true =>
          have HT2 := Lib.hid (show L.take (i + 1) = M.take (i + 1) by rw [List.take_add_one, List.take_add_one, HT.out, HX.out, HY.out, hq.1 rfl])
          clear hq
          go_wp2_with fail
          go_roundw
          case rel => exact ⟨i + 1, congrArg (Value.int .i64) (by omega), hin, HT2, HB3⟩
          case measure => simp [intOf]; omega
      · have d1 : decide (i < n) = false := decide_eq_false hin
        obtain rfl : i = n := by omega
        have HF := Lib.hid (show L = M by have := HT.out; rw [List.take_of_length_le (by rw [HLN.out]; exact Nat.le_refl _), List.take_of_length_le (by rw [HLM.out]; exact Nat.le_refl _)] at this; exact this)
        go_wp2_with fail
        go_ret
        exact ⟨true, rfl, iff_of_true rfl HF.out, HG.out⟩
  · have hb : ((n : Int) != (m : Int)) = true := by rw [bne_iff_ne]; omega
    have HF := Lib.hid (show L ≠ M from fun h => hlen (by rw [← hn, ← hm, h]))
    clear hN hM
    go_enter Try.func36, Try.ntmps36
    go_wp2_with fail
    go_ret
    exact ⟨false, rfl, iff_of_false Bool.noConfusion HF.out, Below.refl _ _⟩
set_option maxHeartbeats 1000000 in
theorem tsame_any (A A' : Option Addr) (n c m d : Nat) (L M : List Nd) (w : World) (hN : Nr w A L) (hn : L.length = n) (hM : Nr w A' M) (hm : M.length = m) (hnb : n ≤ 20000) (hs : ∀ x ∈ L, x.set.length ≤ 1000000) (hs2 : ∀ x ∈ M, x.set.length ≤ 1000000) :
    Calls Try.prog 15 #[tr A n c, tr A' m d] w (RetB w (L = M)) := by
  have ha0 := ((Below.refl w.heap.size w).alloc (Nat.le_refl _) (.cells #[.slice A n c] 24)).alloc (by simp) (.cells #[.slice A' m d] 24)
  have HEF := Lib.hid (eqfunc_any A A' n c m d L M _ (hN.below ha0) hn (hM.below ha0) hm hnb hs hs2)
  have HA0 := Lib.hid ha0
  clear ha0 hN hM
  go_enter Try.func15, Try.ntmps15
  go_wp2_with fail
  refine HEF.out.mono ?_
  rintro e w1 ⟨q, rfl, hq, hb1⟩
  have HB := Lib.hid (HA0.out.trans (hb1.mono HA0.out.size))
  have HQ := Lib.hid hq
  clear hb1 hq
  go_wp2_with fail
  go_ret
  exact ⟨q, rfl, HQ.out, HB.out⟩
end Go.Proofs.Ytceeimolfalmpaa
