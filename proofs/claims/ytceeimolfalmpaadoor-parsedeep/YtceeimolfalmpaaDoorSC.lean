/-
  What slices.SortFunc by Lo does to a row of ranges that the call owns: it holds the same ranges, sorted by Lo. By the library's own contract. Condition: at most 1000000 ranges.
  What Norm of the program answers: a new row that holds the normal list. Condition: at most 1000000 ranges.
  What Norm of the page's own answers: a new row that holds the normal list. Condition: at most 1000000 ranges.
  What slices.Grow of nothing, slices.Concat of two and of three slices of ranges, and Or, of the program and of the page's own, answer. Condition: at most 300000 ranges each.
  What Not answers, of the program and of the page's own. Condition: at most 900000 ranges.
  What Or, And and Fold of the page's own, Set and Within answer. Condition: at most 300000 ranges each.
-/
import Derived.Test.YtceeimolfalmpaaDoorSB
import Derived.Test.YtceeimolfalmpaaDoorSShelf
import Derived.Test.YtceeimolfalmpaaDoorUShelf
import Derived.RegionTactic
import Derived.Deep.RegionHeld3
import Derived.Test.YtceeimolfalmpaaDoorSA
import Derived.Lib.AppendZeros
import Derived.Laws.AppendOwnNone
namespace Go.Proofs.YtceeimolfalmpaaDoor.S
open Go.RowKit ObSets Go.Shelf Go.Lib
open Go.Sort (SWO grow grow_grow alloc_eq_grow HoldsK flatK get_flatK size_flatK putRowK putRow putCells mapBlock onCells heap_grow_old PermIn SortedIn)

/-- A range's two cells. -/
def enc2 (x : R) : List Value := [.int .i64 x.1, .int .i64 x.2]

set_option maxHeartbeats 1000000 in
theorem closure_any (x y : R) (W : World) : Calls Tryd.prog 54 #[.agg #[.int .i64 x.1, .int .i64 x.2], .agg #[.int .i64 y.1, .int .i64 y.2]] W fun e w' => e = .returned (.int .i64 (Lib.compareInt x.1 y.1)) ∧ ∃ q os', w' = grow (W.drewN q) os' := by
  have hcon := fun W' => AnyG.cmp_Compare_int Tryd.laysSlC25_f55 x.1 y.1 W'
  change ∀ W', Calls Tryd.prog 55 _ _ _ at hcon
  generalize Lib.compareInt x.1 y.1 = r at hcon ⊢
  go_enter Tryd.func54, Tryd.ntmps54
  go_wp2_with (go_at_call 55; refine (hcon _).mono ?_; rintro e w' ⟨rfl, rfl⟩)
  go_ret
  exact ⟨rfl, 0, _, by rw [alloc_eq_grow, alloc_eq_grow, grow_grow]; rfl⟩
theorem cmpLays (blk off size : Nat) (w : World) : CmpLays Tryd.prog 54 #[] enc2 2 (fun x y => Lib.compareInt x.1 y.1) blk off size w :=
  fun _ _ _ _ x y => closure_any x y _
theorem ltLo (x y : R) : ltOf (fun x y : R => Lib.compareInt x.1 y.1) x y = decide (x.1 < y.1) := by
  unfold ltOf Lib.compareInt
  by_cases h1 : x.1 < y.1
  · simp [h1]
  · by_cases h2 : y.1 < x.1 <;> simp [h1, h2]
theorem swoLo : SWO (ltOf fun x y : R => Lib.compareInt x.1 y.1) where
  irrefl x := by rw [ltLo]; simp
  trans x y z h1 h2 := by rw [ltLo] at *; simp at *; omega
  ntrans x y z h1 h2 := by rw [ltLo] at *; simp at *; omega

theorem flat_cells (l : List R) (t : Nat) (ht : t < l.length * 2) : (cellsR l)[t]? = some ((flatK enc2 2 l.toArray)[t]!) := by
  have hk : t / 2 < l.length := by omega
  rw [get_flatK _ _ _ _ (by simpa using ht)]
  have e : (l.toArray)[t / 2]! = l[t / 2] := by simp [hk]
  rw [e]
  have := cellsR_at l (t / 2) _ (List.getElem?_eq_getElem hk)
  rcases (show t % 2 = 0 ∨ t % 2 = 1 by omega) with h | h
  · rw [show t / 2 * 2 = t by omega] at this
    rw [this.1, h]; rfl
  · rw [show t / 2 * 2 + 1 = t by omega] at this
    rw [this.2, h]; rfl
theorem holds_row {w : World} {g : Nat} {cur : Array Value} {l : List R} (hb : w.heap[g]? = some (.cells cur 77 (0, 0))) (ht : cur.toList.take (l.length * 2) = cellsR l) : HoldsK enc2 2 w g 0 l.toArray := by
  intro j hj
  have hj' : j < l.length * 2 := by simpa using hj
  refine ⟨?_, by simp [World.frozen?, hb]⟩
  have h1 := flat_cells l j hj'
  rw [← ht, List.getElem?_take_of_lt hj'] at h1
  simp only [World.cell?, hb, Nat.zero_add]
  simp only [Option.isSome_none, Bool.false_eq_true, if_false]
  rw [← Array.getElem?_toList, h1]
  rfl
theorem heap_sorted2 {w : World} {g n : Nat} {os : Array Obj} {cur : Array Value} {e : TypeId} {fr : Nat × Nat} (d : Array R) (hb : w.heap[g]? = some (.cells cur e fr)) :
    (sortWorldK enc2 2 w g 0 n d os).heap[g]? = some (.cells (putCells id 0 (flatK enc2 2 d) cur) e fr) := by
  have hg : g < w.heap.size := (Array.getElem?_eq_some_iff.1 hb).1
  unfold sortWorldK
  rw [heap_grow_old _ _ (by simpa [putRowK] using hg)]
  simp [putRowK, putRow, mapBlock, Sort.ahead, Array.getElem?_modify, hb, onCells]
theorem grownBy_sorted2 {w : World} {g n : Nat} {os : Array Obj} (d : Array R) : w.grownBy (sortWorldK enc2 2 w g 0 n d os) (some g) := by
  unfold sortWorldK
  refine ⟨rfl, rfl, rfl, by simp [putRowK], fun k hk hne => ?_⟩
  rw [heap_grow_old _ _ (by simpa [putRowK] using hk)]
  have : g ≠ k := fun e => hne (by rw [e])
  simp [putRowK, putRow, mapBlock, Sort.ahead, Array.getElem?_modify, this]
theorem take_put (cur : Array Value) (l : List R) (h : l.length * 2 ≤ cur.size) : (putCells id 0 (flatK enc2 2 l.toArray) cur).toList.take (l.length * 2) = cellsR l := by
  apply List.ext_getElem?
  intro j
  by_cases hj : j < l.length * 2
  · rw [List.getElem?_take_of_lt hj, Array.getElem?_toList, flat_cells l j hj]
    simp [putCells, hj, show j < cur.size by omega]
  · rw [List.getElem?_take_eq_none (by omega), List.getElem?_eq_none (by rw [cellsR_len]; omega)]

theorem sort_any (B : Nat) (v : Value) (l : List R) (w : World) (h : Ow w B v l) (hB : B ≤ w.heap.size) (hl : l.length ≤ 1000000) :
    Calls Tryd.prog 53 #[v, .func (.func 54) #[] #[]] w fun e w' => e = .returned (.tuple #[]) ∧ ∃ l', l'.Perm l ∧ Srt l' ∧ l'.length = l.length ∧ Ow w' B v l' ∧ Below B w w' := by
  rcases h.2 with ⟨rfl, hn⟩ | ⟨g, cap, cur, rfl, hbg, hg, hnc, hcm, hcs, htake⟩
  · have hl0 : l = [] := List.eq_nil_of_length_eq_zero hn
    subst hl0
    have hcon := AnyF.slices_SortFunc_none Tryd.sortRng none 0 (.func (.func 54) #[] #[]) w
    change Calls Tryd.prog 53 _ _ _ at hcon
    refine hcon.mono ?_
    rintro e w' ⟨rfl, rfl⟩
    exact ⟨rfl, [], List.Perm.refl _, List.Pairwise.nil, rfl, h, Below.refl _ _⟩
  · have eg : ∀ args w, (callFunc 54 args).run Tryd.prog w = .ok (.enter 54 args) w := enters_of Tryd.func54 (by kernel_rfl) rfl
    have hlt : g < w.heap.size := (Array.getElem?_eq_some_iff.1 hg).1
    have hcon := AnyQ.slices_SortFunc Tryd.sortRng 2 Tryd.isAgg77 Tryd.sizeOf77 enc2 (fun _ => rfl) (fun x v hv => by simp [enc2] at hv; rcases hv with rfl | rfl <;> rfl) (fun x y => Lib.compareInt x.1 y.1) swoLo 54 #[] g 0 cap l.toArray w eg (cmpLays g 0 _ w) (holds_row hg htake) hlt (by simp; omega)
    change Calls Tryd.prog 53 _ _ _ at hcon
    rw [List.size_toArray] at hcon
    refine hcon.mono ?_
    rintro e w' ⟨rfl, d', n, os, hp, hs, rfl⟩
    have hsz : d'.size = l.length := by simpa using hp.1
    have hperm : d'.toList.Perm l := by
      have := hp.2.2
      rw [show d'.extract 0 l.length = d' by rw [← hsz]; simp, show l.toArray.extract 0 l.length = l.toArray by simp] at this
      simpa using this
    have hsrt : Srt d'.toList := by
      refine List.pairwise_iff_getElem.2 fun i j hi hj hij => ?_
      have := hs i j (Nat.zero_le _) hij (by simpa [hsz] using hj)
      rw [ltLo] at this
      have hi' : i < d'.size := by simpa using hi
      have hj' : j < d'.size := by simpa using hj
      rw [getElem!_pos d' j hj', getElem!_pos d' i hi'] at this
      simp at this
      simpa using this
    refine ⟨rfl, d'.toList, hperm, hsrt, by simpa using hsz, ?_, ?_⟩
    · unfold Ow
      rw [show d'.toList.length = l.length by simpa using hsz]
      refine ⟨by rw [cellsR_len]; simp [hsz], .inr ⟨g, cap, _, rfl, hbg, heap_sorted2 _ hg, hnc, hcm, by simp [putCells, hcs], ?_⟩⟩
      have := take_put cur d'.toList (by rw [show d'.toList.length = l.length by simpa using hsz, hcs]; omega)
      rw [show d'.toList.length = l.length by simpa using hsz] at this
      simpa using this
    · exact (Below.refl B w).grown (grownBy_sorted2 _) hB (fun k hk => by injection hk with hk; omega)
end Go.Proofs.YtceeimolfalmpaaDoor.S

namespace Go.Proofs.YtceeimolfalmpaaDoor.S
open Go.RowKit ObSets

/-- Four cells, behind a draw and a call that leaves what was. -/
theorem four {W W' : World} {p1 p2 p3 p4 : Addr} {v1 v2 v3 v4 : Value} (hb : Below W.drew.heap.size W.drew W') (s1 : W.cell? p1 = some v1) (s2 : W.cell? p2 = some v2) (s3 : W.cell? p3 = some v3) (s4 : W.cell? p4 = some v4) :
    W'.cell? p1 = some v1 ∧ W'.cell? p2 = some v2 ∧ W'.cell? p3 = some v3 ∧ W'.cell? p4 = some v4 :=
  ⟨(hb.cell (p := p1) (World.block_lt_of_cell? W p1 s1)).trans s1, (hb.cell (p := p2) (World.block_lt_of_cell? W p2 s2)).trans s2, (hb.cell (p := p3) (World.block_lt_of_cell? W p3 s3)).trans s3, (hb.cell (p := p4) (World.block_lt_of_cell? W p4 s4)).trans s4⟩
theorem clip_ok {r : R} {a b : Int} (h : ok r = true) (hc : cut r = (a, b)) (w : World) : Calls Tryd.prog 52 #[.agg #[.int .i64 r.1, .int .i64 r.2]] w fun e w' => e = .returned (.tuple #[.agg #[.int .i64 a, .int .i64 b], .bool true]) ∧ Below w.heap.size w w' := by
  have := clip_any r w
  rw [h, hc] at this
  exact this
theorem clip_no {r : R} (h : ok r = false) (w : World) : Calls Tryd.prog 52 #[.agg #[.int .i64 r.1, .int .i64 r.2]] w fun e w' => e = .returned (.tuple #[.agg #[.int .i64 0, .int .i64 0], .bool false]) ∧ Below w.heap.size w w' := by
  have := clip_any r w
  rw [h] at this
  exact this
theorem cuts_take_ok {l : List R} {k : Nat} {r q : R} (h1 : l[k]? = some r) (h : ok r = true) (hc : cut r = q) : cuts (l.take (k + 1)) = cuts (l.take k) ++ [q] := by
  rw [List.take_add_one, h1, cuts_append]
  show _ ++ cuts [r] = _
  rw [cuts_one_ok h, hc]
theorem cuts_take_no {l : List R} {k : Nat} {r : R} (h1 : l[k]? = some r) (h : ok r = false) : cuts (l.take (k + 1)) = cuts (l.take k) := by
  rw [List.take_add_one, h1, cuts_append]
  show _ ++ cuts [r] = _
  rw [cuts_one_no h, List.append_nil]
theorem cuts_take_len (l : List R) (k : Nat) : (cuts (l.take k)).length ≤ k := by
  have h1 := cuts_len (l.take k)
  rw [List.length_take] at h1
  omega
theorem mg_take {l : List R} {k : Nat} {r : R} (h1 : l[k]? = some r) : mg (l.take (k + 1)) = ObSets.step (mg (l.take k)) r := by
  rw [List.take_add_one, h1]
  exact mg_snoc _ _
theorem mg_take_len (l : List R) (k : Nat) : (mg (l.take k)).length ≤ k := by
  have h1 := mg_len (l.take k)
  rw [List.length_take] at h1
  omega

theorem two_cellsD (w : World) (o : Obj) (n : Nat) (a b : Value) (t : TypeId) : ∀ j u, [a, b][j]? = some u → (((w.alloc o).drewN n).alloc (.cells #[a, b] t)).cell? ((⟨w.heap.size + 1, 0, none⟩ : Addr).add j) = some u := by
  have := two_cells ((w.alloc o).drewN n) a b t
  rwa [show ((w.alloc o).drewN n).heap.size = w.heap.size + 1 by simp] at this
theorem Ow.reads {w : World} {B n cap : Nat} {A : Option Addr} {l : List R} (h : Ow w B (.slice A n cap) l) : Rgs w w.heap.size A l ∧ l.length = n := by
  obtain ⟨A', cap', hv, _, _, hr, _⟩ := h.shape
  injection hv with e1 e2 e3
  subst e1
  exact ⟨hr, e2.symm⟩
theorem cellsR_set (p : List R) (a b c : Int) : (cellsR (p ++ [(a, b)])).set (p.length * 2 + 1) (.int .i64 c) = cellsR (p ++ [(a, c)]) := by
  rw [cellsR_append, cellsR_append, List.set_append_right _ _ (by rw [cellsR_len]; omega), cellsR_len]
  rw [show p.length * 2 + 1 - p.length * 2 = 1 by omega]
  rfl
/-- The last range's Hi stored anew. -/
theorem Ow.hi {w : World} {B g n cap : Nat} {p : List R} {a b : Int} (h : Ow w B (.slice (some ⟨g, 0, none⟩) n cap) (p ++ [(a, b)])) (c : Int) (j : Nat) (hj : j = p.length * 2 + 1) :
    Ow (w.setCell ⟨g, j, none⟩ (.int .i64 c)) B (.slice (some ⟨g, 0, none⟩) n cap) (p ++ [(a, c)]) := by
  subst hj
  have e := h.reads.2
  unfold Ow at h ⊢
  rw [e] at h
  have := (World.ownsRow.stored h (p.length * 2 + 1) (.int .i64 c)).1
  rw [cellsR_set] at this
  rw [show (p ++ [(a, c)]).length = n by rw [← e]; simp]
  exact this
/-- The last range of an own row, and where it lies. -/
theorem Ow.last {w : World} {B : Nat} {v : Value} {p : List R} {a b : Int} (h : Ow w B v (p ++ [(a, b)])) :
    ∃ g cap, v = .slice (some ⟨g, 0, none⟩) (p.length + 1) cap ∧ B ≤ g ∧ g < w.heap.size ∧ w.cell? ⟨g, p.length * 2, none⟩ = some (.int .i64 a) ∧ w.cell? ⟨g, p.length * 2 + 1, none⟩ = some (.int .i64 b) ∧ w.frozen? ⟨g, p.length * 2, none⟩ = false ∧ w.frozen? ⟨g, p.length * 2 + 1, none⟩ = false := by
  obtain ⟨A, cap, hv, _, _, hr, hg⟩ := h.shape
  rcases hg with hg | ⟨g, rfl, hB, hlt⟩
  · simp at hg
  · rw [show (p ++ [(a, b)]).length = p.length + 1 by simp] at hv
    subst hv
    obtain ⟨g', off, e, _, hc⟩ := hr (by simp)
    injection e with e
    injection e with e1 e2
    subst e1; subst e2
    have h1 := hc p.length (a, b) (by simp)
    rw [Nat.zero_add] at h1
    have h2 : w.ownsRow B 77 2 (.slice (some ⟨g, 0, none⟩) (p.length + 1) cap) (p.length + 1) (cellsR (p ++ [(a, b)])) := by
      have := h; unfold Ow at this; rwa [show (p ++ [(a, b)]).length = p.length + 1 by simp] at this
    exact ⟨g, cap, rfl, hB, hlt, h1.1, h1.2, h2.frozenAt _, h2.frozenAt _⟩

set_option maxHeartbeats 2000000 in
set_option maxRecDepth 100000 in
theorem norm_any (A : Option Addr) (c : Nat) (l : List R) (w : World) (h : Rgs w w.heap.size A l) (hl : l.length ≤ 1000000) :
    Calls Tryd.prog 40 #[.slice A l.length c] w (RetR (nrm l) w) := by
  obtain ⟨i0, hi, hz0, hz1, hz2⟩ := info_parts info32
  generalize hn : l.length = n at *
  have HN := Lib.hid hn
  clear hn
  go_enter Tryd.func40, Tryd.ntmps40
  go_wp2
  go_loopw [3, 14] (fun v t wr => ∃ k : Nat, k ≤ n ∧ t = .int .i64 k ∧ Ow wr w.heap.size v (cuts (l.take k)) ∧ Below w.heap.size w wr) (fun _ t _ => n - (intOf t).toNat)
  case atStart => exact ⟨0, by omega, rfl, Ow.nil _ _, Below.refl _ _⟩
  case round =>
    obtain ⟨k, hk, rfl, hown, hb2⟩ := hrel
    have HO := Lib.hid hown
    clear hown
    by_cases hkn : k < n
    · obtain ⟨b, off, p, q, rfl, hbl, e1, f1, f2⟩ := (h.below hb2).at_ (k := k) (by rw [HN.out]; exact hkn)
      have E1 := Lib.hid e1
      clear e1
      have hk1 : (k : Int) < (n : Int) := by omega
      have hlen := Lib.hid (cuts_take_len l k)
      have hsz := Lib.hid hb2.size
      cases hok : ok (p, q) with
      | true =>
        obtain ⟨a', b', hc⟩ : ∃ a' b', cut (p, q) = (a', b') := ⟨_, _, rfl⟩
        have HT := Lib.hid (cuts_take_ok E1.out hok hc)
        have HC := Lib.hid (clip_ok hok hc)
        generalize hm : cuts (l.take k) = m at HO hlen HT
        clear hm hok hc
        go_wp2_with (first | (go_at_call 52; refine (HC.out _).mono ?_; rintro e w1 ⟨rfl, hb3⟩; have HB3 := Lib.hid (((Below.refl _ wr).alloc (Nat.le_refl _) _).trans (hb3.mono (by simp))); have HO1 := Lib.hid (HO.out.below HB3.out); clear hb3) | (at_builtin; refine wpList_append_own _ rfl _ _ 34 rfl w.heap.size 77 i0 (.agg #[.int .i64 0, .int .i64 0]) 2 16 Tryd.underlying34 hi hz0 hz1 hz2 rfl (by omega) _ _ _ rfl ((HO1.out.alloc _).alloc _) ⟨w1.heap.size + 1, 0, none⟩ 1 1 [.int .i64 a', .int .i64 b'] rfl rfl (two_cells1 _ _ _ _ _) (ones2 _ _) ?c3 ?c4 ?c5 ?_))
        case c3 => have := hlen.out; unfold maxLen; omega
        case c4 => have := hlen.out; omega
        case c5 => have := hsz.out; have := HB3.out.size; simp; omega
        intro v' w2 hown' hgrow _
        have R := push_rel hb2 (HB3.out.alloc HB3.out.size _) HO.out hown' hgrow
        clear hown' hgrow
        have R1 := Lib.hid R.1; have R2 := R.2
        clear R
        go_wp2
        go_roundw
        case rel => exact ⟨k + 1, by omega, by go_num, by rw [HT.out]; exact R1.out, R2⟩
        case measure => simp [intOf]; omega
      | false =>
        have HT := Lib.hid (cuts_take_no E1.out hok)
        have HC := Lib.hid (clip_no hok)
        generalize hm : cuts (l.take k) = m at HO hlen HT
        clear hm hok
        go_wp2_with (go_at_call 52; refine (HC.out _).mono ?_; rintro e w1 ⟨rfl, hb3⟩; have HB3 := Lib.hid (((Below.refl _ wr).alloc (Nat.le_refl _) _).trans (hb3.mono (by simp))); have HO1 := Lib.hid (HO.out.below HB3.out); clear hb3)
        go_roundw
        case rel => exact ⟨k + 1, by omega, by go_num, by rw [HT.out]; exact HO1.out.alloc _, (bel_trans hb2 HB3.out).alloc (by have := hsz.out; have := HB3.out.size; omega) _⟩
        case measure => simp [intOf]; omega
    · have hk1 : decide (k < n) = false := by simp; omega
      obtain rfl : k = n := by omega
      have HO2 := Lib.hid (show Ow wr w.heap.size _ (cuts l) by have := HO.out; rwa [← HN.out, List.take_length] at this)
      have hcl := Lib.hid (show (cuts l).length ≤ 1000000 by have := cuts_len l; rw [HN.out] at this; omega)
      clear HO
      obtain ⟨Av, cap, rfl, hcap1, hcap2, _, _⟩ := HO2.out.shape
      have HS := Lib.hid (sort_any w.heap.size _ (cuts l) wr HO2.out hb2.size hcl.out)
      have HR := Lib.hid (show ∀ cs : List R, cs.Perm (cuts l) → Srt cs → mg cs = nrm l from fun cs h1 h2 => mg_nrm h1 h2)
      generalize hcs : cuts l = cs at *
      clear hcs HO2
      generalize hm : cs.length = m at *
      have HM := Lib.hid hm
      clear hm
      go_wp2_with (go_at_call 53; refine HS.out.mono ?_; rintro e w1 ⟨rfl, l', hperm, hsrt, hlen', hown', hb4⟩)
      have hb5 := hb2.trans hb4
      have HRd := Lib.hid hown'.reads.1
      have HL' := Lib.hid hlen'
      have HE := Lib.hid (HR.out _ hperm hsrt)
      have hmm := hcl.out
      clear hperm hsrt hlen' hown' hb4 HS HR h HN hcl hcap1 hb2
      go_loopw [8, 33] (fun v t wr => ∃ k : Nat, k ≤ m ∧ t = .int .i64 k ∧ Ow wr w1.heap.size v (mg (l'.take k)) ∧ Below w1.heap.size w1 wr) (fun _ t _ => m - (intOf t).toNat)
      case atStart => exact ⟨0, by omega, rfl, Ow.nil _ _, Below.refl _ _⟩
      case round =>
        obtain ⟨k, hk, rfl, hown, hb2⟩ := hrel
        have HO := Lib.hid hown
        clear hown
        by_cases hkn : k < m
        · obtain ⟨b, off, p, q, rfl, hbl, e1, f1, f2⟩ := (HRd.out.below hb2).at_ (k := k) (by rw [HL'.out]; exact hkn)
          have HT := Lib.hid (mg_take e1)
          have hlen := Lib.hid (mg_take_len l' k)
          have hsz := Lib.hid hb2.size
          clear e1
          have hk1' : (k : Int) < (m : Int) := by omega
          generalize hmm : mg (l'.take k) = mm at HO hlen HT
          clear hmm
          rcases List.eq_nil_or_concat mm with rfl | ⟨pre, last, rfl⟩
          · rw [step_nil] at HT
            obtain ⟨A2, cap2, rfl, _, _, _, _⟩ := HO.out.shape
            have HO1 := Lib.hid (show Ow wr w1.heap.size (.slice A2 0 cap2) [] from HO.out)
            clear HO
            simp only [List.length_nil]
            go_wp2
            go_quiet (fail)
            have HBX := Lib.hid (below_drews ((Below.refl _ wr).alloc (Nat.le_refl _) (.cells #[.int .i64 p, .int .i64 q] 77)) nq)
            have HO2 := Lib.hid (own_below HO1.out HBX.out)
            go_wp2_with (at_builtin; refine wpList_append_own _ rfl _ _ 34 rfl w1.heap.size 77 i0 (.agg #[.int .i64 0, .int .i64 0]) 2 16 Tryd.underlying34 hi hz0 hz1 hz2 rfl (by omega) _ _ _ rfl (HO2.out.alloc _) ⟨wr.heap.size + 1, 0, none⟩ 1 1 [.int .i64 p, .int .i64 q] rfl rfl (two_cellsD _ _ _ _ _ _) (ones2 _ _) ?c3 ?c4 ?c5 ?_)
            case c3 => unfold maxLen; simp
            case c4 => simp
            case c5 => have := hsz.out; simp; omega
            intro v' w2 hown' hgrow _
            have R := push_rel hb2 HBX.out HO1.out hown' hgrow
            clear hown' hgrow
            have R1 := Lib.hid R.1; have R2 := R.2
            clear R
            go_wp2
            go_roundw
            case rel => exact ⟨k + 1, by omega, by go_num, by rw [HT.out]; exact R1.out, R2⟩
            case measure => simp [intOf]; omega
          · rw [List.concat_eq_append] at HO hlen HT
            obtain ⟨a, b'⟩ := last
            obtain ⟨g, cap2, rfl, hgB, hglt, g1, g2, g3, g4⟩ := HO.out.last
            have hlen2 := Lib.hid (show pre.length + 1 ≤ k by have := hlen.out; simpa using this)
            have hpk := hlen2.out
            have HAP := Lib.hid (apart_any (a, b') (p, q))
            have HJ := Lib.hid (show (pre ++ [(a, b')]).length = pre.length + 1 by simp)
            have hHI := Lib.hid (fun (W : World) (hW : Ow W w1.heap.size (.slice (some ⟨g, 0, none⟩) (pre.length + 1) cap2) (pre ++ [(a, b')])) (x : Int) => hW.hi x (pre.length * 2 + 1) rfl)
            have F3 := Lib.hid g3; have F4 := Lib.hid g4; have G1 := Lib.hid g1; have G2 := Lib.hid g2
            cases hap : ap (a, b') (p, q) with
            | true =>
              rw [step_apart hap] at HT
              rw [hap] at HAP
              clear hap hHI
              unfold rv at HAP
              simp only at HAP
              generalize hmm3 : pre ++ [(a, b')] = mm at HO HT HJ
              clear hmm3 hlen
              generalize pre.length = j at *
              have hd1 : decide (((j : Int) + 1 - 1) < 0) = false := by simp
              have s1 : (wr.alloc (.cells #[.int .i64 p, .int .i64 q] 77)).cell? ⟨g, j * 2, none⟩ = some (.int .i64 a) := (World.cell?_alloc_lt wr _ ⟨g, j * 2, none⟩ hglt).trans G1.out
              have s2 : (wr.alloc (.cells #[.int .i64 p, .int .i64 q] 77)).cell? ⟨g, j * 2 + 1, none⟩ = some (.int .i64 b') := (World.cell?_alloc_lt wr _ ⟨g, j * 2 + 1, none⟩ hglt).trans G2.out
              have s3 : (wr.alloc (.cells #[.int .i64 p, .int .i64 q] 77)).cell? ⟨wr.heap.size, 0, none⟩ = some (.int .i64 p) := by simp
              have s4 : (wr.alloc (.cells #[.int .i64 p, .int .i64 q] 77)).cell? ⟨wr.heap.size, 1, none⟩ = some (.int .i64 q) := by simp
              have jb1 : (j : Int) < (j : Int) + 1 := by omega
              have jb2 : (0 : Int) ≤ (j : Int) := by omega
              have jb3 : IntKind.i64.wrap (j : Int) = j := IntWalk.i64_in _ (by omega)
              go_wp2
              go_region_held3 (fun W => W.cell? ⟨g, j * 2, none⟩ = some (.int .i64 a) ∧ W.cell? ⟨g, j * 2 + 1, none⟩ = some (.int .i64 b') ∧ W.cell? ⟨wr.heap.size, 0, none⟩ = some (.int .i64 p) ∧ W.cell? ⟨wr.heap.size, 1, none⟩ = some (.int .i64 q)) (first | exact ⟨s1, s2, s3, s4⟩ | exact four hb3 s1 s2 s3 s4) (first | (go_at_call 56; refine (HAP.out _).mono ?_; rintro e w3 ⟨rfl, hb3⟩))
              all_goals (
                have c1 : w3.cell? ⟨wr.heap.size, 0, none⟩ = some (.int .i64 p) := (hb3.cell (p := ⟨wr.heap.size, 0, none⟩) (by simp)).trans (by simp)
                have c2 : w3.cell? ⟨wr.heap.size, 1, none⟩ = some (.int .i64 q) := (hb3.cell (p := ⟨wr.heap.size, 1, none⟩) (by simp)).trans (by simp)
                have HB3 := Lib.hid ((((Below.refl _ wr).alloc (Nat.le_refl _) (.cells #[.int .i64 p, .int .i64 q] 77)).drew).trans (hb3.mono (by simp)))
                have HO2 := Lib.hid (own_below HO.out HB3.out)
                clear hb3
                go_wp2_with (at_builtin; refine wpList_append_own _ rfl _ _ 34 rfl w1.heap.size 77 i0 (.agg #[.int .i64 0, .int .i64 0]) 2 16 Tryd.underlying34 hi hz0 hz1 hz2 rfl (by omega) _ _ _ rfl (HO2.out.alloc _) ⟨w3.heap.size, 0, none⟩ 1 1 [.int .i64 p, .int .i64 q] rfl rfl (two_cells _ _ _ _) (ones2 _ _) ?c3 ?c4 ?c5 ?_)
                case c3 => have := HJ.out; unfold maxLen; omega
                case c4 => have := HJ.out; omega
                case c5 => have := hsz.out; have := HB3.out.size; simp; omega
                intro v' w2 hown' hgrow _
                have R := push_rel hb2 HB3.out HO.out hown' hgrow
                clear hown' hgrow
                have R1 := Lib.hid R.1; have R2 := R.2
                clear R
                go_wp2
                go_roundw
                case rel => exact ⟨k + 1, by omega, by go_num, by rw [HT.out]; exact R1.out, R2⟩
                case measure => simp [intOf]; omega)
            | false =>
              rw [step_join hap] at HT
              rw [hap] at HAP
              clear hap
              unfold rv at HAP
              simp only at HAP
              clear hlen HJ
              generalize hj : pre.length = j at *
              clear hj
              have hd1 : decide (((j : Int) + 1 - 1) < 0) = false := by simp
              have s1 : (wr.alloc (.cells #[.int .i64 p, .int .i64 q] 77)).cell? ⟨g, j * 2, none⟩ = some (.int .i64 a) := (World.cell?_alloc_lt wr _ ⟨g, j * 2, none⟩ hglt).trans G1.out
              have s2 : (wr.alloc (.cells #[.int .i64 p, .int .i64 q] 77)).cell? ⟨g, j * 2 + 1, none⟩ = some (.int .i64 b') := (World.cell?_alloc_lt wr _ ⟨g, j * 2 + 1, none⟩ hglt).trans G2.out
              have s3 : (wr.alloc (.cells #[.int .i64 p, .int .i64 q] 77)).cell? ⟨wr.heap.size, 0, none⟩ = some (.int .i64 p) := by simp
              have s4 : (wr.alloc (.cells #[.int .i64 p, .int .i64 q] 77)).cell? ⟨wr.heap.size, 1, none⟩ = some (.int .i64 q) := by simp
              have jb1 : (j : Int) < (j : Int) + 1 := by omega
              have jb2 : (0 : Int) ≤ (j : Int) := by omega
              have jb3 : IntKind.i64.wrap (j : Int) = j := IntWalk.i64_in _ (by omega)
              go_wp2
              go_region_held3 (fun W => W.cell? ⟨g, j * 2, none⟩ = some (.int .i64 a) ∧ W.cell? ⟨g, j * 2 + 1, none⟩ = some (.int .i64 b') ∧ W.cell? ⟨wr.heap.size, 0, none⟩ = some (.int .i64 p) ∧ W.cell? ⟨wr.heap.size, 1, none⟩ = some (.int .i64 q)) (first | exact ⟨s1, s2, s3, s4⟩ | exact four hb3 s1 s2 s3 s4) (first | (go_at_call 56; refine (HAP.out _).mono ?_; rintro e w3 ⟨rfl, hb3⟩))
              all_goals (
                have c1 : w3.cell? ⟨wr.heap.size, 0, none⟩ = some (.int .i64 p) := (hb3.cell (p := ⟨wr.heap.size, 0, none⟩) (by simp)).trans (by simp)
                have c2 : w3.cell? ⟨wr.heap.size, 1, none⟩ = some (.int .i64 q) := (hb3.cell (p := ⟨wr.heap.size, 1, none⟩) (by simp)).trans (by simp)
                have HB3 := Lib.hid ((((Below.refl _ wr).alloc (Nat.le_refl _) (.cells #[.int .i64 p, .int .i64 q] 77)).drew).trans (hb3.mono (by simp)))
                have d1 : w3.cell? ⟨g, j * 2, none⟩ = some (.int .i64 a) := (HB3.out.cell (p := ⟨g, j * 2, none⟩) hglt).trans G1.out
                have d2 : w3.cell? ⟨g, j * 2 + 1, none⟩ = some (.int .i64 b') := (HB3.out.cell (p := ⟨g, j * 2 + 1, none⟩) hglt).trans G2.out
                have d3 : w3.frozen? ⟨g, j * 2 + 1, none⟩ = false := (World.frozen?_of_block (a := ⟨g, j * 2 + 1, none⟩) (HB3.out.block g hglt)).trans F4.out
                have HO2 := Lib.hid (hHI.out w3 (own_below HO.out HB3.out) (max b' q))
                clear hb3
                go_wp2
                go_region
                go_wp2
                go_roundw
                case rel => exact ⟨k + 1, by omega, by go_num, by rw [HT.out]; exact HO2.out, ((bel_trans hb2 HB3.out).setCell (p := ⟨g, j * 2 + 1, none⟩) hgB _).drew⟩
                case measure => simp [intOf]; omega)
        · have hk2 : decide (k < m) = false := by simp; omega
          obtain rfl : k = m := by omega
          have HO2 := Lib.hid (show Ow wr w1.heap.size _ (nrm l) by have := HO.out; rwa [← HL'.out, List.take_length, HE.out] at this)
          go_wp2
          go_ret
          exact ⟨_, rfl, HO2.out.less hb5.size, bel_trans hb5 hb2⟩
end Go.Proofs.YtceeimolfalmpaaDoor.S

namespace Go.Proofs.YtceeimolfalmpaaDoor.S
open Go.RowKit ObSets

theorem quiet_eq {P : Program} {f : FuncId} {args : Array Value} {w : World} {n : Nat} {v : Value} (h : Calls P f args (w.drewN n) fun e w' => e = .returned v ∧ w.drewN n = w') : Calls P f args (w.drewN n) fun e w'' => e = .returned v ∧ ∃ m, w'' = w.drewN m :=
  Calls.quiet_of_same (h.mono fun _ _ g => ⟨g.1, g.2.symm⟩)
theorem cellsR_put (p s : List R) (g : R) (a b : Int) : ((cellsR (p ++ g :: s)).set (p.length * 2) (.int .i64 a)).set (p.length * 2 + 1) (.int .i64 b) = cellsR (p ++ (a, b) :: s) := by
  rw [cellsR_append, cellsR_append, List.set_append_right _ _ (by rw [cellsR_len]; omega), cellsR_len, Nat.sub_self, List.set_append_right _ _ (by rw [cellsR_len]; omega), cellsR_len]
  rw [show p.length * 2 + 1 - p.length * 2 = 1 by omega]
  rfl
/-- A range stored anew. -/
theorem Ow.put {w : World} {B g n cap : Nat} {p s : List R} {r : R} (h : Ow w B (.slice (some ⟨g, 0, none⟩) n cap) (p ++ r :: s)) (a b : Int) (j : Nat) (hj : j = p.length) :
    Ow ((w.setCell ⟨g, j * 2, none⟩ (.int .i64 a)).setCell ⟨g, j * 2 + 1, none⟩ (.int .i64 b)) B (.slice (some ⟨g, 0, none⟩) n cap) (p ++ (a, b) :: s) := by
  subst hj
  have e := h.reads.2
  unfold Ow at h ⊢
  rw [e] at h
  have := (World.ownsRow.stored ((World.ownsRow.stored h (p.length * 2) (.int .i64 a)).1) (p.length * 2 + 1) (.int .i64 b)).1
  rw [cellsR_put] at this
  rw [show (p ++ (a, b) :: s).length = n by rw [← e]; simp]
  exact this
/-- Where the ranges of a row lie that is not empty. -/
theorem Ow.seat {w : World} {B n : Nat} {v : Value} {l : List R} (h : Ow w B v l) (hn : l.length = n + 1) :
    ∃ g cap, v = .slice (some ⟨g, 0, none⟩) (n + 1) cap ∧ B ≤ g := by
  obtain ⟨A, cap, hv, _, _, hr, hg⟩ := h.shape
  rcases hg with hg | ⟨g, rfl, hB, hlt⟩
  · rw [hg] at hn; simp at hn
  · rw [hn] at hv
    exact ⟨g, cap, hv, hB⟩
theorem Ow.cells {w : World} {B g n cap : Nat} {p s : List R} {a b : Int} (h : Ow w B (.slice (some ⟨g, 0, none⟩) n cap) (p ++ (a, b) :: s)) (j : Nat) (hj : j = p.length) :
    g < w.heap.size ∧ j < n ∧ w.cell? ⟨g, j * 2, none⟩ = some (.int .i64 a) ∧ w.cell? ⟨g, j * 2 + 1, none⟩ = some (.int .i64 b) ∧ w.frozen? ⟨g, j * 2, none⟩ = false ∧ w.frozen? ⟨g, j * 2 + 1, none⟩ = false := by
  subst hj
  have e := h.reads.2
  obtain ⟨g', off, e1, hlt, hc⟩ := h.reads.1 (by simp)
  injection e1 with e1
  injection e1 with e1 e2
  subst e1; subst e2
  have h1 := hc p.length (a, b) (by simp)
  rw [Nat.zero_add] at h1
  have h2 := h
  unfold Ow at h2
  rw [e] at h2
  exact ⟨hlt, by rw [← e]; simp, h1.1, h1.2, h2.frozenAt _, h2.frozenAt _⟩
theorem srt_put {p s : List R} {r : R} (h : Srt (p ++ s)) (h1 : ∀ q ∈ p, q.1 ≤ r.1) (h2 : ∀ q ∈ s, r.1 < q.1) : Srt (p ++ r :: s) := by
  obtain ⟨a, b, c⟩ := List.pairwise_append.1 h
  refine List.pairwise_append.2 ⟨a, List.pairwise_cons.2 ⟨fun q hq => by have := h2 q hq; omega, b⟩, fun x hx y hy => ?_⟩
  rcases List.mem_cons.1 hy with rfl | hy
  · exact h1 x hx
  · exact c x hx y hy
theorem srt_last {p s : List R} {x r : R} (h : Srt ((p ++ [x]) ++ s)) (hx : x.1 ≤ r.1) : ∀ q ∈ p ++ [x], q.1 ≤ r.1 := by
  intro q hq
  rcases List.mem_append.1 hq with hq | hq
  · have := (List.pairwise_append.1 (List.pairwise_append.1 h).1).2.2 q hq x (by simp)
    omega
  · rw [List.mem_singleton.1 hq]; exact hx
theorem perm_put (p s : List R) (r : R) : (p ++ r :: s).Perm ((p ++ s) ++ [r]) := by
  refine List.perm_middle.trans ?_
  exact (List.perm_append_singleton r (p ++ s)).symm

end Go.Proofs.YtceeimolfalmpaaDoor.S

namespace Go.Proofs.YtceeimolfalmpaaDoor.S
open Go.RowKit ObSets

set_option maxRecDepth 100000 in
/-- One list appended to a row of the call's own, the source nil, empty or not. -/
theorem append_src {w : World} {B : Nat} {v : Value} {l m : List R} {A : Option Addr} {c : Nat} (ty : TypeId) (hown : Ow w B v l) (hr : Rgs w w.heap.size A m) (hA : A = none → m = []) (hlen : l.length + m.length ≤ 1000000) (hB : B ≤ w.heap.size) :
    ∃ v' w', (Builtin.append_ #[34, 34] ty #[v, .slice A m.length c]).run Tryd.prog w = .ok v' w' ∧ Ow w' B v' (l ++ m) ∧ w.grownBy w' v.ownBlock := by
  obtain ⟨i0, hi, hz0, hz1, hz2⟩ := info_parts info32
  rcases A with _ | ad
  · obtain rfl := hA rfl
    refine ⟨v, w, ?_, by simpa using hown, World.grownBy.refl w _⟩
    obtain ⟨A1, cap, rfl, hc1, hc2, _, _⟩ := hown.shape
    simp only [List.length_nil]
    rcases hown.2 with ⟨hv, _⟩ | ⟨g, cap', cur, hv, _, _, hnc, _⟩
    · rw [hv]
      simp [Builtin.append_, run_underlying Tryd.underlying34, sizeOf, typeInfo, hi, Builtin.lenOf, Builtin.firstCells]
    · rw [hv]
      simp [Builtin.append_, run_underlying Tryd.underlying34, sizeOf, typeInfo, hi, Builtin.lenOf, Builtin.firstCells, hnc, storeCells]
  · have hcells : ∀ j u, (cellsR m)[j]? = some u → w.cell? (ad.add j) = some u := by
      intro j u hu
      obtain ⟨r, h1, h2⟩ := cellsR_get m j u hu
      obtain ⟨b, off, e, _, hc⟩ := hr (fun e => by rw [e] at h1; simp at h1)
      injection e with e
      subst e
      have := hc _ _ h1
      rw [show (⟨b, off, none⟩ : Addr).add j = ⟨b, off + j, none⟩ by unfold Addr.add; split <;> simp_all]
      rcases h2 with ⟨h2, rfl⟩ | ⟨h2, rfl⟩
      · rw [show off + j = off + j / 2 * 2 by omega]; exact this.1
      · rw [show off + j = off + j / 2 * 2 + 1 by omega]; exact this.2
    obtain ⟨v', w', hrun, h2, h3, _⟩ := run_append_own (P := Tryd.prog) w B 34 ty 77 i0 (.agg #[.int .i64 0, .int .i64 0]) 2 16 Tryd.underlying34 hi hz0 hz1 hz2 rfl (by omega) v l.length (cellsR l) hown ad m.length c (cellsR m) (cellsR_len m) hcells (cellsR_one m) (by unfold maxLen; omega) (by omega) hB
    refine ⟨v', w', hrun, ?_, h3⟩
    unfold Ow
    rw [cellsR_append, List.length_append]
    exact h2
theorem rgs_none {w : World} {B : Nat} {A : Option Addr} {l : List R} (h : Rgs w B A l) : A = none → l = [] := fun e => by
  rcases l with _ | ⟨r, l⟩
  · rfl
  · obtain ⟨b, off, e2, _⟩ := h (by simp)
    rw [e] at e2; cases e2
end Go.Proofs.YtceeimolfalmpaaDoor.S

namespace Go.Proofs.YtceeimolfalmpaaDoor.S
open Go.RowKit ObSets

/-- One range gone by: what stands between, and from where on. -/
def st (s : List R × Int) (r : R) : List R × Int := (s.1 ++ (if s.2 < r.1 then [(s.2, pv r.1)] else []), nx r.2)
def sts (m : List R) : List R × Int := m.foldl st ([], 0)
theorem st_not : ∀ (m : List R) (s : List R × Int), (m.foldl st s).1 ++ notF (m.foldl st s).2 [] = s.1 ++ notF s.2 m
  | [], s => rfl
  | r :: m, s => by
    rw [List.foldl_cons, st_not m (st s r)]
    show (s.1 ++ _) ++ notF (nx r.2) m = s.1 ++ notF s.2 (r :: m)
    rw [List.append_assoc]; rfl
theorem sts_not (m : List R) : (sts m).1 ++ notF (sts m).2 [] = notF 0 m := st_not m ([], 0)
theorem st_len : ∀ (m : List R) (s : List R × Int), (m.foldl st s).1.length ≤ s.1.length + m.length
  | [], s => by simp
  | r :: m, s => by
    rw [List.foldl_cons]
    have := st_len m (st s r)
    have h2 : (st s r).1.length ≤ s.1.length + 1 := by unfold st; simp only [List.length_append]; split <;> simp
    simp only [List.length_cons]; omega
theorem sts_len (m : List R) (k : Nat) : (sts (m.take k)).1.length ≤ k := by
  have h1 := st_len (m.take k) ([], 0)
  have h2 : (m.take k).length ≤ k := by rw [List.length_take]; omega
  simp only [List.length_nil] at h1
  unfold sts; omega
theorem sts_take {m : List R} {k : Nat} {r : R} (h : m[k]? = some r) : sts (m.take (k + 1)) = st (sts (m.take k)) r := by
  unfold sts; rw [List.take_add_one, h]; simp
theorem not_neg {lo : Int} (h : lo < 0) : notF lo [] = [] := by unfold notF; rw [if_neg (by omega)]
theorem not_pos {lo : Int} (h : 0 ≤ lo) : notF lo [] = [(lo, 1114367)] := by unfold notF; rw [if_pos h]
theorem last_of {m : List R} {k : Nat} {r : R} (hm : Nrm m) (h : m[k]? = some r) (hn : nx r.2 < 0) : k + 1 = m.length := by
  have hk : k < m.length := by
    rcases Nat.lt_or_ge k m.length with h1 | h1
    · exact h1
    · rw [List.getElem?_eq_none h1] at h; cases h
  rcases Nat.lt_or_ge (k + 1) m.length with h1 | h1
  · have := List.pairwise_iff_getElem.1 hm.2 k (k + 1) hk h1 (by omega)
    have e : m[k] = r := by rw [List.getElem?_eq_getElem hk] at h; injection h
    rw [e] at this
    have := (ap_iff.1 this).1
    have := nx_ge (x := r.2)
    omega
  · omega

set_option maxHeartbeats 1000000 in
set_option maxRecDepth 100000 in
theorem not_any (A : Option Addr) (c : Nat) (l : List R) (w : World) (h : Rgs w w.heap.size A l) (hl : l.length ≤ 900000) :
    Calls Tryd.prog 39 #[.slice A l.length c] w (RetR (notL l) w) := by
  obtain ⟨i0, hi, hz0, hz1, hz2⟩ := info_parts info32
  have HC := Lib.hid (norm_any A c l w h (by omega))
  have hnl := Lib.hid (show (nrm l).length ≤ 900000 by have := nrm_len l; omega)
  have HE := Lib.hid (show (sts (nrm l)).1 ++ notF (sts (nrm l)).2 [] = notL l from sts_not _)
  generalize notL l = res at *
  generalize nrm l = m at *
  generalize l.length = n at *
  clear h hl
  go_enter Tryd.func39, Tryd.ntmps39
  go_wp2_with (go_at_call 40; refine HC.out.mono ?_; rintro e w1 ⟨v, rfl, hown, hb⟩; obtain ⟨A1, cap, rfl, hc1, hc2, hr, _⟩ := hown.shape)
  have hml := hnl.out
  have HR := Lib.hid hr
  clear hown HC hr hnl hc1 hc2
  generalize hn2 : m.length = k0 at *
  have HN := Lib.hid hn2
  clear hn2
  go_loopw [3, 4, 10] (fun v s t wr => ∃ (k : Nat) (out : List R) (lo : Int), k ≤ k0 ∧ t = .int .i64 k ∧ s = .int .i64 lo ∧ Hid (sts (m.take k) = (out, lo)) ∧ Hid (Ow wr w1.heap.size v out) ∧ Below w1.heap.size w1 wr) (fun _ _ t _ => k0 - (intOf t).toNat)
  case atStart => exact ⟨0, [], 0, by omega, rfl, rfl, (rfl : sts [] = ([], 0)), Ow.nil _ _, Below.refl _ _⟩
  case round =>
    obtain ⟨k, out, lo, hk, rfl, rfl, HS, HO, hb2⟩ := hrel
    have hol := Lib.hid (show out.length ≤ k by have := sts_len m k; rw [HS.out] at this; exact this)
    by_cases hkn : k < k0
    · obtain ⟨b, off, p, q, rfl, hbl, e1, f1, f2⟩ := (HR.out.below hb2).at_ (k := k) (by rw [HN.out]; exact hkn)
      have hk1 : (k : Int) < (k0 : Int) := by omega
      have HT := Lib.hid (sts_take e1)
      rw [HS.out] at HT
      have hsz := Lib.hid hb2.size
      have HNX := Lib.hid (next_any q)
      have HPV := Lib.hid (prev_any p)
      clear e1
      by_cases hlt : lo < p
      · have hd : decide (lo < p) = true := by simp; omega
        have HT2 := Lib.hid (show sts (m.take (k + 1)) = (out ++ [(lo, pv p)], nx q) by rw [HT.out]; unfold st; simp [hlt])
        generalize nx q = nq2 at *
        generalize pv p = pp at *
        go_wp2_with (first | (go_at_call 50; refine (HPV.out _).mono ?_; rintro e w' ⟨rfl, rfl⟩) | (at_builtin; refine wpList_append_own _ rfl _ _ 34 rfl w1.heap.size 77 i0 (.agg #[.int .i64 0, .int .i64 0]) 2 16 Tryd.underlying34 hi hz0 hz1 hz2 rfl (by omega) _ _ _ rfl ((HO.out.alloc _).alloc _) ⟨wr.heap.size + 1, 0, none⟩ 1 1 [.int .i64 lo, .int .i64 pp] rfl rfl (two_cells1 _ _ _ _ _) (ones2 _ _) ?c3 ?c4 ?c5 ?_))
        case c3 => have := hol.out; unfold maxLen; omega
        case c4 => have := hol.out; omega
        case c5 => have := hsz.out; simp; omega
        intro v' w2 hown' hgrow _
        have hnb := Lib.hid (show ∀ g, Value.ownBlock _ = some g → g < wr.heap.size from fun g hg => (HO.out.lt g hg).2)
        have cx : w2.cell? ⟨wr.heap.size, 1, none⟩ = some (.int .i64 q) := hgrow.cell (a := ⟨wr.heap.size, 1, none⟩) (by simp) (fun e => absurd (hnb.out _ e.symm) (Nat.lt_irrefl _))
        have R := push_rel hb2 ((Below.refl _ wr).alloc (Nat.le_refl _) _) HO.out hown' hgrow
        clear hown' hgrow hnb
        have R1 := Lib.hid R.1; have R2 := R.2
        clear R
        go_wp2_with (go_at_call 51; refine (HNX.out _).mono ?_; rintro e w' ⟨rfl, rfl⟩)
        go_roundw
        case rel => exact ⟨k + 1, _, _, by omega, by go_num, rfl, HT2.out, R1.out, R2⟩
        case measure => simp [intOf]; omega
      · have hd : decide (lo < p) = false := by simp; omega
        have HT2 := Lib.hid (show sts (m.take (k + 1)) = (out, nx q) by rw [HT.out]; unfold st; simp [hlt])
        generalize nx q = nq2 at *
        generalize pv p = pp at *
        go_wp2_with (go_at_call 51; refine (HNX.out _).mono ?_; rintro e w' ⟨rfl, rfl⟩)
        go_roundw
        case rel => exact ⟨k + 1, _, _, by omega, by go_num, rfl, HT2.out, HO.out.alloc _, hb2.alloc hb2.size _⟩
        case measure => simp [intOf]; omega
    · have hk1 : decide (k < k0) = false := by simp; omega
      obtain rfl : k = k0 := by omega
      have HE2 := Lib.hid (show out ++ notF lo [] = res by have := HE.out; rw [show m = m.take k by rw [← HN.out, List.take_length], HS.out] at this; exact this)
      by_cases hneg : lo < 0
      · have hd : decide (0 ≤ lo) = false := by simp; omega
        have HE3 := Lib.hid (show out = res by have := HE2.out; rwa [not_neg hneg, List.append_nil] at this)
        go_wp2
        go_ret
        exact ⟨_, rfl, by rw [← HE3.out]; exact HO.out.less hb.size, bel_trans hb hb2⟩
      · have hd : decide (0 ≤ lo) = true := by simp; omega
        have HE3 := Lib.hid (show out ++ [(lo, 1114367)] = res by have := HE2.out; rwa [not_pos (by omega)] at this)
        have hsz := Lib.hid hb2.size
        go_wp2_with (at_builtin; refine wpList_append_own _ rfl _ _ 34 rfl w1.heap.size 77 i0 (.agg #[.int .i64 0, .int .i64 0]) 2 16 Tryd.underlying34 hi hz0 hz1 hz2 rfl (by omega) _ _ _ rfl (HO.out.alloc _) ⟨wr.heap.size, 0, none⟩ 1 1 [.int .i64 lo, .int .i64 1114367] rfl rfl (two_cells _ _ _ _) (ones2 _ _) ?c3 ?c4 ?c5 ?_)
        case c3 => have := hol.out; unfold maxLen; omega
        case c4 => have := hol.out; omega
        case c5 => have := hsz.out; simp; omega
        intro v' w2 hown' hgrow _
        have R := push_rel hb2 (Below.refl _ wr) HO.out hown' hgrow
        clear hown' hgrow
        have R1 := Lib.hid R.1; have R2 := R.2
        clear R
        go_wp2
        go_ret
        exact ⟨_, rfl, by rw [← HE3.out]; exact R1.out.less hb.size, bel_trans hb R2⟩

end Go.Proofs.YtceeimolfalmpaaDoor.S

namespace Go.Proofs.YtceeimolfalmpaaDoor.S
open Go.RowKit ObSets

/-- A new slice of nothing, by a literal. -/
theorem made_none (w : World) : Ow (w.alloc (.cells #[] 77)) w.heap.size (.slice (some ⟨w.heap.size, 0, none⟩) 0 0) [] :=
  World.ownsRow_made w #[] 0 (Nat.le_refl _) (by unfold maxLen; omega) (by simp)
/-- What is appended to a row that was made. -/
theorem cat_rel {w0 w w2 : World} {v v' : Value} {l m : List R} (hB : Below w0.heap.size w0 w) (hown : Ow w w0.heap.size v l) (hg : w.grownBy w2 v.ownBlock) (hown' : Ow w2 w0.heap.size v' (l ++ m)) : Ow w2 w0.heap.size v' (l ++ m) ∧ Below w0.heap.size w0 w2 :=
  ⟨hown', hB.grown hg hB.size (fun k hk => (hown.lt k hk).1)⟩

end Go.Proofs.YtceeimolfalmpaaDoor.S
