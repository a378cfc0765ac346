/-
  The reader of a pattern's words in memory (parse): its block, the words it goes through, the nodes it has made; what its kind, take and fail answer and leave. Conditions: as written.
  The reader puts a node behind all others (add). Conditions: at most 50000 nodes.
  Which step an atom wants, whether one begins, a bar gone past, the way into a group (parse). Conditions: as written.
  The reader's state, while all is well and when it has stopped; the steps for a set and for a line's ends (parse). Conditions: as written.
  Bars and atoms looked for, by a reader that goes on and by one that has stopped; a node put by one that has stopped (parse). Conditions: at most 1000 words.
  A row of parts joined (row): its parts and what looks for more of them are told by their contracts. Conditions: as written.
  An atom and what is said of it (rep): the step for a group is told by its contract. Conditions: as written.
-/
import Derived.Test.YtceeimolfalmpaaDoorPA
import Derived.Test.YtceeimolfalmpaaDoorTZ
import Derived.Test.YtceeimolfalmpaaDoorLB
import Derived.Test.YtceeimolfalmpaaDoorLC
import Derived.BigQuiet
import Derived.BigRegion
import Derived.Deep.RegionLaw
namespace Go.Proofs.YtceeimolfalmpaaDoor.T
open Go.RowKit ObSets ObTree ObParse
open Go.Proofs.YtceeimolfalmpaaDoor (tv fv)

theorem blk7 {w : World} {r : Nat} {a b c d e f g : Value} {t : TypeId} (h : w.heap[r]? = some (.cells #[a, b, c, d, e, f, g] t (0, 0))) : (w.cell? ⟨r, 0, none⟩ = some a ∧ w.cell? ⟨r, 1, none⟩ = some b ∧ w.cell? ⟨r, 2, none⟩ = some c ∧ w.cell? ⟨r, 3, none⟩ = some d ∧ w.cell? ⟨r, 4, none⟩ = some e ∧ w.cell? ⟨r, 5, none⟩ = some f ∧ w.cell? ⟨r, 6, none⟩ = some g) ∧ ∀ k, w.frozen? ⟨r, k, none⟩ = false := by
  refine ⟨⟨by simp [World.cell?, h], by simp [World.cell?, h], by simp [World.cell?, h], by simp [World.cell?, h], by simp [World.cell?, h], by simp [World.cell?, h], by simp [World.cell?, h]⟩, fun k => by simp [World.frozen?, h]⟩
/-- Words that lie in blocks below B, with their sets. -/
def Wr (w : World) (B : Nat) (A : Option Addr) (W : List ObLex.T) : Prop :=
  ∀ (j : Nat) t, W[j]? = some t → ∃ b off As ks, A = some ⟨b, off, none⟩ ∧ b < B ∧ (w.cell? ⟨b, off + j * 5, none⟩ = some (.int .i64 t.kind) ∧ w.cell? ⟨b, off + j * 5 + 1, none⟩ = some (.int .i64 t.at_) ∧ w.cell? ⟨b, off + j * 5 + 2, none⟩ = some (.slice As t.set.length ks) ∧ w.cell? ⟨b, off + j * 5 + 3, none⟩ = some (.int .i64 t.mn) ∧ w.cell? ⟨b, off + j * 5 + 4, none⟩ = some (.int .i64 t.mx)) ∧ S.Rgs w B As t.set
theorem Wr.below {w w' : World} {B : Nat} {A : Option Addr} {W : List ObLex.T} (h : Wr w B A W) (hb : Below B w w') : Wr w' B A W := fun j t ht => by
  obtain ⟨b, off, As, ks, e, hl, ⟨c0, c1, c2, c3, c4⟩, hr⟩ := h j t ht
  exact ⟨b, off, As, ks, e, hl, ⟨(hb.cell (p := ⟨b, _, none⟩) hl).trans c0, (hb.cell (p := ⟨b, _, none⟩) hl).trans c1, (hb.cell (p := ⟨b, _, none⟩) hl).trans c2, (hb.cell (p := ⟨b, _, none⟩) hl).trans c3, (hb.cell (p := ⟨b, _, none⟩) hl).trans c4⟩, hr.below hb⟩
/-- The reader's block. -/
abbrev rdO (Aw : Option Addr) (n cw : Nat) (k : Int) (v o cp e f : Value) : Obj := .cells #[.slice Aw n cw, .int .i64 k, v, o, cp, e, f] 43
set_option maxHeartbeats 2000000 in
set_option maxRecDepth 100000 in
theorem kind_any {w : World} {b : Nat} {Aw : Option Addr} {n cw k : Nat} {v o cp e f : Value} {W : List ObLex.T} (hn : W.length = n) (hb : w.heap[b]? = some (rdO Aw n cw k v o cp e f)) (hW : Wr w b Aw W) (hk : k ≤ n) :
    Calls Tryd.prog 29 #[ptr b] w fun e w' => e = .returned (.int .i64 (kd W k)) ∧ Below w.heap.size w w' := by
  obtain ⟨⟨c0, c1, _, _, _, _, _⟩, _⟩ := blk7 hb
  by_cases hlt : k < n
  · obtain ⟨t, ht⟩ : ∃ t, W[k]? = some t := ⟨_, List.getElem?_eq_getElem (by omega)⟩
    obtain ⟨bb, off, As, ks, rfl, hl, ⟨p0, p1, p2, p3, p4⟩, _⟩ := hW k t ht
    have hv : kd W k = t.kind := by unfold kd; rw [ht]
    rw [hv]
    have hne : ((k : Int) == (n : Int)) = false := beq_eq_false_iff_ne.2 (by omega)
    have hlt' : (k : Int) < (n : Int) := by omega
    clear hn hb hW ht hv
    go_enter Tryd.func29, Tryd.ntmps29
    go_wp2_with fail
    go_quiet (fail)
    go_wp2_with fail
    go_quiet (fail)
    go_wp2_with fail
    go_ret
    exact ⟨rfl, below_drews (below_drews (Below.refl _ _) _) _⟩
  · obtain rfl : k = n := by omega
    have hv : kd W k = 0 := kd_out (by omega)
    rw [hv]
    clear hn hb hW hv
    go_enter Tryd.func29, Tryd.ntmps29
    go_wp2_with fail
    go_quiet (fail)
    go_wp2_with fail
    go_ret
    exact ⟨rfl, below_drews (Below.refl _ _) _⟩
set_option maxHeartbeats 2000000 in
set_option maxRecDepth 100000 in
theorem take_any {w : World} {b : Nat} {Aw : Option Addr} {n cw k : Nat} {v o cp e f : Value} {W : List ObLex.T} {t : ObLex.T} (hn : W.length = n) (hb : w.heap[b]? = some (rdO Aw n cw k v o cp e f)) (hW : Wr w b Aw W) (ht : W[k]? = some t) (hk : n ≤ 1000000) :
    Calls Tryd.prog 30 #[ptr b] w fun e' w' => ∃ As ks, e' = .returned (tv t.kind t.at_ (.slice As t.set.length ks) t.mn t.mx) ∧ S.Rgs w b As t.set ∧ w'.heap[b]? = some (rdO Aw n cw ((k : Int) + 1) v o cp e f) ∧ Ex b w w' := by
  have hlt : k < n := by have := (List.getElem?_eq_some_iff.1 ht).1; omega
  obtain ⟨bb, off, As, ks, rfl, hl, ⟨p0, p1, p2, p3, p4⟩, hr⟩ := hW k t ht
  have hr' := Lib.hid hr
  have hbl := lt_of_heap hb
  have ew : IntKind.i64.wrap ((k : Int) + 1) = (k : Int) + 1 := IntWalk.i64_in _ (by omega)
  have ew2 : IntKind.i64.wrap ((k : Int) + 1 - 1) = (k : Int) := by rw [show (k : Int) + 1 - 1 = k by omega]; exact IntWalk.i64_in _ (by omega)
  have hlt' : (k : Int) < (n : Int) := by omega
  obtain ⟨⟨c0, c1, _, _, _, _, _⟩, cf⟩ := blk7 hb
  have cf1 := cf 1
  have hz : (w.setCell ⟨b, 1, none⟩ (.int .i64 ((k : Int) + 1))).heap.size = w.heap.size := by simp [World.setCell]
  have hx := (Ex.one b w 1 (.int .i64 ((k : Int) + 1))).alloc (.cells #[.int .i64 0, .int .i64 0, .slice none 0 0, .int .i64 0, .int .i64 0] 50)
  have hb1 := keepL (heap_set 1 (.int .i64 ((k : Int) + 1)) hb) ((Below.refl _ _).alloc (Nat.le_refl _) (.cells #[.int .i64 0, .int .i64 0, .slice none 0 0, .int .i64 0, .int .i64 0] 50))
  have hg1 := heap_new (w.setCell ⟨b, 1, none⟩ (.int .i64 ((k : Int) + 1))) (.cells #[.int .i64 0, .int .i64 0, .slice none 0 0, .int .i64 0, .int .i64 0] 50)
  rw [hz] at hg1
  have HB1 := Lib.hid hb1; have HG1 := Lib.hid hg1; have HX := Lib.hid hx
  have hq : Below b w _ := hx.below (by omega) (Nat.le_refl _)
  have p0' := (hq.cell (p := ⟨bb, _, none⟩) hl).trans p0
  have p1' := (hq.cell (p := ⟨bb, _, none⟩) hl).trans p1
  have p2' := (hq.cell (p := ⟨bb, _, none⟩) hl).trans p2
  have p3' := (hq.cell (p := ⟨bb, _, none⟩) hl).trans p3
  have p4' := (hq.cell (p := ⟨bb, _, none⟩) hl).trans p4
  clear hb hW ht hr hx hb1 hg1 hq cf p0 p1 p2 p3 p4 hz hn
  go_enter Tryd.func30, Tryd.ntmps30
  go_upto_region 2 with fail
  clear c0 c1 cf1
  generalize (w.setCell ⟨b, 1, none⟩ (.int .i64 ((k : Int) + 1))).alloc (.cells #[.int .i64 0, .int .i64 0, .slice none 0 0, .int .i64 0, .int .i64 0] 50) = W1 at *
  obtain ⟨⟨d0, d1, _, _, _, _, _⟩, _⟩ := blk7 HB1.out
  obtain ⟨⟨g0, g1, g2, g3, g4⟩, h0, h1, h2, h3, h4⟩ := blk5 HG1.out
  go_region
  go_wp2_with fail
  refine bodyPost_ret (v := tv t.kind t.at_ (.slice As t.set.length ks) t.mn t.mx) ?_ rfl ?_
  · rw [S.results_cell1 rfl]
    go_simp
  · have hV := (((((Ex.one w.heap.size W1 0 (.int .i64 t.kind)).setL 1 (.int .i64 t.at_)).setL 2 (.slice As t.set.length ks)).setL 3 (.int .i64 t.mn)).setL 4 (.int .i64 t.mx)).drew
    have hX := (((((HX.out.set (Nat.le_refl _) 0 (.int .i64 t.kind)).set (Nat.le_refl _) 1 (.int .i64 t.at_)).set (Nat.le_refl _) 2 (.slice As t.set.length ks)).set (Nat.le_refl _) 3 (.int .i64 t.mn)).set (Nat.le_refl _) 4 (.int .i64 t.mx)).drew
    exact ⟨As, ks, rfl, hr'.out, keepB HB1.out hV (by omega), hX⟩
set_option maxHeartbeats 2000000 in
set_option maxRecDepth 100000 in
theorem fail_any {w : World} {b : Nat} {Aw : Option Addr} {n cw k : Nat} {v o cp e f : Value} {W : List ObLex.T} {t : ObLex.T} {why : Int} (hn : W.length = n) (hb : w.heap[b]? = some (rdO Aw n cw k v o cp e f)) (hW : Wr w b Aw W) (ht : W[k]? = some t) :
    Calls Tryd.prog 12 #[ptr b, .int .i64 why] w fun e' w' => e' = .returned (.tuple #[]) ∧ w'.heap[b]? = some (rdO Aw n cw (n : Int) v o cp (.int .i64 why) (.int .i64 t.at_)) ∧ Ex b w w' := by
  have hlt : k < n := by have := (List.getElem?_eq_some_iff.1 ht).1; omega
  obtain ⟨bb, off, As, ks, rfl, hl, ⟨p0, p1, p2, p3, p4⟩, hr⟩ := hW k t ht
  have hbl := lt_of_heap hb
  have hlt' : (k : Int) < (n : Int) := by omega
  obtain ⟨⟨c0, c1, _, _, _, c5, c6⟩, cf⟩ := blk7 hb
  have cf5 := cf 5; have cf6 := cf 6
  have HB := Lib.hid hb
  clear hb hW ht hr cf hn
  go_enter Tryd.func12, Tryd.ntmps12
  go_wp2_with fail
  go_region
  go_upto_region 1 with fail
  have HB2 := Lib.hid (show (((w.setCell ⟨b, 5, none⟩ (.int .i64 why)).setCell ⟨b, 6, none⟩ (.int .i64 t.at_)).drew).heap[b]? = some (rdO (some ⟨bb, off, none⟩) n cw (k : Int) v o cp (.int .i64 why) (.int .i64 t.at_)) from heap_set 6 (.int .i64 t.at_) (heap_set 5 (.int .i64 why) HB.out))
  have HX2 := Lib.hid (((Ex.one b w 5 (.int .i64 why)).setL 6 (.int .i64 t.at_)).drew)
  clear c0 c1 c5 c6 cf5 cf6
  generalize ((w.setCell ⟨b, 5, none⟩ (.int .i64 why)).setCell ⟨b, 6, none⟩ (.int .i64 t.at_)).drew = W2 at *
  obtain ⟨⟨d0, d1, _, _, _, _, _⟩, df⟩ := blk7 HB2.out
  have df1 := df 1
  clear df
  go_wp2_with fail
  refine bodyPost_end (results_none rfl _ _ _) rfl ?_
  refine ⟨rfl, ?_, HX2.out.setL 1 _⟩
  exact heap_set 1 (.int .i64 (n : Int)) HB2.out
end Go.Proofs.YtceeimolfalmpaaDoor.T

namespace Go.Proofs.YtceeimolfalmpaaDoor.T
open Go.RowKit ObSets ObTree ObParse
open Go.Proofs.YtceeimolfalmpaaDoor (tv fv)

theorem step_append_nk {w : World} {ops : Array Oper} {E : Prop} {o : Oper} {a : Act} {K : Act → World → Prop} {Q : Exit → Act → World → Prop} (hw : Region.wanted o (yielded ops a.tmps) = true) (h : o.wp Tryd.prog a w K Q) : if Region.wanted o (yielded ops a.tmps) = true then o.wp Tryd.prog a w K Q else E := by rw [if_pos hw]; exact h
theorem nk_set {w : World} {b : Nat} {v : Value} {l : List Nd} (h : Nk w b v l) (hv : ∀ k, v.ownBlock = some k → b + 1 ≤ k) (i : Nat) (u : Value) : Nk (w.setCell ⟨b, i, none⟩ u) b v l := by
  obtain ⟨L, h1, h2, h3⟩ := h
  refine ⟨L, h1, ownsRow_setCell_other h2 (fun e => by have := hv b e; omega) u, fun p hp => ?_⟩
  obtain ⟨As, ks, e, hg⟩ := h3 p hp
  exact ⟨As, ks, e, hg.below ((Below.refl b w).setCell (p := ⟨b, i, none⟩) (Nat.le_refl _) u)⟩
/-- The reader's nodes: an own row, in blocks behind its own. -/
def Nds (w : World) (b : Nat) (v : Value) (L : List Nd) : Prop := Nk w b v L ∧ ∀ g, v.ownBlock = some g → b < g
set_option maxHeartbeats 4000000 in
set_option maxRecDepth 100000 in
theorem add_any {w : World} {b : Nat} {Aw A : Option Addr} {n cw c m : Nat} {k : Int} {o cp e f : Value} {L : List Nd} (x : Nd) (As : Option Addr) (ks : Nat) (hb : w.heap[b]? = some (rdO Aw n cw k (.slice A m c) o cp e f)) (hm : L.length = m) (hL : Nds w b (.slice A m c) L) (hr : S.Rgs w b As x.set) (hmb : m ≤ 50000) :
    Calls Tryd.prog 26 #[ptr b, nv x (.slice As x.set.length ks)] w fun e' w' => e' = .returned (.int .i64 (m : Int)) ∧ (∃ A' c', w'.heap[b]? = some (rdO Aw n cw k (.slice A' (m + 1) c') o cp e f) ∧ Nds w' b (.slice A' (m + 1) c') (L ++ [x])) ∧ Below b w w' := by
  have hbl := lt_of_heap hb
  have al := fun (W : World) (o : Obj) => (Below.refl W.heap.size W).alloc (Nat.le_refl _) o
  have hb0 := keepL hb (al w (.cells #[.int .i64 x.kind, .int .i64 x.a, .int .i64 x.b, .slice As x.set.length ks, .int .i64 x.mn, .int .i64 x.mx, .int .i64 x.n] 36))
  have hx0 := heap_new w (.cells #[.int .i64 x.kind, .int .i64 x.a, .int .i64 x.b, .slice As x.set.length ks, .int .i64 x.mn, .int .i64 x.mx, .int .i64 x.n] 36)
  have hL0 := hL.1.below (Nat.le_of_lt hbl) (al w (.cells #[.int .i64 x.kind, .int .i64 x.a, .int .i64 x.b, .slice As x.set.length ks, .int .i64 x.mn, .int .i64 x.mx, .int .i64 x.n] 36))
  have hO := hL.2
  have HBA := Lib.hid ((al w (.cells #[.int .i64 x.kind, .int .i64 x.a, .int .i64 x.b, .slice As x.set.length ks, .int .i64 x.mn, .int .i64 x.mx, .int .i64 x.n] 36)).mono (Nat.le_of_lt hbl))
  have hlt : b < (w.alloc (.cells #[.int .i64 x.kind, .int .i64 x.a, .int .i64 x.b, .slice As x.set.length ks, .int .i64 x.mn, .int .i64 x.mx, .int .i64 x.n] 36)).heap.size := by simp; omega
  have hr0 := hr.below HBA.out
  clear hb hL hr
  go_enter Tryd.func26, Tryd.ntmps26
  go_upto_region 1 with fail
  generalize w.alloc (.cells #[.int .i64 x.kind, .int .i64 x.a, .int .i64 x.b, .slice As x.set.length ks, .int .i64 x.mn, .int .i64 x.mx, .int .i64 x.n] 36) = X at *
  generalize hsl : x.set.length = sl at *
  generalize hxb : w.heap.size = xb at *
  have HL0 := Lib.hid hL0; have HO := Lib.hid hO; have HR0 := Lib.hid hr0; have HB0 := Lib.hid hb0; have HX0 := Lib.hid hx0; have HSL := Lib.hid hsl; have HM := Lib.hid hm
  obtain ⟨⟨c0, c1, c2, c3, c4, c5, c6⟩, cf⟩ := blk7 hb0
  have cf2 := cf 2
  obtain ⟨⟨x0, x1, x2, x3, x4, x5, x6⟩, _⟩ := blk7 hx0
  clear hL0 hO hr0 hb0 hx0 hsl hm cf hxb
  have HNW := Lib.hid (show Nk (X.alloc (.cells #[.int .i64 x.kind, .int .i64 x.a, .int .i64 x.b, .slice As sl ks, .int .i64 x.mn, .int .i64 x.mx, .int .i64 x.n] 36)).drew b (.slice A m c) L from (HL0.out.below (Nat.le_of_lt hlt) (al _ _)).below (by simp; omega) (Below.refl _ _).drew)
  have HBW := Lib.hid (show (X.alloc (.cells #[.int .i64 x.kind, .int .i64 x.a, .int .i64 x.b, .slice As sl ks, .int .i64 x.mn, .int .i64 x.mx, .int .i64 x.n] 36)).drew.heap[b]? = some (rdO Aw n cw k (.slice A m c) o cp e f) from (show (X.alloc (.cells #[.int .i64 x.kind, .int .i64 x.a, .int .i64 x.b, .slice As sl ks, .int .i64 x.mn, .int .i64 x.mx, .int .i64 x.n] 36)).heap[b]? = some (rdO Aw n cw k (.slice A m c) o cp e f) from keepL HB0.out (al X (.cells #[.int .i64 x.kind, .int .i64 x.a, .int .i64 x.b, .slice As sl ks, .int .i64 x.mn, .int .i64 x.mx, .int .i64 x.n] 36))))
  have HRW := Lib.hid (show S.Rgs (X.alloc (.cells #[.int .i64 x.kind, .int .i64 x.a, .int .i64 x.b, .slice As sl ks, .int .i64 x.mn, .int .i64 x.mx, .int .i64 x.n] 36)).drew b As x.set from HR0.out.below ((al X (.cells #[.int .i64 x.kind, .int .i64 x.a, .int .i64 x.b, .slice As sl ks, .int .i64 x.mn, .int .i64 x.mx, .int .i64 x.n] 36)).mono (Nat.le_of_lt hlt)).drew)
  have HXW := Lib.hid (show (X.alloc (.cells #[.int .i64 x.kind, .int .i64 x.a, .int .i64 x.b, .slice As sl ks, .int .i64 x.mn, .int .i64 x.mx, .int .i64 x.n] 36)).drew.heap[X.heap.size]? = some (.cells #[.int .i64 x.kind, .int .i64 x.a, .int .i64 x.b, .slice As x.set.length ks, .int .i64 x.mn, .int .i64 x.mx, .int .i64 x.n] 36) from (by rw [HSL.out]; exact heap_new X (.cells #[.int .i64 x.kind, .int .i64 x.a, .int .i64 x.b, .slice As sl ks, .int .i64 x.mn, .int .i64 x.mx, .int .i64 x.n] 36)))
  have HZW := Lib.hid (show b + 1 ≤ (X.alloc (.cells #[.int .i64 x.kind, .int .i64 x.a, .int .i64 x.b, .slice As sl ks, .int .i64 x.mn, .int .i64 x.mx, .int .i64 x.n] 36)).drew.heap.size from (by simp; omega))
  have HBX := Lib.hid (show Below b X (X.alloc (.cells #[.int .i64 x.kind, .int .i64 x.a, .int .i64 x.b, .slice As sl ks, .int .i64 x.mn, .int .i64 x.mx, .int .i64 x.n] 36)).drew from ((al X (.cells #[.int .i64 x.kind, .int .i64 x.a, .int .i64 x.b, .slice As sl ks, .int .i64 x.mn, .int .i64 x.mx, .int .i64 x.n] 36)).mono (Nat.le_of_lt hlt)).drew)
  go_region_law (first
    | (refine step_append_nk (by rfl) ?_; refine wp_append_nk _ _ rfl b (.slice A m c) L [x] 1 rfl HNW.out (some ⟨X.heap.size, 0, none⟩) 1 rfl rfl (Sc.one HXW.out HRW.out) (by rw [HM.out]; omega) (b + 1) (Nat.le_succ _) HZW.out HO.out ?_; intro v2 V2 hn2 hv2 hg2; obtain ⟨A2, c2', e2⟩ := hn2.shape; rw [List.length_append, HM.out, List.length_singleton] at e2; subst e2; have HN2 := Lib.hid hn2; have HV2 := Lib.hid hv2; have hb2 := keepG HBW.out hg2 (fun g hg => Nat.ne_of_gt (HO.out g hg)); have HB2 := Lib.hid hb2; have HW2 := Lib.hid (HBX.out.trans (below_grown hg2 (Nat.le_of_succ_le HZW.out) (fun g hg => Nat.le_of_lt (HO.out g hg)))); obtain ⟨⟨_, _, d2, _, _, _, _⟩, df⟩ := blk7 hb2; have df2 := df 2; clear df hn2 hv2 hg2 hb2)
    | fail)
  all_goals
    have ew : IntKind.i64.wrap ((m : Int) + 1 - 1) = (m : Int) := by rw [show (m : Int) + 1 - 1 = m by omega]; exact IntWalk.i64_in _ (by omega)
    have ew2 : IntKind.i64.wrap (((m + 1 : Nat) : Int) - 1) = (m : Int) := by rw [show ((m + 1 : Nat) : Int) - 1 = m by omega]; exact IntWalk.i64_in _ (by omega)
    have hb3 := heap_set 2 (.slice A2 (m + 1) c2') HB2.out
    have HB3 := Lib.hid (show (V2.setCell ⟨b, 2, none⟩ (.slice A2 (m + 1) c2')).heap[b]? = some (rdO Aw n cw k (.slice A2 (m + 1) c2') o cp e f) from hb3)
    have HN3 := Lib.hid (show Nds (V2.setCell ⟨b, 2, none⟩ (.slice A2 (m + 1) c2')) b (.slice A2 (m + 1) c2') (L ++ [x]) from ⟨nk_set HN2.out HV2.out _ _, fun g hg => HV2.out g hg⟩)
    have HW3 := Lib.hid (HBA.out.trans (HW2.out.setCell (p := ⟨b, 2, none⟩) (Nat.le_refl _) (.slice A2 (m + 1) c2')))
    obtain ⟨⟨_, _, g2, _, _, _, _⟩, _⟩ := blk7 HB3.out
    clear hb3
    go_wp2_with fail
    go_ret
    exact ⟨rfl, ⟨A2, c2', HB3.out, HN3.out⟩, HW3.out⟩
end Go.Proofs.YtceeimolfalmpaaDoor.T

namespace Go.Proofs.YtceeimolfalmpaaDoor.T
open Go.RowKit ObSets ObTree ObParse
open Go.Proofs.YtceeimolfalmpaaDoor (tv fv)

/-- The step for an atom that begins with a word of such a kind. -/
def atV (b : Nat) (c : Int) : Value :=
  if c = 1 then .func (.func 61) #[ptr b] #[] else if c = 8 then .func (.func 62) #[ptr b] #[] else if c = 9 then .func (.func 63) #[ptr b] #[] else if c = 2 then .func (.func 64) #[ptr b] #[] else if c = 3 then .func (.func 65) #[ptr b] #[] else .nilFunc
set_option maxHeartbeats 2000000 in
set_option maxRecDepth 100000 in
theorem atom_any {w : World} {b : Nat} {Aw : Option Addr} {n cw k : Nat} {v o cp e f : Value} {W : List ObLex.T} (hn : W.length = n) (hb : w.heap[b]? = some (rdO Aw n cw k v o cp e f)) (hW : Wr w b Aw W) (hk : k ≤ n) :
    Calls Tryd.prog 45 #[ptr b] w fun e' w' => e' = .returned (atV b (kd W k)) ∧ Below w.heap.size w w' := by
  have HK := Lib.hid (kind_any hn hb hW hk)
  clear hb hW hk hn
  generalize kd W k = c at *
  go_enter Tryd.func45, Tryd.ntmps45
  go_wp2_with fail
  refine HK.out.mono ?_
  rintro e1 w1 ⟨rfl, hb1⟩
  have HB := Lib.hid hb1
  clear hb1
  by_cases h1 : c = 1
  · subst h1
    go_wp2_with fail
    go_ret
    exact ⟨rfl, HB.out⟩
  have e1 : (c == 1) = false := beq_eq_false_iff_ne.2 h1
  by_cases h8 : c = 8
  · subst h8
    go_wp2_with fail
    go_ret
    exact ⟨rfl, HB.out⟩
  have e8 : (c == 8) = false := beq_eq_false_iff_ne.2 h8
  by_cases h9 : c = 9
  · subst h9
    go_wp2_with fail
    go_ret
    exact ⟨rfl, HB.out⟩
  have e9 : (c == 9) = false := beq_eq_false_iff_ne.2 h9
  by_cases h2 : c = 2
  · subst h2
    go_wp2_with fail
    go_ret
    exact ⟨rfl, HB.out⟩
  have e2 : (c == 2) = false := beq_eq_false_iff_ne.2 h2
  by_cases h3 : c = 3
  · subst h3
    go_wp2_with fail
    go_ret
    exact ⟨rfl, HB.out⟩
  have e3 : (c == 3) = false := beq_eq_false_iff_ne.2 h3
  have hv : atV b c = .nilFunc := by unfold atV; rw [if_neg h1, if_neg h8, if_neg h9, if_neg h2, if_neg h3]
  have HV := Lib.hid hv
  clear hv h1 h8 h9 h2 h3
  go_wp2_with fail
  go_ret
  exact ⟨by rw [HV.out]; rfl, HB.out⟩
set_option maxHeartbeats 2000000 in
set_option maxRecDepth 100000 in
theorem begins_any {w : World} {b : Nat} {Aw : Option Addr} {n cw k : Nat} {v o cp e f : Value} {W : List ObLex.T} (hn : W.length = n) (hb : w.heap[b]? = some (rdO Aw n cw k v o cp e f)) (hW : Wr w b Aw W) (hk : k ≤ n) :
    Calls Tryd.prog 27 #[ptr b] w fun e' w' => e' = .returned (.bool (decide (beg (kd W k)))) ∧ Below w.heap.size w w' := by
  have HK := Lib.hid (atom_any hn hb hW hk)
  clear hb hW hk hn
  generalize kd W k = c at *
  by_cases hg : beg c
  · rw [decide_eq_true hg]
    have hf : ∃ q, atV b c = .func (.func q) #[ptr b] #[] := by
      unfold beg at hg
      unfold atV
      rcases hg with rfl | rfl | rfl | rfl | rfl
      · exact ⟨61, rfl⟩
      · exact ⟨62, rfl⟩
      · exact ⟨63, rfl⟩
      · exact ⟨64, rfl⟩
      · exact ⟨65, rfl⟩
    obtain ⟨q, hq⟩ := hf
    rw [hq] at HK
    clear hq hg
    have hne : ∀ W, (binOp .neq 56 (.func (.func q) #[ptr b] #[]) .nilFunc).run Tryd.prog W = .ok (.bool true) W := fun W => rfl
    go_enter Tryd.func27, Tryd.ntmps27
    go_wp2_with fail
    refine HK.out.mono ?_
    rintro e1 w1 ⟨rfl, hb1⟩
    have HB := Lib.hid hb1
    clear hb1
    go_wp2_with fail
    go_ret
    exact ⟨rfl, HB.out⟩
  · rw [decide_eq_false hg]
    have hq : atV b c = .nilFunc := by unfold beg at hg; unfold atV; rw [if_neg (by omega), if_neg (by omega), if_neg (by omega), if_neg (by omega), if_neg (by omega)]
    rw [hq] at HK
    clear hq hg
    have hne : ∀ W, (binOp .neq 56 (.nilFunc) .nilFunc).run Tryd.prog W = .ok (.bool false) W := fun W => rfl
    go_enter Tryd.func27, Tryd.ntmps27
    go_wp2_with fail
    refine HK.out.mono ?_
    rintro e1 w1 ⟨rfl, hb1⟩
    have HB := Lib.hid hb1
    clear hb1
    go_wp2_with fail
    go_ret
    exact ⟨rfl, HB.out⟩
end Go.Proofs.YtceeimolfalmpaaDoor.T

namespace Go.Proofs.YtceeimolfalmpaaDoor.T
open Go.RowKit ObSets ObTree ObParse
open Go.Proofs.YtceeimolfalmpaaDoor (tv fv)

/-- The reader, while all is well: its place, its nodes, how many groups are open; of groups with numbers as many as may be. -/
def SttR (w : World) (b : Nat) (Aw : Option Addr) (cw : Nat) (W : List ObLex.T) (s : St) (o : Nat) : Prop :=
  ∃ A c, w.heap[b]? = some (rdO Aw W.length cw (s.k : Int) (.slice A s.L.length c) (.int .i64 (o : Int)) (.int .i64 (s.caps : Int)) (.int .i64 0) (.int .i64 0)) ∧ Nds w b (.slice A s.L.length c) s.L ∧ Wr w b Aw W ∧ s.k ≤ W.length
def Stt (w : World) (b : Nat) (Aw : Option Addr) (cw : Nat) (W : List ObLex.T) (s : St) (o : Nat) : Prop := SttR w b Aw cw W s o ∧ s.caps ≤ 99
/-- The reader when it has stopped: at the words' end, with a fault, or with a group open. -/
def Jnk (w : World) (b : Nat) (Aw : Option Addr) (cw : Nat) (W : List ObLex.T) (er : Er) (m : Nat) : Prop :=
  ∃ A c n l, ∃ (o cp : Nat) (e f : Int), l.length = n ∧ n ≤ m ∧ w.heap[b]? = some (rdO Aw W.length cw (W.length : Int) (.slice A n c) (.int .i64 (o : Int)) (.int .i64 (cp : Int)) (.int .i64 e) (.int .i64 f)) ∧ Nds w b (.slice A n c) l ∧ Wr w b Aw W ∧
    (∀ q, er = some q → e = q.1 ∧ f = q.2 ∧ q.1 ≠ 0) ∧ (er = none → e = 0 ∧ 0 < o)
/-- What a step leaves. -/
def RetP (b : Nat) (Aw : Option Addr) (cw : Nat) (W : List ObLex.T) (o m : Nat) (r : PR) (w : World) (e : Ending) (w' : World) : Prop :=
  Below b w w' ∧ (∀ s' a, r = .ok (s', a) → e = .returned (.int .i64 a) ∧ Stt w' b Aw cw W s' o) ∧ (∀ er, r = .error er → (∃ z : Int, e = .returned (.int .i64 z)) ∧ Jnk w' b Aw cw W er m)
theorem Nds.ex {w w' : World} {b : Nat} {v : Value} {L : List Nd} (h : Nds w b v L) (hx : Ex b w w') (hb : b ≤ w.heap.size) : Nds w' b v L := by
  obtain ⟨⟨M, h1, h2, h3⟩, h4⟩ := h
  refine ⟨⟨M, h1, ⟨h2.1, ?_⟩, fun p hp => ?_⟩, h4⟩
  · rcases h2.2 with h | ⟨g, cap, cur, hv, hbg, hg, rest⟩
    · exact .inl h
    · exact .inr ⟨g, cap, cur, hv, hbg, keepB hg hx (Nat.ne_of_gt (h4 g (by rw [hv]; rfl))), rest⟩
  · obtain ⟨As, ks, e, hr⟩ := h3 p hp
    exact ⟨As, ks, e, hr.below (hx.below hb (Nat.le_refl _))⟩
theorem Nds.below {w w' : World} {b : Nat} {v : Value} {L : List Nd} (h : Nds w b v L) (hb : b ≤ w.heap.size) (hw : Below w.heap.size w w') : Nds w' b v L := ⟨h.1.below hb hw, h.2⟩
theorem Stt.lt {w : World} {b : Nat} {Aw : Option Addr} {cw : Nat} {W : List ObLex.T} {s : St} {o : Nat} (h : Stt w b Aw cw W s o) : b < w.heap.size := by
  obtain ⟨⟨A, c, h, _⟩, _⟩ := h
  exact lt_of_heap h
theorem Stt.below {w w' : World} {b : Nat} {Aw : Option Addr} {cw : Nat} {W : List ObLex.T} {s : St} {o : Nat} (h : Stt w b Aw cw W s o) (hw : Below w.heap.size w w') : Stt w' b Aw cw W s o := by
  have hl := Nat.le_of_lt h.lt
  obtain ⟨⟨A, c, h1, h2, h3, h4⟩, h5⟩ := h
  exact ⟨⟨A, c, keepL h1 hw, h2.below hl hw, h3.below (hw.mono hl), h4⟩, h5⟩
theorem Jnk.lt {w : World} {b : Nat} {Aw : Option Addr} {cw : Nat} {W : List ObLex.T} {er : Er} {m : Nat} (h : Jnk w b Aw cw W er m) : b < w.heap.size := by
  obtain ⟨A, c, n, l, o, cp, e, f, _, _, h, _⟩ := h
  exact lt_of_heap h
theorem Jnk.below {w w' : World} {b : Nat} {Aw : Option Addr} {cw : Nat} {W : List ObLex.T} {er : Er} {m m' : Nat} (h : Jnk w b Aw cw W er m) (hm : m ≤ m') (hw : Below w.heap.size w w') : Jnk w' b Aw cw W er m' := by
  have hl := Nat.le_of_lt h.lt
  obtain ⟨A, c, n, l, o, cp, e, f, h1, h2, h3, h4, h5, h6⟩ := h
  exact ⟨A, c, n, l, o, cp, e, f, h1, Nat.le_trans h2 hm, keepL h3 hw, h4.below hl hw, h5.below (hw.mono hl), h6⟩
/-- A word taken. -/
theorem stt_take {w : World} {b : Nat} {Aw : Option Addr} {cw : Nat} {W : List ObLex.T} {s : St} {o : Nat} {t : ObLex.T} (h : Stt w b Aw cw W s o) (ht : W[s.k]? = some t) (hW : W.length ≤ 1000) :
    Calls Tryd.prog 30 #[ptr b] w fun e' w' => ∃ As ks, e' = .returned (.agg #[.int .i64 t.kind, .int .i64 t.at_, .slice As t.set.length ks, .int .i64 t.mn, .int .i64 t.mx]) ∧ S.Rgs w' b As t.set ∧ Stt w' b Aw cw W (nxt s) o ∧ Below b w w' := by
  have hl := Nat.le_of_lt h.lt
  have hlt : s.k < W.length := (List.getElem?_eq_some_iff.1 ht).1
  obtain ⟨⟨A, c, h1, h2, h3, h4⟩, h5⟩ := h
  refine (take_any rfl h1 h3 ht (by omega)).mono fun e' w' ⟨As, ks, e, hr, hb, hx⟩ => ?_
  have hbel := hx.below hl (Nat.le_refl _)
  refine ⟨As, ks, e, hr.below hbel, ⟨⟨A, c, ?_, h2.ex hx hl, h3.below hbel, ?_⟩, h5⟩, hbel⟩
  · rw [hb]; congr 1
  · show s.k + 1 ≤ W.length; omega
/-- A node put behind all others. -/
theorem stt_add {w : World} {b : Nat} {Aw : Option Addr} {cw : Nat} {W : List ObLex.T} {s : St} {o : Nat} (h : Stt w b Aw cw W s o) (x : Nd) (As : Option Addr) (ks : Nat) (hr : S.Rgs w b As x.set) (hm : s.L.length ≤ 50000) :
    Calls Tryd.prog 26 #[ptr b, nv x (.slice As x.set.length ks)] w fun e' w' => e' = .returned (.int .i64 (put s x).2) ∧ Stt w' b Aw cw W (put s x).1 o ∧ Below b w w' := by
  obtain ⟨⟨A, c, h1, h2, h3, h4⟩, h5⟩ := h
  refine (add_any x As ks h1 rfl h2 hr hm).mono fun e' w' ⟨e, ⟨A', c', hb, hn⟩, hw⟩ => ⟨e, ⟨⟨A', c', ?_, ?_, h3.below hw, h4⟩, h5⟩, hw⟩
  · simp only [put, List.length_append, List.length_singleton]; exact hb
  · simp only [put, List.length_append, List.length_singleton]; exact hn
set_option maxRecDepth 100000 in
theorem fld2 (k a m n : Int) (v : Value) (hv : ∃ A l c, v = .slice A l c) (W : World) : (Instr.field 50 (.agg #[.int .i64 k, .int .i64 a, v, .int .i64 m, .int .i64 n]) 2).run Tryd.prog W = .ok v W := by
  obtain ⟨A, l, c, rfl⟩ := hv
  rfl
set_option maxRecDepth 100000 in
theorem fld3 (k a m n : Int) (v : Value) (hv : ∃ A l c, v = .slice A l c) (W : World) : (Instr.field 50 (.agg #[.int .i64 k, .int .i64 a, v, .int .i64 m, .int .i64 n]) 3).run Tryd.prog W = .ok (.int .i64 m) W := by
  obtain ⟨A, l, c, rfl⟩ := hv
  rfl
set_option maxHeartbeats 2000000 in
set_option maxRecDepth 100000 in
theorem set_any {w : World} {b : Nat} {Aw : Option Addr} {cw : Nat} {W : List ObLex.T} {s : St} {o : Nat} {t : ObLex.T} (h : Stt w b Aw cw W s o) (ht : W[s.k]? = some t) (hW : W.length ≤ 1000) (hm : s.L.length ≤ 50000) :
    Calls Tryd.prog 61 #[ptr b] w fun e' w' => e' = .returned (.int .i64 (put (nxt s) ⟨2, 0, 0, t.set, 0, 0, 0⟩).2) ∧ Stt w' b Aw cw W (put (nxt s) ⟨2, 0, 0, t.set, 0, 0, 0⟩).1 o ∧ Below b w w' := by
  have HT := Lib.hid (stt_take h ht hW)
  clear h
  go_enter Tryd.func61, Tryd.ntmps61
  go_wp2_with fail
  refine HT.out.mono ?_
  rintro e1 w1 ⟨As, ks, rfl, hr, hs, hb⟩
  have hf := fld2 t.kind t.at_ t.mn t.mx (.slice As t.set.length ks) ⟨_, _, _, rfl⟩
  have HA := Lib.hid (stt_add hs ⟨2, 0, 0, t.set, 0, 0, 0⟩ As ks hr hm)
  have HB := Lib.hid hb
  clear hr hs hb
  go_wp2_with fail
  refine HA.out.mono ?_
  rintro e2 w2 ⟨rfl, hs2, hb2⟩
  have HS := Lib.hid hs2
  have HB2 := Lib.hid (HB.out.trans hb2)
  clear hs2 hb2
  go_wp2_with fail
  go_ret
  exact ⟨rfl, HS.out, HB2.out⟩
set_option maxHeartbeats 2000000 in
set_option maxRecDepth 100000 in
theorem bol_any {w : World} {b : Nat} {Aw : Option Addr} {cw : Nat} {W : List ObLex.T} {s : St} {o : Nat} {t : ObLex.T} (h : Stt w b Aw cw W s o) (ht : W[s.k]? = some t) (hW : W.length ≤ 1000) (hm : s.L.length ≤ 50000) :
    Calls Tryd.prog 62 #[ptr b] w fun e' w' => e' = .returned (.int .i64 (put (nxt s) ⟨3, 0, 0, [], 0, 0, 0⟩).2) ∧ Stt w' b Aw cw W (put (nxt s) ⟨3, 0, 0, [], 0, 0, 0⟩).1 o ∧ Below b w w' := by
  have HT := Lib.hid (stt_take h ht hW)
  clear h
  go_enter Tryd.func62, Tryd.ntmps62
  go_wp2_with fail
  refine HT.out.mono ?_
  rintro e1 w1 ⟨As, ks, rfl, _, hs, hb⟩
  have HA := Lib.hid (stt_add hs ⟨3, 0, 0, [], 0, 0, 0⟩ none 0 S.Rgs.nil hm)
  have HB := Lib.hid hb
  clear hs hb
  go_wp2_with fail
  refine HA.out.mono ?_
  rintro e2 w2 ⟨rfl, hs2, hb2⟩
  have HS := Lib.hid hs2
  have HB2 := Lib.hid (HB.out.trans hb2)
  clear hs2 hb2
  go_wp2_with fail
  go_ret
  exact ⟨rfl, HS.out, HB2.out⟩
set_option maxHeartbeats 2000000 in
set_option maxRecDepth 100000 in
theorem eol_any {w : World} {b : Nat} {Aw : Option Addr} {cw : Nat} {W : List ObLex.T} {s : St} {o : Nat} {t : ObLex.T} (h : Stt w b Aw cw W s o) (ht : W[s.k]? = some t) (hW : W.length ≤ 1000) (hm : s.L.length ≤ 50000) :
    Calls Tryd.prog 63 #[ptr b] w fun e' w' => e' = .returned (.int .i64 (put (nxt s) ⟨4, 0, 0, [], 0, 0, 0⟩).2) ∧ Stt w' b Aw cw W (put (nxt s) ⟨4, 0, 0, [], 0, 0, 0⟩).1 o ∧ Below b w w' := by
  have HT := Lib.hid (stt_take h ht hW)
  clear h
  go_enter Tryd.func63, Tryd.ntmps63
  go_wp2_with fail
  refine HT.out.mono ?_
  rintro e1 w1 ⟨As, ks, rfl, _, hs, hb⟩
  have HA := Lib.hid (stt_add hs ⟨4, 0, 0, [], 0, 0, 0⟩ none 0 S.Rgs.nil hm)
  have HB := Lib.hid hb
  clear hs hb
  go_wp2_with fail
  refine HA.out.mono ?_
  rintro e2 w2 ⟨rfl, hs2, hb2⟩
  have HS := Lib.hid hs2
  have HB2 := Lib.hid (HB.out.trans hb2)
  clear hs2 hb2
  go_wp2_with fail
  go_ret
  exact ⟨rfl, HS.out, HB2.out⟩
end Go.Proofs.YtceeimolfalmpaaDoor.T

namespace Go.Proofs.YtceeimolfalmpaaDoor.T
open Go.RowKit ObSets ObTree ObParse
open Go.Proofs.YtceeimolfalmpaaDoor (tv fv)

/-- What a look for more leaves: another state, or the same. -/
def RetM (b : Nat) (Aw : Option Addr) (cw : Nat) (W : List ObLex.T) (o : Nat) (s : St) (r : Option St) (w : World) (e : Ending) (w' : World) : Prop :=
  Below b w w' ∧ (∀ s1, r = some s1 → e = .returned (.bool true) ∧ Stt w' b Aw cw W s1 o) ∧ (r = none → e = .returned (.bool false) ∧ Stt w' b Aw cw W s o)
/-- What a reader that has stopped leaves. -/
def RetJ (b : Nat) (Aw : Option Addr) (cw : Nat) (W : List ObLex.T) (er : Er) (m : Nat) (w : World) (e : Ending) (w' : World) : Prop :=
  Below b w w' ∧ (∃ z : Int, e = .returned (.int .i64 z)) ∧ Jnk w' b Aw cw W er m
section
variable {w : World} {b : Nat} {Aw : Option Addr} {cw : Nat} {W : List ObLex.T} {s : St} {o : Nat} {er : Er} {m : Nat}
theorem stt_kind (h : Stt w b Aw cw W s o) : Calls Tryd.prog 29 #[ptr b] w fun e' w' => e' = .returned (.int .i64 (kd W s.k)) ∧ Stt w' b Aw cw W s o ∧ Below b w w' := by
  have hl := Nat.le_of_lt h.lt
  have h' := h
  obtain ⟨⟨A, c, h1, h2, h3, h4⟩, _⟩ := h
  exact (kind_any rfl h1 h3 h4).mono fun e' w' ⟨e, hb⟩ => ⟨e, h'.below hb, hb.mono hl⟩
theorem jnk_kind (h : Jnk w b Aw cw W er m) : Calls Tryd.prog 29 #[ptr b] w fun e' w' => e' = .returned (.int .i64 0) ∧ Jnk w' b Aw cw W er m ∧ Below b w w' := by
  have hl := Nat.le_of_lt h.lt
  have h' := h
  obtain ⟨A, c, n, l, o, cp, e, f, h1, h2, h3, h4, h5, h6⟩ := h
  refine (kind_any rfl h3 h5 (Nat.le_refl _)).mono fun e' w' ⟨e, hb⟩ => ⟨?_, h'.below (Nat.le_refl _) hb, hb.mono hl⟩
  rw [e, kd_out (Nat.le_refl _)]
theorem stt_begins (h : Stt w b Aw cw W s o) : Calls Tryd.prog 27 #[ptr b] w (RetM b Aw cw W o s (moreC W s) w) := by
  have hl := Nat.le_of_lt h.lt
  have h' := h
  obtain ⟨⟨A, c, h1, h2, h3, h4⟩, _⟩ := h
  refine (begins_any rfl h1 h3 h4).mono fun e' w' ⟨e, hb⟩ => ⟨hb.mono hl, fun s1 hs => ?_, fun hs => ?_⟩
  · unfold moreC at hs
    split at hs
    · rename_i hg
      injection hs with hs; subst hs
      exact ⟨by rw [e, decide_eq_true hg], h'.below hb⟩
    · cases hs
  · unfold moreC at hs
    split at hs
    · cases hs
    · rename_i hg
      exact ⟨by rw [e, decide_eq_false hg], h'.below hb⟩
theorem jnk_begins (h : Jnk w b Aw cw W er m) : Calls Tryd.prog 27 #[ptr b] w fun e' w' => e' = .returned (.bool false) ∧ Jnk w' b Aw cw W er m ∧ Below b w w' := by
  have hl := Nat.le_of_lt h.lt
  have h' := h
  obtain ⟨A, c, n, l, o, cp, e, f, h1, h2, h3, h4, h5, h6⟩ := h
  refine (begins_any rfl h3 h5 (Nat.le_refl _)).mono fun e' w' ⟨e, hb⟩ => ⟨?_, h'.below (Nat.le_refl _) hb, hb.mono hl⟩
  rw [e, kd_out (Nat.le_refl _)]; rfl
theorem jnk_add (h : Jnk w b Aw cw W er m) (x : Nd) (As : Option Addr) (ks : Nat) (hx : x.set = []) (hm : m ≤ 40000) :
    Calls Tryd.prog 26 #[ptr b, nv x (.slice As 0 ks)] w (RetJ b Aw cw W er (m + 1) w) := by
  obtain ⟨A, c, n, l, o, cp, e, f, h1, h2, h3, h4, h5, h6⟩ := h
  have h := add_any x As ks h3 h1 h4 (by rw [hx]; exact fun h => absurd rfl h) (by omega)
  rw [hx] at h
  refine h.mono fun e' w' ⟨e, ⟨A', c', hb, hn⟩, hw⟩ => ⟨hw, ⟨_, e⟩, ⟨A', c', n + 1, l ++ [x], o, cp, _, _, by simp [h1], by omega, hb, hn, h5.below hw, h6⟩⟩
set_option maxHeartbeats 2000000 in
set_option maxRecDepth 100000 in
theorem stt_bar (h : Stt w b Aw cw W s o) (hW : W.length ≤ 1000) : Calls Tryd.prog 16 #[ptr b] w (RetM b Aw cw W o s (moreA W s) w) := by
  have HK := Lib.hid (stt_kind h)
  clear h
  by_cases h5 : kd W s.k = 5
  · obtain ⟨t, ht⟩ : ∃ t, W[s.k]? = some t := ⟨_, List.getElem?_eq_getElem (kd_in (by omega))⟩
    have hm : moreA W s = some (nxt s) := by unfold moreA; rw [if_pos h5]
    rw [h5] at HK
    have HM := Lib.hid hm
    clear hm h5
    go_enter Tryd.func16, Tryd.ntmps16
    go_wp2_with fail
    refine HK.out.mono ?_
    rintro e1 w1 ⟨rfl, hs1, hb1⟩
    have HT := Lib.hid (stt_take hs1 ht hW)
    have HB := Lib.hid hb1
    clear hs1 hb1
    go_wp2_with fail
    refine HT.out.mono ?_
    rintro e2 w2 ⟨As, ks, rfl, _, hs2, hb2⟩
    have HS := Lib.hid hs2
    have HB2 := Lib.hid (HB.out.trans hb2)
    clear hs2 hb2
    go_wp2_with fail
    go_ret
    exact ⟨HB2.out, fun s1 h => by rw [HM.out] at h; injection h with h; subst h; exact ⟨rfl, HS.out⟩, fun h => by rw [HM.out] at h; cases h⟩
  · have hm : moreA W s = none := by unfold moreA; rw [if_neg h5]
    have hne : (kd W s.k != 5) = true := by rw [bne_iff_ne]; exact h5
    have HM := Lib.hid hm
    clear hm h5
    generalize kd W s.k = c at *
    go_enter Tryd.func16, Tryd.ntmps16
    go_wp2_with fail
    refine HK.out.mono ?_
    rintro e1 w1 ⟨rfl, hs1, hb1⟩
    have HS := Lib.hid hs1
    have HB := Lib.hid hb1
    clear hs1 hb1
    go_wp2_with fail
    go_ret
    refine ⟨HB.out, ⟨fun s1 h => ?_, fun _ => ⟨rfl, HS.out⟩⟩⟩
    rw [HM.out] at h
    cases h
set_option maxHeartbeats 2000000 in
set_option maxRecDepth 100000 in
theorem jnk_bar (h : Jnk w b Aw cw W er m) : Calls Tryd.prog 16 #[ptr b] w fun e' w' => e' = .returned (.bool false) ∧ Jnk w' b Aw cw W er m ∧ Below b w w' := by
  have HK := Lib.hid (jnk_kind h)
  clear h
  go_enter Tryd.func16, Tryd.ntmps16
  go_wp2_with fail
  refine HK.out.mono ?_
  rintro e1 w1 ⟨rfl, hs1, hb1⟩
  have HS := Lib.hid hs1
  have HB := Lib.hid hb1
  clear hs1 hb1
  go_wp2_with fail
  go_ret
  exact ⟨rfl, HS.out, HB.out⟩
end
end Go.Proofs.YtceeimolfalmpaaDoor.T

namespace Go.Proofs.YtceeimolfalmpaaDoor.T
open Go.RowKit ObSets ObTree ObParse
open Go.Proofs.YtceeimolfalmpaaDoor (tv fv)

/-- How many words are left, by the reader's block. -/
def leftW (b n : Nat) (w : World) : Nat := match w.cell? ⟨b, 1, none⟩ with | some (.int _ z) => n - z.toNat | _ => 0
theorem Stt.left {w : World} {b : Nat} {Aw : Option Addr} {cw : Nat} {W : List ObLex.T} {s : St} {o : Nat} (h : Stt w b Aw cw W s o) : leftW b W.length w = W.length - s.k := by
  obtain ⟨⟨A, c, h1, _⟩, _⟩ := h
  obtain ⟨⟨_, c1, _⟩, _⟩ := blk7 h1
  unfold leftW; rw [c1]; simp
theorem Jnk.left {w : World} {b : Nat} {Aw : Option Addr} {cw : Nat} {W : List ObLex.T} {er : Er} {m : Nat} (h : Jnk w b Aw cw W er m) : leftW b W.length w = 0 := by
  obtain ⟨A, c, n, l, o, cp, e, f, _, _, h1, _⟩ := h
  obtain ⟨⟨_, c1, _⟩, _⟩ := blk7 h1
  unfold leftW; rw [c1]; simp
theorem rowL_none {W : List ObLex.T} {kind : Int} {more : St → Option St} {part : St → PR} {s : St} (h : more s = none) (f : Nat) (a : Int) : rowL W kind more part f s a = .ok (s, a) := by
  cases f with
  | zero => rfl
  | succ f => unfold rowL; rw [h]
theorem rowL_err {W : List ObLex.T} {kind : Int} {more : St → Option St} {part : St → PR} {s s1 : St} {er : Er} (h : more s = some s1) (hp : part s1 = .error er) (f : Nat) (a : Int) : rowL W kind more part (f + 1) s a = .error er := by
  unfold rowL; rw [h]; dsimp only; rw [hp]
theorem rowL_go {W : List ObLex.T} {kind : Int} {more : St → Option St} {part : St → PR} {s s1 s2 : St} {c : Int} (h : more s = some s1) (hp : part s1 = .ok (s2, c)) (f : Nat) (a : Int) : rowL W kind more part (f + 1) s a = rowL W kind more part f (put s2 ⟨kind, a, c, [], 0, 0, 0⟩).1 (put s2 ⟨kind, a, c, [], 0, 0, 0⟩).2 := by
  conv => lhs; unfold rowL
  rw [h]; dsimp only; rw [hp]
/-- What is still to come of a row, or that it has stopped. -/
def RowAt (b : Nat) (Aw : Option Addr) (cw : Nat) (W : List ObLex.T) (o m M : Nat) (kind : Int) (more : St → Option St) (part : St → PR) (R : PR) (v : Value) (w : World) : Prop :=
  (∃ (s : St) (a : Int) (f : Nat), v = .int .i64 a ∧ Stt w b Aw cw W s o ∧ W.length ≤ s.k + f ∧ s.L.length + 2 * (W.length - s.k) ≤ M + 1 ∧ rowL W kind more part f s a = R) ∨
  (∃ (z : Int) (er : Er), v = .int .i64 z ∧ R = .error er ∧ Jnk w b Aw cw W er (m + 1))
set_option maxHeartbeats 4000000 in
set_option maxRecDepth 100000 in
theorem row_any {b : Nat} {Aw : Option Addr} {cw : Nat} {W : List ObLex.T} {o m M : Nat} (P Q : Nat) (kind : Int) (more : St → Option St) (part : St → PR) {w : World} {s : St} (h : Stt w b Aw cw W s o) (hW : W.length ≤ 1000)
    (hm : m ≤ 30000) (_hM : s.L.length + 2 * (W.length - s.k) ≤ M) (hMm : M ≤ 20000)
    (eP : ∀ W' , (callFunc P #[ptr b]).run Tryd.prog W' = .ok (.enter P #[ptr b]) W') (eQ : ∀ W', (callFunc Q #[ptr b]).run Tryd.prog W' = .ok (.enter Q #[ptr b]) W')
    (hP0 : Calls Tryd.prog P #[ptr b] w (RetP b Aw cw W o m (part s) w))
    (hP : ∀ w s s1, Stt w b Aw cw W s1 o → more s = some s1 → s.L.length + 2 * (W.length - s.k) ≤ M + 1 → Calls Tryd.prog P #[ptr b] w (RetP b Aw cw W o m (part s1) w))
    (hQ : ∀ w s, Stt w b Aw cw W s o → Calls Tryd.prog Q #[ptr b] w (RetM b Aw cw W o s (more s) w))
    (hQJ : ∀ w er m, Jnk w b Aw cw W er m → Calls Tryd.prog Q #[ptr b] w fun e' w' => e' = .returned (.bool false) ∧ Jnk w' b Aw cw W er m ∧ Below b w w')
    (hfit0 : ∀ s' a, part s = .ok (s', a) → s.k ≤ s'.k ∧ s'.k ≤ W.length ∧ s'.L.length + 2 * (W.length - s'.k) ≤ M + 1)
    (hfit : ∀ s s1 s' a, s.k ≤ W.length → more s = some s1 → part s1 = .ok (s', a) → s.k < s'.k ∧ s'.k ≤ W.length ∧ s'.L.length + 1 ≤ s.L.length + 2 * (s'.k - s.k))
    (hmlt : ∀ s s1, more s = some s1 → s.k < W.length) :
    Calls Tryd.prog 14 #[ptr b, .int .i64 kind, .func (.func P) #[ptr b] #[], .func (.func Q) #[ptr b] #[]] w (RetP b Aw cw W o (m + 1) (match part s with | .error e => .error e | .ok p => rowL W kind more part W.length p.1 p.2) w) := by
  obtain ⟨R, hR⟩ : ∃ R : PR, (match part s with | .error e => .error e | .ok p => rowL W kind more part W.length p.1 p.2) = R := ⟨_, rfl⟩
  rw [hR]
  have hbl := h.lt
  have HP0 := Lib.hid hP0; have HP := Lib.hid hP; have HQ := Lib.hid hQ; have HQJ := Lib.hid hQJ; have HF0 := Lib.hid hfit0; have HF := Lib.hid hfit; have HML := Lib.hid hmlt; have HR := Lib.hid hR
  have EP := Lib.hid eP; have EQ := Lib.hid eQ
  clear hP0 hP hQ hQJ hfit0 hfit hmlt hR eP eQ h
  go_enter Tryd.func14, Tryd.ntmps14
  go_wp2_with fail
  rw [EP.out]
  refine Calls.mono HP0.out ?_
  rintro e1 w1 ⟨hb1, hok, herr⟩
  have hst : ∃ v, e1 = .returned v ∧ RowAt b Aw cw W o m M kind more part R v w1 := by
    cases hp : part s with
    | error er =>
      obtain ⟨⟨z, rfl⟩, hj⟩ := herr er hp
      exact ⟨_, rfl, .inr ⟨z, er, rfl, by rw [← HR.out, hp], hj.below (Nat.le_succ _) (Below.refl _ _)⟩⟩
    | ok p =>
      obtain ⟨s', a⟩ := p
      obtain ⟨rfl, hs⟩ := hok s' a hp
      obtain ⟨f1, f2, f3⟩ := HF0.out s' a hp
      exact ⟨_, rfl, .inl ⟨s', a, W.length, rfl, hs, by omega, f3, by rw [← HR.out, hp]⟩⟩
  obtain ⟨v1, rfl, hra⟩ := hst
  have HRA := Lib.hid hra
  have HB1 := Lib.hid hb1
  clear hok herr hra hb1 HP0 HF0
  go_wp2_with fail
  go_loopw [9] (fun v wr => Hid (RowAt b Aw cw W o m M kind more part R v wr) ∧ Hid (Below b w wr)) (fun _ wr => leftW b W.length wr)
  case atStart => exact ⟨HRA, HB1⟩
  case round =>
    obtain ⟨HRA, HB⟩ := hrel
    rcases HRA.out with ⟨s, a, f, rfl, hs, hf, hphi, hR⟩ | ⟨z, er, rfl, hR, hj⟩
    · have hleft := hs.left
      have HS := Lib.hid hs
      cases hmo : more s with
      | none =>
        have HQs := Lib.hid (HQ.out _ s hs)
        have HE := Lib.hid (show R = .ok (s, a) by rw [← hR]; exact rowL_none hmo f a)
        clear hs hR hleft
        go_wp2_with fail
        rw [EQ.out]
        refine Calls.mono HQs.out ?_
        rintro e2 w2 ⟨hb2, _, hn⟩
        obtain ⟨rfl, hs2⟩ := hn hmo
        have HS2 := Lib.hid hs2
        have HB2 := Lib.hid (HB.out.trans hb2)
        clear hn hs2 hb2 hmo
        go_wp2_with fail
        go_ret
        refine ⟨HB2.out, ⟨fun s' a' h => ?_, fun er h => ?_⟩⟩
        · rw [HE.out] at h; injection h with h; injection h with h1 h2; subst h1 h2; exact ⟨rfl, HS2.out⟩
        · rw [HE.out] at h; cases h
      | some s1 =>
        have HQs := Lib.hid (HQ.out _ s hs)
        have hlt := HML.out s s1 hmo
        obtain ⟨f', rfl⟩ : ∃ f', f = f' + 1 := ⟨f - 1, by omega⟩
        have hkl : s.k ≤ W.length := Nat.le_of_lt hlt
        have HFs := Lib.hid (fun s' a => HF.out s s1 s' a hkl hmo)
        have HPs := Lib.hid (fun w' (h : Stt w' b Aw cw W s1 o) => HP.out w' s s1 h hmo hphi)
        have HMO := Lib.hid hmo; have HRR := Lib.hid hR; have HLF := Lib.hid hleft
        clear hs hR hleft
        go_wp2_with fail
        rw [EQ.out]
        refine Calls.mono HQs.out ?_
        rintro e2 w2 ⟨hb2, hy, _⟩
        obtain ⟨rfl, hs2⟩ := hy s1 hmo
        have HPw := Lib.hid (HPs.out w2 hs2)
        have HB2 := Lib.hid (HB.out.trans hb2)
        clear hy hs2 hb2 hmo
        go_wp2_with fail
        rw [EP.out]
        refine Calls.mono HPw.out ?_
        rintro e3 w3 ⟨hb3, hok, herr⟩
        have HB3 := Lib.hid (HB2.out.trans hb3)
        cases hp : part s1 with
        | error er =>
          obtain ⟨⟨z, rfl⟩, hj⟩ := herr er hp
          have HA := Lib.hid (jnk_add hj ⟨kind, a, z, [], 0, 0, 0⟩ none 0 rfl (by omega))
          have HE := Lib.hid (show R = .error er by rw [← HRR.out]; exact rowL_err HMO.out hp f' a)
          clear hok herr hj hb3 hp
          go_wp2_with fail
          refine Calls.mono HA.out ?_
          rintro e4 w4 ⟨hb4, ⟨z', rfl⟩, hj4⟩
          have HJ := Lib.hid hj4
          have HB4 := Lib.hid (HB3.out.trans hb4)
          have hl4 := hj4.left
          clear hj4 hb4
          go_wp2_with fail
          go_roundw
          case rel => exact ⟨Lib.hid (.inr ⟨z', er, rfl, HE.out, HJ.out⟩), HB4⟩
          case measure => rw [hl4, HLF.out]; omega
        | ok p =>
          obtain ⟨s2, c⟩ := p
          obtain ⟨rfl, hs3⟩ := hok s2 c hp
          obtain ⟨g1, g2, g3⟩ := HFs.out s2 c hp
          have HA := Lib.hid (stt_add hs3 ⟨kind, a, c, [], 0, 0, 0⟩ none 0 S.Rgs.nil (by omega))
          have HE := Lib.hid (show rowL W kind more part f' (put s2 ⟨kind, a, c, [], 0, 0, 0⟩).1 (put s2 ⟨kind, a, c, [], 0, 0, 0⟩).2 = R by rw [← HRR.out]; exact (rowL_go HMO.out hp f' a).symm)
          clear hok herr hs3 hb3 hp
          go_wp2_with fail
          refine Calls.mono HA.out ?_
          rintro e4 w4 ⟨rfl, hs4, hb4⟩
          have HS4 := Lib.hid hs4
          have HB4 := Lib.hid (HB3.out.trans hb4)
          have hl4 := hs4.left
          clear hs4 hb4
          go_wp2_with fail
          go_roundw
          case rel => exact ⟨Lib.hid (.inl ⟨_, _, f', rfl, HS4.out, by simp only [put]; omega, by simp only [put, List.length_append, List.length_singleton]; omega, HE.out⟩), HB4⟩
          case measure => rw [hl4, HLF.out]; simp only [put]; omega
    · have HQs := Lib.hid (HQJ.out _ er (m + 1) hj)
      have HE := Lib.hid hR
      clear hj hR
      go_wp2_with fail
      rw [EQ.out]
      refine Calls.mono HQs.out ?_
      rintro e2 w2 ⟨rfl, hj2, hb2⟩
      have HJ := Lib.hid hj2
      have HB2 := Lib.hid (HB.out.trans hb2)
      clear hj2 hb2
      go_wp2_with fail
      go_ret
      refine ⟨HB2.out, ⟨fun s' a' h => ?_, fun er' h => ?_⟩⟩
      · rw [HE.out] at h; cases h
      · rw [HE.out] at h; injection h with h; subst h; exact ⟨⟨z, rfl⟩, HJ.out⟩
end Go.Proofs.YtceeimolfalmpaaDoor.T

namespace Go.Proofs.YtceeimolfalmpaaDoor.T
open Go.RowKit ObSets ObTree ObParse
open Go.Proofs.YtceeimolfalmpaaDoor (tv fv)

theorem repL_6 {W : List ObLex.T} {s : St} {t : ObLex.T} (h : W[s.k]? = some t) (hk : t.kind = 6) (f : Nat) (a : Int) : repL W (f + 1) s a = repL W f (put (nxt s) ⟨7, a, 0, [], t.mn, t.mx, 0⟩).1 (put (nxt s) ⟨7, a, 0, [], t.mn, t.mx, 0⟩).2 := by
  conv => lhs; unfold repL
  rw [h]; dsimp only; rw [if_pos hk]
theorem repL_7 {W : List ObLex.T} {s : St} {t : ObLex.T} (h : W[s.k]? = some t) (hk : t.kind = 7) (f : Nat) (a : Int) : repL W (f + 1) s a = repL W f (put (nxt s) ⟨9, a, 0, [], 0, 0, t.mn⟩).1 (put (nxt s) ⟨9, a, 0, [], 0, 0, t.mn⟩).2 := by
  conv => lhs; unfold repL
  rw [h]; dsimp only; rw [if_neg (by omega), if_pos hk]
theorem repL_no {W : List ObLex.T} {s : St} (h6 : kd W s.k ≠ 6) (h7 : kd W s.k ≠ 7) (f : Nat) (a : Int) : repL W f s a = (s, a) := by
  cases f with
  | zero => rfl
  | succ f =>
    unfold repL
    cases hw : W[s.k]? with
    | none => rfl
    | some t =>
      have hk : kd W s.k = t.kind := by unfold kd; rw [hw]
      dsimp only
      rw [if_neg (by omega), if_neg (by omega)]
/-- What is still to come of an atom's reps, or that the reader has stopped. -/
def RepAt (b : Nat) (Aw : Option Addr) (cw : Nat) (W : List ObLex.T) (o m M : Nat) (R : PR) (v : Value) (w : World) : Prop :=
  (∃ (s : St) (a : Int) (f : Nat), v = .int .i64 a ∧ Stt w b Aw cw W s o ∧ W.length ≤ s.k + f ∧ s.L.length + 2 * (W.length - s.k) ≤ M ∧ R = .ok (repL W f s a)) ∨
  (∃ (z : Int) (er : Er), v = .int .i64 z ∧ R = .error er ∧ Jnk w b Aw cw W er m)
set_option maxHeartbeats 4000000 in
set_option maxRecDepth 100000 in
theorem rep_any {b : Nat} {Aw : Option Addr} {cw : Nat} {W : List ObLex.T} {o m M q : Nat} {al : Option (St → PR)} {w : World} {s : St} (h : Stt w b Aw cw W s o) (hW : W.length ≤ 1000)
    (hM : s.L.length + 2 * (W.length - s.k) ≤ M) (hMm : M ≤ 20000) (hq : atV b (kd W s.k) = .func (.func q) #[ptr b] #[]) (eq : ∀ W', (callFunc q #[ptr b]).run Tryd.prog W' = .ok (.enter q #[ptr b]) W')
    (hP : ∀ w, Stt w b Aw cw W s o → Calls Tryd.prog q #[ptr b] w (RetP b Aw cw W o m (atom W al s) w))
    (hfit : ∀ s' a, atom W al s = .ok (s', a) → s.k < s'.k ∧ s'.k ≤ W.length ∧ s'.L.length + 1 ≤ s.L.length + 2 * (s'.k - s.k)) :
    Calls Tryd.prog 28 #[ptr b] w (RetP b Aw cw W o m (rep W al s) w) := by
  obtain ⟨R, hR⟩ : ∃ R : PR, rep W al s = R := ⟨_, rfl⟩
  rw [hR]
  have HAT := Lib.hid (show Calls Tryd.prog 45 #[ptr b] w fun e' w' => e' = .returned (.func (.func q) #[ptr b] #[]) ∧ Stt w' b Aw cw W s o ∧ Below b w w' by
    have hl := Nat.le_of_lt h.lt
    have h' := h
    obtain ⟨⟨A, c, h1, h2, h3, h4⟩, _⟩ := h
    refine (atom_any rfl h1 h3 h4).mono fun e' w' ⟨e, hb⟩ => ⟨by rw [e, hq], h'.below hb, hb.mono hl⟩)
  have HP := Lib.hid hP; have HF := Lib.hid hfit; have HR := Lib.hid hR; have EQ := Lib.hid eq
  clear hP hfit hR eq hq h
  go_enter Tryd.func28, Tryd.ntmps28
  go_wp2_with fail
  refine HAT.out.mono ?_
  rintro e0 w0 ⟨rfl, hs0, hb0⟩
  have HPw := Lib.hid (HP.out w0 hs0)
  have HB0 := Lib.hid hb0
  clear hs0 hb0
  go_wp2_with fail
  rw [EQ.out]
  refine Calls.mono HPw.out ?_
  rintro e1 w1 ⟨hb1, hok, herr⟩
  have hst : ∃ v, e1 = .returned v ∧ RepAt b Aw cw W o m M R v w1 := by
    cases hp : atom W al s with
    | error er =>
      obtain ⟨⟨z, rfl⟩, hj⟩ := herr er hp
      exact ⟨_, rfl, .inr ⟨z, er, rfl, by rw [← HR.out]; unfold rep; rw [hp], hj⟩⟩
    | ok p =>
      obtain ⟨s', a⟩ := p
      obtain ⟨rfl, hs⟩ := hok s' a hp
      obtain ⟨f1, f2, f3⟩ := HF.out s' a hp
      exact ⟨_, rfl, .inl ⟨s', a, W.length, rfl, hs, by omega, by omega, by rw [← HR.out]; unfold rep; rw [hp]⟩⟩
  obtain ⟨v1, rfl, hra⟩ := hst
  have HRA := Lib.hid hra
  have HB1 := Lib.hid (HB0.out.trans hb1)
  clear hok herr hra hb1 HPw HF HAT HP HB0 w0
  go_wp2_with fail
  go_loopw [3] (fun v wr => Hid (RepAt b Aw cw W o m M R v wr) ∧ Hid (Below b w wr)) (fun _ wr => leftW b W.length wr)
  case atStart => exact ⟨HRA, HB1⟩
  case round =>
    obtain ⟨HRA, HB⟩ := hrel
    rcases HRA.out with ⟨s, a, f, rfl, hs, hf, hphi, hR⟩ | ⟨z, er, rfl, hR, hj⟩
    · have HLF := Lib.hid hs.left
      have HK := Lib.hid (stt_kind hs)
      have HRR := Lib.hid hR
      have hkl : s.k ≤ W.length := by obtain ⟨⟨_, _, _, _, _, h4⟩, _⟩ := hs; exact h4
      clear hs hR
      by_cases h6 : kd W s.k = 6
      · obtain ⟨t, ht⟩ : ∃ t, W[s.k]? = some t := ⟨_, List.getElem?_eq_getElem (kd_in (by omega))⟩
        have htk : t.kind = 6 := by unfold kd at h6; rw [ht] at h6; exact h6
        have hlt : s.k < W.length := (List.getElem?_eq_some_iff.1 ht).1
        obtain ⟨f', rfl⟩ : ∃ f', f = f' + 1 := ⟨f - 1, by omega⟩
        rw [h6] at HK
        have HT := Lib.hid ht; have HTK := Lib.hid htk
        clear h6 ht htk
        go_wp2_with fail
        refine HK.out.mono ?_
        rintro e2 w2 ⟨rfl, hs2, hb2⟩
        have HTA := Lib.hid (stt_take hs2 HT.out hW)
        have HB2 := Lib.hid (HB.out.trans hb2)
        clear hs2 hb2
        go_wp2_with fail
        refine HTA.out.mono ?_
        rintro e3 w3 ⟨As, ks, rfl, _, hs3, hb3⟩
        have HB3 := Lib.hid (HB2.out.trans hb3)
        have hb3l := hs3.lt
        have hal := (Below.refl w3.heap.size w3).alloc (Nat.le_refl _) (.cells #[.int .i64 t.kind, .int .i64 t.at_, .slice As t.set.length ks, .int .i64 t.mn, .int .i64 t.mx] 50)
        have hs4 := hs3.below hal
        have HA := Lib.hid (stt_add hs4 ⟨7, a, 0, [], t.mn, t.mx, 0⟩ none 0 S.Rgs.nil (by simp only [nxt]; omega))
        have HB4 := Lib.hid (HB3.out.trans (hal.mono (Nat.le_of_lt hb3l)))
        clear hs3 hb3 hal hs4
        go_wp2_with fail
        refine Calls.mono HA.out ?_
        rintro e4 w4 ⟨rfl, hs5, hb5⟩
        have HS5 := Lib.hid hs5
        have HB5 := Lib.hid (HB4.out.trans hb5)
        have hl5 := hs5.left
        clear hs5 hb5
        go_wp2_with fail
        go_roundw
        case rel => exact ⟨Lib.hid (.inl ⟨_, _, f', rfl, HS5.out, by simp only [put, nxt]; omega, by simp only [put, nxt, List.length_append, List.length_singleton]; omega, by rw [HRR.out, repL_6 HT.out HTK.out]⟩), HB5⟩
        case measure => rw [hl5, HLF.out]; simp only [put, nxt]; omega
      · by_cases h7 : kd W s.k = 7
        · obtain ⟨t, ht⟩ : ∃ t, W[s.k]? = some t := ⟨_, List.getElem?_eq_getElem (kd_in (by omega))⟩
          have htk : t.kind = 7 := by unfold kd at h7; rw [ht] at h7; exact h7
          have hlt : s.k < W.length := (List.getElem?_eq_some_iff.1 ht).1
          obtain ⟨f', rfl⟩ : ∃ f', f = f' + 1 := ⟨f - 1, by omega⟩
          rw [h7] at HK
          have HT := Lib.hid ht; have HTK := Lib.hid htk
          clear h6 h7 ht htk
          go_wp2_with fail
          refine HK.out.mono ?_
          rintro e2 w2 ⟨rfl, hs2, hb2⟩
          have HTA := Lib.hid (stt_take hs2 HT.out hW)
          have HB2 := Lib.hid (HB.out.trans hb2)
          clear hs2 hb2
          go_wp2_with fail
          refine HTA.out.mono ?_
          rintro e3 w3 ⟨As, ks, rfl, _, hs3, hb3⟩
          have HB4 := Lib.hid (HB2.out.trans hb3)
          have hf := fld3 t.kind t.at_ t.mn t.mx (.slice As t.set.length ks) ⟨_, _, _, rfl⟩
          have HA := Lib.hid (stt_add hs3 ⟨9, a, 0, [], 0, 0, t.mn⟩ none 0 S.Rgs.nil (by simp only [nxt]; omega))
          clear hs3 hb3
          go_wp2_with fail
          refine Calls.mono HA.out ?_
          rintro e4 w4 ⟨rfl, hs5, hb5⟩
          have HS5 := Lib.hid hs5
          have HB5 := Lib.hid (HB4.out.trans hb5)
          have hl5 := hs5.left
          clear hs5 hb5
          go_wp2_with fail
          go_roundw
          case rel => exact ⟨Lib.hid (.inl ⟨_, _, f', rfl, HS5.out, by simp only [put, nxt]; omega, by simp only [put, nxt, List.length_append, List.length_singleton]; omega, by rw [HRR.out, repL_7 HT.out HTK.out]⟩), HB5⟩
          case measure => rw [hl5, HLF.out]; simp only [put, nxt]; omega
        · have HE := Lib.hid (show R = .ok (s, a) by rw [HRR.out, repL_no h6 h7])
          have e6 : (kd W s.k == 6) = false := beq_eq_false_iff_ne.2 h6
          have e7 : (kd W s.k == 7) = false := beq_eq_false_iff_ne.2 h7
          clear h6 h7 HRR
          generalize kd W s.k = c at *
          go_wp2_with fail
          refine HK.out.mono ?_
          rintro e2 w2 ⟨rfl, hs2, hb2⟩
          have HS2 := Lib.hid hs2
          have HB2 := Lib.hid (HB.out.trans hb2)
          clear hs2 hb2
          go_wp2_with fail
          go_ret
          refine ⟨HB2.out, ⟨fun s' a' h => ?_, fun er h => ?_⟩⟩
          · rw [HE.out] at h; injection h with h; injection h with h1 h2; subst h1 h2; exact ⟨rfl, HS2.out⟩
          · rw [HE.out] at h; cases h
    · have HK := Lib.hid (jnk_kind hj)
      have HE := Lib.hid hR
      clear hj hR
      go_wp2_with fail
      refine HK.out.mono ?_
      rintro e2 w2 ⟨rfl, hj2, hb2⟩
      have HJ := Lib.hid hj2
      have HB2 := Lib.hid (HB.out.trans hb2)
      clear hj2 hb2
      go_wp2_with fail
      go_ret
      refine ⟨HB2.out, ⟨fun s' a' h => ?_, fun er' h => ?_⟩⟩
      · rw [HE.out] at h; cases h
      · rw [HE.out] at h; injection h with h; subst h; exact ⟨⟨z, rfl⟩, HJ.out⟩
end Go.Proofs.YtceeimolfalmpaaDoor.T
