/-
  The page's own parser of words in memory: its block, its nodes (whose sets lie in blocks of their own), a node put behind all others. Conditions: at most 50000 nodes.
  What the page's own parser looks at next, where it fails, with which words an atom begins; its state while all is well and when it has a fault; nodes put in either. Conditions: as written.
  An atom that is no group, as the page's own parser reads it. Conditions: at most 1000 words, 20000 nodes.
-/
import Derived.Test.YtceeimolfalmpaaGreatDoorQZ
import Derived.Deep.RegionLaw
namespace Go.Proofs.YtceeimolfalmpaaGreatDoor.T
open Go.RowKit ObSets ObTree ObParse
open Go.Proofs.YtceeimolfalmpaaGreatDoor (tv fv)

theorem run_append_at7 {P : Program} (w : World) (t ty e : TypeId) (i : TypeInfo) (z : Value) (bytes : Nat) (ht : P.underlying t = some (.slice e)) (hi : P.info? e = some i) (hz : i.zero = some z)
    (hsize : i.size = 7) (hby : i.bytes = bytes) (hzs : z.cells.size = 7)
    (v : Value) (n : Nat) (xs : List Value) (hown : w.ownsRow 0 e 7 v n xs)
    (a : Addr) (m c : Nat) (news : List Value) (hl : news.length = m * 7) (hnews : ∀ j u, news[j]? = some u → w.cell? (a.add j) = some u) (h1 : ∀ u ∈ news, u.oneCell' = true)
    (h63 : n + m ≤ maxLen) (hbytes : (n + m) * bytes ≤ 140737488355328) :
    ∃ v' w', (Builtin.append_ #[t, t] ty #[v, .slice (some a) m c]).run P w = .ok v' w' ∧ w'.ownsRow 0 e 7 v' (n + m) (xs ++ news) ∧ w.grownBy w' v.ownBlock ∧ (∀ g, v'.ownBlock = some g → v.ownBlock = some g ∨ w.heap.size ≤ g) := by
  obtain ⟨v', w', hr, h2, h3, h4⟩ := run_append_own (P := P) w 0 t ty e i z 7 bytes ht hi hz hsize hby hzs (by omega) v n xs hown a m c news (by omega) hnews h1 h63 hbytes (Nat.zero_le _)
  refine ⟨v', w', hr, h2, h3, fun g hg => ?_⟩
  have hsm : n + m ≤ 9223372036854775807 := by simp only [maxLen] at h63; omega
  subst hby
  rcases hown.2 with ⟨rfl, rfl⟩ | ⟨k, cap, cur, rfl, hbg, hgk, hnc, hcm, hcs, htake⟩
  · by_cases hm : m = 0
    · have := h4.2 ⟨rfl, hm⟩
      subst this; cases hg
    · have hr2 := run_append_nil (P := P) w t ty e i z ht hi hz a m c news (by rw [hsize]; omega) hnews (by omega) (by omega) (by have hb := hbytes; simp only [Nat.zero_add] at hb; omega)
      rw [hr] at hr2
      injection hr2 with e1 e2
      subst e1
      simp only [Value.ownBlock, Option.some.injEq] at hg
      exact .inr (by omega)
  · by_cases hroom : n + m ≤ cap
    · have hr2 := run_append_room (P := P) w t ty e i ht hi k n cap cur hgk a m c news (by rw [hsize]; omega) hnews h1 hroom (by rw [hsize, hcs]; omega)
      rw [hr] at hr2
      injection hr2 with e1 e2
      subst e1
      exact .inl hg
    · have hr2 := run_append_grow (P := P) w t ty e i z ht hi hz ⟨k, 0, none⟩ n cap xs (by rw [hsize, hown.1]) (hown.cells (g := k) rfl) a m c news (by rw [hsize]; omega) hnews (by omega) (by omega) (growslice_fits (by omega) hbytes)
      rw [hr] at hr2
      injection hr2 with e1 e2
      subst e1
      simp only [Value.ownBlock, Option.some.injEq] at hg
      exact .inr (by omega)
theorem blk9 {w : World} {r : Nat} {a b c d e f g h i : Value} {t : TypeId} (hh : w.heap[r]? = some (.cells #[a, b, c, d, e, f, g, h, i] t (0, 0))) : (w.cell? ⟨r, 0, none⟩ = some a ∧ w.cell? ⟨r, 1, none⟩ = some b ∧ w.cell? ⟨r, 2, none⟩ = some c ∧ w.cell? ⟨r, 3, none⟩ = some d ∧ w.cell? ⟨r, 4, none⟩ = some e ∧ w.cell? ⟨r, 5, none⟩ = some f ∧ w.cell? ⟨r, 6, none⟩ = some g ∧ w.cell? ⟨r, 7, none⟩ = some h ∧ w.cell? ⟨r, 8, none⟩ = some i) ∧ ∀ k, w.frozen? ⟨r, k, none⟩ = false := by
  refine ⟨⟨by simp [World.cell?, hh], by simp [World.cell?, hh], by simp [World.cell?, hh], by simp [World.cell?, hh], by simp [World.cell?, hh], by simp [World.cell?, hh], by simp [World.cell?, hh], by simp [World.cell?, hh], by simp [World.cell?, hh]⟩, fun k => by simp [World.frozen?, hh]⟩
/-- The parser's block. -/
abbrev pdO (Aw : Option Addr) (n cw : Nat) (k N : Int) (cu : Bool) (v cp o e f : Value) : Obj := .cells #[.slice Aw n cw, .int .i64 k, .int .i64 N, .bool cu, v, cp, o, e, f] 91
/-- A row of nodes that the parser owns; their sets lie in other blocks. -/
def Nb (w : World) (b : Nat) (v : Value) (l : List Nd) : Prop :=
  ∃ L : List (Nd × Value), L.map Prod.fst = l ∧ w.ownsRow 0 58 7 v L.length (cellsN L) ∧ (∀ g, v.ownBlock = some g → b < g) ∧ ∀ p ∈ L, ∃ As ks, p.2 = .slice As p.1.set.length ks ∧ S.Rgs w w.heap.size As p.1.set ∧ (p.1.set = [] ∨ ∀ ad, As = some ad → ad.block ≠ b ∧ v.ownBlock ≠ some ad.block)
theorem Nb.nil (w : World) (b : Nat) : Nb w b (.slice none 0 0) [] := ⟨[], rfl, World.ownsRow_nil _ _ _ _, (fun g hg => by cases hg), by simp⟩
theorem Nb.shape {w : World} {b : Nat} {v : Value} {l : List Nd} (h : Nb w b v l) : ∃ A k, v = .slice A l.length k := by
  obtain ⟨L, rfl, h2, _⟩ := h
  rw [List.length_map]
  rcases h2.2 with ⟨hv, hn⟩ | ⟨g, cap, cur, hv, _⟩
  · exact ⟨none, 0, by rw [hv, hn]⟩
  · exact ⟨_, cap, hv⟩
theorem Nb.below {w w' : World} {b : Nat} {v : Value} {l : List Nd} (h : Nb w b v l) (hb : Below w.heap.size w w') : Nb w' b v l := by
  obtain ⟨L, h1, h2, h3, h4⟩ := h
  refine ⟨L, h1, S.own_below h2 hb, h3, fun p hp => ?_⟩
  obtain ⟨As, ks, e, hr, hf⟩ := h4 p hp
  exact ⟨As, ks, e, hr.on hb, hf⟩
/-- Where all but one block stays. -/
theorem Nb.but {w w' : World} {b : Nat} {v : Value} {l : List Nd} (h : Nb w b v l) (hs : w.heap.size ≤ w'.heap.size) (hc : ∀ g, g < w.heap.size → g ≠ b → w'.heap[g]? = w.heap[g]?) : Nb w' b v l := by
  obtain ⟨L, h1, h2, h3, h4⟩ := h
  refine ⟨L, h1, ⟨h2.1, ?_⟩, h3, fun p hp => ?_⟩
  · rcases h2.2 with h5 | ⟨g, cap, cur, hv, hbg, hg, rest⟩
    · exact .inl h5
    · exact .inr ⟨g, cap, cur, hv, hbg, (hc g (lt_of_heap hg) (Nat.ne_of_gt (h3 g (by rw [hv]; rfl)))).trans hg, rest⟩
  · obtain ⟨As, ks, e, hr, hf⟩ := h4 p hp
    refine ⟨As, ks, e, fun hn => ?_, hf⟩
    obtain ⟨c, off, rfl, hcl, hcc⟩ := hr hn
    have hne := ((hf.resolve_left hn) _ rfl).1
    have hbl := hc c hcl hne
    refine ⟨c, off, rfl, Nat.lt_of_lt_of_le hcl hs, fun j q hq => ?_⟩
    simp only [World.cell?, hbl]
    exact hcc j q hq
theorem Nb.set {w : World} {b : Nat} {v : Value} {l : List Nd} (h : Nb w b v l) (i : Nat) (u : Value) : Nb (w.setCell ⟨b, i, none⟩ u) b v l := by
  refine h.but (by simp [World.setCell]) fun g _ hne => ?_
  rw [Go.Sort.setCell_eq]
  simp [Go.Sort.mapBlock, Array.getElem?_modify, Ne.symm hne]
/-- One node appended. -/
theorem nb_append {w : World} {b : Nat} {v : Value} {l : List Nd} (h : Nb w b v l) (hbl : b < w.heap.size) (x : Nd) (As : Option Addr) (sl ks g : Nat) (hsl : x.set.length = sl) (hg : w.heap[g]? = some (.cells #[.int .i64 x.kind, .int .i64 x.a, .int .i64 x.b, .slice As sl ks, .int .i64 x.mn, .int .i64 x.mx, .int .i64 x.n] 58 (0, 0))) (hr : S.Rgs w w.heap.size As x.set)
    (hfar : x.set = [] ∨ ∀ ad, As = some ad → ad.block ≠ b ∧ v.ownBlock ≠ some ad.block) (hlen : l.length + 1 ≤ 100000) (ty : TypeId) :
    ∃ v' w', (Builtin.append_ #[27, 27] ty #[v, .slice (some ⟨g, 0, none⟩) 1 1]).run Tryz.prog w = .ok v' w' ∧ Nb w' b v' (l ++ [x]) ∧ w.grownBy w' v.ownBlock := by
  subst hsl
  obtain ⟨i0, hi0, hz0, hz1, hz2⟩ := info_parts info51
  obtain ⟨L, rfl, h2, ho, h3⟩ := h
  rw [List.length_map] at hlen
  have hcell : ∀ j u, (cellsN [(x, Value.slice As x.set.length ks)])[j]? = some u → w.cell? ((⟨g, 0, none⟩ : Addr).add j) = some u := fun j u hu => by
    have e : (⟨g, 0, none⟩ : Addr).add j = ⟨g, j, none⟩ := by unfold Addr.add; split <;> simp_all
    rw [e]
    simp only [World.cell?, hg]
    simpa [cellsN] using hu
  obtain ⟨v', w', hrun, h4, h5, h6⟩ := run_append_at7 (P := Tryz.prog) w 27 ty 58 i0 (.agg #[.int .i64 0, .int .i64 0, .int .i64 0, .slice none 0 0, .int .i64 0, .int .i64 0, .int .i64 0]) 72 Tryz.underlying27 hi0 hz0 hz1 hz2 rfl v L.length (cellsN L) h2 ⟨g, 0, none⟩ 1 1 (cellsN [(x, Value.slice As x.set.length ks)]) (cellsN_len _) hcell (cellsN_one _ (fun p hp => by simp at hp; subst hp; rfl)) (by unfold maxLen; omega) (by omega)
  have keep : ∀ (Bs : Option Addr) (m : List R), S.Rgs w w.heap.size Bs m → (m = [] ∨ ∀ ad, Bs = some ad → ad.block ≠ b ∧ v.ownBlock ≠ some ad.block) → S.Rgs w' w'.heap.size Bs m ∧ (m = [] ∨ ∀ ad, Bs = some ad → ad.block ≠ b ∧ v'.ownBlock ≠ some ad.block) := fun Bs m hm hf => by
    by_cases hm0 : m = []
    · subst hm0; exact ⟨S.Rgs.nil, .inl rfl⟩
    · obtain ⟨c, off, rfl, hb, hcc⟩ := hm hm0
      obtain ⟨hne0, hne⟩ := (hf.resolve_left hm0) _ rfl
      have hbl := h5.block c hb (fun e => hne e.symm)
      have ec : ∀ o : Nat, w'.cell? ⟨c, o, none⟩ = w.cell? ⟨c, o, none⟩ := fun o => by simp only [World.cell?, hbl]
      refine ⟨fun _ => ⟨c, off, rfl, Nat.lt_of_lt_of_le hb h5.size, fun j q hq => by rw [ec, ec]; exact hcc j q hq⟩, .inr fun ad e => ?_⟩
      injection e with e
      subst e
      refine ⟨hne0, fun hv => ?_⟩
      rcases h6 c hv with h7 | h7
      · exact hne h7
      · omega
  refine ⟨v', w', hrun, ⟨L ++ [(x, .slice As x.set.length ks)], by simp, ?_, fun q hq => ?_, fun p hp => ?_⟩, h5⟩
  · rw [List.length_append, cellsN_append]; exact h4
  · rcases h6 q hq with h7 | h7
    · exact ho q h7
    · omega
  · rcases List.mem_append.1 hp with hp | hp
    · obtain ⟨Bs, js, e, hm, hf⟩ := h3 p hp
      obtain ⟨k1, k2⟩ := keep Bs p.1.set hm hf
      exact ⟨Bs, js, e, k1, k2⟩
    · simp at hp
      subst hp
      obtain ⟨k1, k2⟩ := keep As x.set hr hfar
      exact ⟨As, ks, rfl, k1, k2⟩
theorem wp_append_nb {w : World} {o : Oper} {a : Act} {K : Act → World → Prop} {Q : Exit → Act → World → Prop} (s x : Operand)
    (ho : o.op = .call { callee := .builtin .append, args := #[s, x], argTypes := #[27, 27] }) (b : Nat) (v : Value) (l : List Nd) (hs : a.eval s = v) (hown : Nb w b v l) (hbl : b < w.heap.size) (y : Nd) (As : Option Addr) (sl ks g : Nat) (hsl : y.set.length = sl) (hx : a.eval x = .slice (some ⟨g, 0, none⟩) 1 1)
    (hg : w.heap[g]? = some (.cells #[.int .i64 y.kind, .int .i64 y.a, .int .i64 y.b, .slice As sl ks, .int .i64 y.mn, .int .i64 y.mx, .int .i64 y.n] 58 (0, 0))) (hr : S.Rgs w w.heap.size As y.set) (hfar : y.set = [] ∨ ∀ ad, As = some ad → ad.block ≠ b ∧ v.ownBlock ≠ some ad.block) (hlen : l.length + 1 ≤ 100000)
    (h : ∀ v' w', Nb w' b v' (l ++ [y]) → w.grownBy w' v.ownBlock → K (a.put o.dst v') w') : o.wp Tryz.prog a w K Q := by
  obtain ⟨v', w', hrun, h1, h2⟩ := nb_append hown hbl y As sl ks g hsl hg hr hfar hlen o.type
  unfold Oper.wp
  simp [execOp, ho, resolve, invoke, builtin, hs, hx, hrun, Result.andThen]
  exact h v' w' h1 h2
set_option maxHeartbeats 4000000 in
set_option maxRecDepth 100000 in
theorem put_any {w : World} {b : Nat} {Aw A : Option Addr} {n cw c m : Nat} {k N : Int} {cu : Bool} {cp o e f : Value} {L : List Nd} (x : Nd) (As : Option Addr) (ks : Nat) (hb : w.heap[b]? = some (pdO Aw n cw k N cu (.slice A m c) cp o e f)) (hm : L.length = m) (hL : Nb w b (.slice A m c) L) (hr : S.Rgs w w.heap.size As x.set) (hfar : x.set = [] ∨ ∀ ad, As = some ad → ad.block ≠ b ∧ (Value.slice A m c).ownBlock ≠ some ad.block) (hmb : m ≤ 50000) :
    Calls Tryz.prog 101 #[ptr b, nv x (.slice As x.set.length ks)] w fun e' w' => e' = .returned (.int .i64 (m : Int)) ∧ (∃ A' c', w'.heap[b]? = some (pdO Aw n cw k N cu (.slice A' (m + 1) c') cp o e f) ∧ Nb w' b (.slice A' (m + 1) c') (L ++ [x])) ∧ Below b w w' := by
  have hbl := lt_of_heap hb
  have al := fun (W : World) (o : Obj) => (Below.refl W.heap.size W).alloc (Nat.le_refl _) o
  have hb0 := keepL hb (al w (.cells #[.int .i64 x.kind, .int .i64 x.a, .int .i64 x.b, .slice As x.set.length ks, .int .i64 x.mn, .int .i64 x.mx, .int .i64 x.n] 58))
  have hx0 := heap_new w (.cells #[.int .i64 x.kind, .int .i64 x.a, .int .i64 x.b, .slice As x.set.length ks, .int .i64 x.mn, .int .i64 x.mx, .int .i64 x.n] 58)
  have hL0 := hL.below (al w (.cells #[.int .i64 x.kind, .int .i64 x.a, .int .i64 x.b, .slice As x.set.length ks, .int .i64 x.mn, .int .i64 x.mx, .int .i64 x.n] 58))
  have hO : ∀ g, (Value.slice A m c).ownBlock = some g → b < g := by obtain ⟨_, _, _, h3, _⟩ := hL; exact h3
  have HBA := Lib.hid ((al w (.cells #[.int .i64 x.kind, .int .i64 x.a, .int .i64 x.b, .slice As x.set.length ks, .int .i64 x.mn, .int .i64 x.mx, .int .i64 x.n] 58)).mono (Nat.le_of_lt hbl))
  have hlt : b < (w.alloc (.cells #[.int .i64 x.kind, .int .i64 x.a, .int .i64 x.b, .slice As x.set.length ks, .int .i64 x.mn, .int .i64 x.mx, .int .i64 x.n] 58)).heap.size := by simp; omega
  have hr0 := hr.on (al w (.cells #[.int .i64 x.kind, .int .i64 x.a, .int .i64 x.b, .slice As x.set.length ks, .int .i64 x.mn, .int .i64 x.mx, .int .i64 x.n] 58))
  clear hb hL hr
  go_enter Tryz.func101, Tryz.ntmps101
  go_upto_region 1 with fail
  generalize w.alloc (.cells #[.int .i64 x.kind, .int .i64 x.a, .int .i64 x.b, .slice As x.set.length ks, .int .i64 x.mn, .int .i64 x.mx, .int .i64 x.n] 58) = X at *
  generalize hsl : x.set.length = sl at *
  generalize hxb : w.heap.size = xb at *
  have HL0 := Lib.hid hL0; have HO := Lib.hid hO; have HR0 := Lib.hid hr0; have HB0 := Lib.hid hb0; have HX0 := Lib.hid hx0; have HSL := Lib.hid hsl; have HM := Lib.hid hm; have HFAR := Lib.hid hfar
  obtain ⟨⟨c0, c1, c2, c3, c4, c5, c6, c7, c8⟩, cf⟩ := blk9 hb0
  have cf4 := cf 4
  obtain ⟨⟨x0, x1, x2, x3, x4, x5, x6⟩, _⟩ := blk7 hx0
  clear hL0 hO hr0 hb0 hx0 hsl hm cf hxb hfar
  have HNW := Lib.hid (show Nb (X.alloc (.cells #[.int .i64 x.kind, .int .i64 x.a, .int .i64 x.b, .slice As sl ks, .int .i64 x.mn, .int .i64 x.mx, .int .i64 x.n] 58)).drew b (.slice A m c) L from (HL0.out.below (al _ _)).below (Below.refl _ _).drew)
  have HBW := Lib.hid (show (X.alloc (.cells #[.int .i64 x.kind, .int .i64 x.a, .int .i64 x.b, .slice As sl ks, .int .i64 x.mn, .int .i64 x.mx, .int .i64 x.n] 58)).drew.heap[b]? = some (pdO Aw n cw k N cu (.slice A m c) cp o e f) from (show (X.alloc (.cells #[.int .i64 x.kind, .int .i64 x.a, .int .i64 x.b, .slice As sl ks, .int .i64 x.mn, .int .i64 x.mx, .int .i64 x.n] 58)).heap[b]? = some (pdO Aw n cw k N cu (.slice A m c) cp o e f) from keepL HB0.out (al X (.cells #[.int .i64 x.kind, .int .i64 x.a, .int .i64 x.b, .slice As sl ks, .int .i64 x.mn, .int .i64 x.mx, .int .i64 x.n] 58))))
  have HRW := Lib.hid (show S.Rgs (X.alloc (.cells #[.int .i64 x.kind, .int .i64 x.a, .int .i64 x.b, .slice As sl ks, .int .i64 x.mn, .int .i64 x.mx, .int .i64 x.n] 58)).drew (X.alloc (.cells #[.int .i64 x.kind, .int .i64 x.a, .int .i64 x.b, .slice As sl ks, .int .i64 x.mn, .int .i64 x.mx, .int .i64 x.n] 58)).drew.heap.size As x.set from HR0.out.on (al X (.cells #[.int .i64 x.kind, .int .i64 x.a, .int .i64 x.b, .slice As sl ks, .int .i64 x.mn, .int .i64 x.mx, .int .i64 x.n] 58)).drew)
  have HXW := Lib.hid (show (X.alloc (.cells #[.int .i64 x.kind, .int .i64 x.a, .int .i64 x.b, .slice As sl ks, .int .i64 x.mn, .int .i64 x.mx, .int .i64 x.n] 58)).drew.heap[X.heap.size]? = some (.cells #[.int .i64 x.kind, .int .i64 x.a, .int .i64 x.b, .slice As sl ks, .int .i64 x.mn, .int .i64 x.mx, .int .i64 x.n] 58) from heap_new X (.cells #[.int .i64 x.kind, .int .i64 x.a, .int .i64 x.b, .slice As sl ks, .int .i64 x.mn, .int .i64 x.mx, .int .i64 x.n] 58))
  have HZW := Lib.hid (show b < (X.alloc (.cells #[.int .i64 x.kind, .int .i64 x.a, .int .i64 x.b, .slice As sl ks, .int .i64 x.mn, .int .i64 x.mx, .int .i64 x.n] 58)).drew.heap.size from (by simp; omega))
  have HBX := Lib.hid (show Below b X (X.alloc (.cells #[.int .i64 x.kind, .int .i64 x.a, .int .i64 x.b, .slice As sl ks, .int .i64 x.mn, .int .i64 x.mx, .int .i64 x.n] 58)).drew from ((al X (.cells #[.int .i64 x.kind, .int .i64 x.a, .int .i64 x.b, .slice As sl ks, .int .i64 x.mn, .int .i64 x.mx, .int .i64 x.n] 58)).mono (Nat.le_of_lt hlt)).drew)
  go_region_law (first
    | (refine step_append_nk (by rfl) ?_; refine wp_append_nb _ _ rfl b (.slice A m c) L rfl HNW.out HZW.out x As sl ks X.heap.size HSL.out rfl HXW.out HRW.out HFAR.out (by rw [HM.out]; omega) ?_; intro v2 V2 hn2 hg2; obtain ⟨A2, c2', e2⟩ := hn2.shape; rw [List.length_append, HM.out, List.length_singleton] at e2; subst e2; have HN2 := Lib.hid hn2; have hb2 := keepG HBW.out hg2 (fun g hg => Nat.ne_of_gt (HO.out g hg)); have HB2 := Lib.hid hb2; have HW2 := Lib.hid (HBX.out.trans (below_grown hg2 (Nat.le_of_lt HZW.out) (fun g hg => Nat.le_of_lt (HO.out g hg)))); obtain ⟨⟨_, _, _, _, d4, _, _, _, _⟩, df⟩ := blk9 hb2; have df4 := df 4; clear df hn2 hg2 hb2)
    | fail)
  all_goals
    have ew : IntKind.i64.wrap ((m : Int) + 1 - 1) = (m : Int) := by rw [show (m : Int) + 1 - 1 = m by omega]; exact IntWalk.i64_in _ (by omega)
    have ew2 : IntKind.i64.wrap (((m + 1 : Nat) : Int) - 1) = (m : Int) := by rw [show ((m + 1 : Nat) : Int) - 1 = m by omega]; exact IntWalk.i64_in _ (by omega)
    have hb3 := heap_set 4 (.slice A2 (m + 1) c2') HB2.out
    have HB3 := Lib.hid (show (V2.setCell ⟨b, 4, none⟩ (.slice A2 (m + 1) c2')).heap[b]? = some (pdO Aw n cw k N cu (.slice A2 (m + 1) c2') cp o e f) from hb3)
    have HN3 := Lib.hid (show Nb (V2.setCell ⟨b, 4, none⟩ (.slice A2 (m + 1) c2')) b (.slice A2 (m + 1) c2') (L ++ [x]) from HN2.out.set _ _)
    have HW3 := Lib.hid (HBA.out.trans (HW2.out.setCell (p := ⟨b, 4, none⟩) (Nat.le_refl _) (.slice A2 (m + 1) c2')))
    obtain ⟨⟨_, _, _, _, g4, _, _, _, _⟩, _⟩ := blk9 HB3.out
    clear hb3
    go_wp2_with fail
    go_ret
    exact ⟨rfl, ⟨A2, c2', HB3.out, HN3.out⟩, HW3.out⟩
end Go.Proofs.YtceeimolfalmpaaGreatDoor.T

namespace Go.Proofs.YtceeimolfalmpaaGreatDoor.T
open Go.RowKit ObSets ObTree ObParse
open Go.Proofs.YtceeimolfalmpaaGreatDoor (tv fv)

set_option maxHeartbeats 2000000 in
set_option maxRecDepth 100000 in
theorem next_any {w : World} {b : Nat} {Aw : Option Addr} {n cw k : Nat} {N : Int} {cu : Bool} {v cp o f : Value} {W : List ObLex.T} (hn : W.length = n) (hb : w.heap[b]? = some (pdO Aw n cw k N cu v cp o (.int .i64 0) f)) (hW : Wr w b Aw W) (hk : k ≤ n) :
    Calls Tryz.prog 100 #[ptr b] w fun e' w' => e' = .returned (.int .i64 (kd W k)) ∧ Below w.heap.size w w' := by
  obtain ⟨⟨c0, c1, _, _, _, _, _, c7, _⟩, _⟩ := blk9 hb
  by_cases hlt : k < n
  · obtain ⟨t, ht⟩ : ∃ t, W[k]? = some t := ⟨_, List.getElem?_eq_getElem (by omega)⟩
    obtain ⟨bb, off, As, ks, rfl, hl, ⟨p0, p1, p2, p3, p4⟩, _⟩ := hW k t ht
    have hv : kd W k = t.kind := by unfold kd; rw [ht]
    rw [hv]
    have hne : decide (n ≤ k) = false := decide_eq_false (by omega)
    have hlt' : (k : Int) < (n : Int) := by omega
    clear hn hb hW ht hv
    go_enter Tryz.func100, Tryz.ntmps100
    go_wp2_with fail
    go_quiet (fail)
    go_wp2_with fail
    go_quiet (fail)
    go_wp2_with fail
    go_ret
    exact ⟨rfl, below_drews (below_drews (Below.refl _ _) _) _⟩
  · obtain rfl : k = n := by omega
    have hv : kd W k = 0 := kd_out (by omega)
    rw [hv]
    clear hn hb hW hv
    go_enter Tryz.func100, Tryz.ntmps100
    go_wp2_with fail
    go_quiet (fail)
    go_wp2_with fail
    go_ret
    exact ⟨rfl, below_drews (Below.refl _ _) _⟩
set_option maxHeartbeats 2000000 in
set_option maxRecDepth 100000 in
theorem next_no {w : World} {b : Nat} {Aw : Option Addr} {n cw : Nat} {k N : Int} {cu : Bool} {v cp o f : Value} {e : Int} (he : e ≠ 0) (hb : w.heap[b]? = some (pdO Aw n cw k N cu v cp o (.int .i64 e) f)) :
    Calls Tryz.prog 100 #[ptr b] w fun e' w' => e' = .returned (.int .i64 0) ∧ Below w.heap.size w w' := by
  obtain ⟨⟨c0, c1, _, _, _, _, _, c7, _⟩, _⟩ := blk9 hb
  have en : (e != 0) = true := by simpa using he
  clear hb he
  go_enter Tryz.func100, Tryz.ntmps100
  go_wp2_with fail
  go_quiet (fail)
  go_wp2_with fail
  go_ret
  exact ⟨rfl, below_drews (Below.refl _ _) _⟩
set_option maxHeartbeats 2000000 in
set_option maxRecDepth 100000 in
theorem fails_any {w : World} {b : Nat} {Aw : Option Addr} {n cw k : Nat} {N : Int} {cu : Bool} {v cp o : Value} {f0 why : Int} {W : List ObLex.T} {t : ObLex.T} (hn : W.length = n) (hb : w.heap[b]? = some (pdO Aw n cw k N cu v cp o (.int .i64 0) (.int .i64 f0))) (hW : Wr w b Aw W) (ht : W[k]? = some t) :
    Calls Tryz.prog 61 #[ptr b, .int .i64 why] w fun e' w' => e' = .returned (.tuple #[]) ∧ w'.heap[b]? = some (pdO Aw n cw k N cu v cp o (.int .i64 why) (.int .i64 t.at_)) ∧ Ex b w w' := by
  have hlt : k < n := by have := (List.getElem?_eq_some_iff.1 ht).1; omega
  obtain ⟨bb, off, As, ks, rfl, hl, ⟨p0, p1, p2, p3, p4⟩, hr⟩ := hW k t ht
  have hbl := lt_of_heap hb
  have hlt' : (k : Int) < (n : Int) := by omega
  obtain ⟨⟨c0, c1, _, _, _, _, _, c7, c8⟩, cf⟩ := blk9 hb
  have cf7 := cf 7; have cf8 := cf 8
  have HB := Lib.hid hb
  clear hb hW ht hr cf hn
  go_enter Tryz.func61, Tryz.ntmps61
  go_wp2_with fail
  go_region
  all_goals
    go_wp2_with fail
    refine bodyPost_end (results_none rfl _ _ _) rfl ?_
    exact ⟨rfl, heap_set 8 (.int .i64 t.at_) (heap_set 7 (.int .i64 why) HB.out), ((Ex.one b w 7 (.int .i64 why)).setL 8 (.int .i64 t.at_)).drew⟩
set_option maxHeartbeats 2000000 in
set_option maxRecDepth 100000 in
theorem starts_any (c : Int) (w : World) : Calls Tryz.prog 137 #[.int .i64 c] w fun e' w' => e' = .returned (.bool (decide (beg c))) ∧ w' = w := by
  by_cases h1 : c = 1
  · subst h1
    go_enter Tryz.func137, Tryz.ntmps137
    go_wp2_with fail
    go_ret
    exact ⟨rfl, rfl⟩
  have e1 : (c == 1) = false := beq_eq_false_iff_ne.2 h1
  by_cases h8 : c = 8
  · subst h8
    go_enter Tryz.func137, Tryz.ntmps137
    go_wp2_with fail
    go_ret
    exact ⟨rfl, rfl⟩
  have e8 : (c == 8) = false := beq_eq_false_iff_ne.2 h8
  by_cases h9 : c = 9
  · subst h9
    go_enter Tryz.func137, Tryz.ntmps137
    go_wp2_with fail
    go_ret
    exact ⟨rfl, rfl⟩
  have e9 : (c == 9) = false := beq_eq_false_iff_ne.2 h9
  by_cases h2 : c = 2
  · subst h2
    go_enter Tryz.func137, Tryz.ntmps137
    go_wp2_with fail
    go_ret
    exact ⟨rfl, rfl⟩
  have e2 : (c == 2) = false := beq_eq_false_iff_ne.2 h2
  by_cases h3 : c = 3
  · subst h3
    go_enter Tryz.func137, Tryz.ntmps137
    go_wp2_with fail
    go_ret
    exact ⟨rfl, rfl⟩
  have e3 : (c == 3) = false := beq_eq_false_iff_ne.2 h3
  have hv : decide (beg c) = false := decide_eq_false (by unfold beg; omega)
  have HV := Lib.hid hv
  clear hv h1 h8 h9 h2 h3
  go_enter Tryz.func137, Tryz.ntmps137
  go_wp2_with fail
  go_ret
  exact ⟨by rw [HV.out]; rfl, rfl⟩
/-! ### The parser's state -/
/-- The parser, while all is well: its place, its nodes, how many groups are open; of groups with numbers as many as may be. -/
def Pt (w : World) (b : Nat) (Aw : Option Addr) (cw : Nat) (W : List ObLex.T) (N : Nat) (cu : Bool) (s : St) (o : Nat) : Prop :=
  (∃ A c, w.heap[b]? = some (pdO Aw W.length cw (s.k : Int) (N : Int) cu (.slice A s.L.length c) (.int .i64 (s.caps : Int)) (.int .i64 (o : Int)) (.int .i64 0) (.int .i64 0)) ∧ Nb w b (.slice A s.L.length c) s.L ∧ Wr w b Aw W ∧ s.k ≤ W.length) ∧ s.caps ≤ 99
/-- The parser when it has a fault: at a word's place, or at the text's end, where a group is open. -/
def Pj (w : World) (b : Nat) (Aw : Option Addr) (cw : Nat) (W : List ObLex.T) (N : Nat) (cu : Bool) (er : Er) (m o : Nat) : Prop :=
  ∃ A c n l, ∃ (k cp : Nat) (e f : Int), l.length = n ∧ n ≤ m ∧ w.heap[b]? = some (pdO Aw W.length cw (k : Int) (N : Int) cu (.slice A n c) (.int .i64 (cp : Int)) (.int .i64 (o : Int)) (.int .i64 e) (.int .i64 f)) ∧ Nb w b (.slice A n c) l ∧ Wr w b Aw W ∧
    e ≠ 0 ∧ (∀ q, er = some q → e = q.1 ∧ f = q.2 ∧ ∃ t ∈ W, q.2 = t.at_) ∧ (er = none → e = 4 ∧ f = (N : Int))
/-- What a step leaves. -/
def RetG (b : Nat) (Aw : Option Addr) (cw : Nat) (W : List ObLex.T) (N : Nat) (cu : Bool) (o m : Nat) (r : PR) (w : World) (e : Ending) (w' : World) : Prop :=
  Below b w w' ∧ (∀ s' a, r = .ok (s', a) → (∃ z : Nat, a = (z : Int)) ∧ e = .returned (.int .i64 a) ∧ Pt w' b Aw cw W N cu s' o) ∧ (∀ er, r = .error er → (∃ z : Nat, e = .returned (.int .i64 (z : Int))) ∧ Pj w' b Aw cw W N cu er m o)
section
variable {w w' : World} {b : Nat} {Aw : Option Addr} {cw : Nat} {W : List ObLex.T} {N : Nat} {cu : Bool} {s : St} {o : Nat} {er : Er} {m m' : Nat} {t : ObLex.T}
theorem Pt.lt (h : Pt w b Aw cw W N cu s o) : b < w.heap.size := by
  obtain ⟨⟨A, c, h, _⟩, _⟩ := h
  exact lt_of_heap h
theorem Pt.below (h : Pt w b Aw cw W N cu s o) (hw : Below w.heap.size w w') : Pt w' b Aw cw W N cu s o := by
  have hl := Nat.le_of_lt h.lt
  obtain ⟨⟨A, c, h1, h2, h3, h4⟩, h5⟩ := h
  exact ⟨⟨A, c, keepL h1 hw, h2.below hw, h3.below (hw.mono hl), h4⟩, h5⟩
theorem Pj.lt (h : Pj w b Aw cw W N cu er m o) : b < w.heap.size := by
  obtain ⟨A, c, n, l, k, cp, e, f, _, _, h, _⟩ := h
  exact lt_of_heap h
theorem Pj.below (h : Pj w b Aw cw W N cu er m o) (hm : m ≤ m') (hw : Below w.heap.size w w') : Pj w' b Aw cw W N cu er m' o := by
  have hl := Nat.le_of_lt h.lt
  obtain ⟨A, c, n, l, k, cp, e, f, h1, h2, h3, h4, h5, h6⟩ := h
  exact ⟨A, c, n, l, k, cp, e, f, h1, Nat.le_trans h2 hm, keepL h3 hw, h4.below hw, h5.below (hw.mono hl), h6⟩
theorem RetG.more {r : PR} {e : Ending} (h : RetG b Aw cw W N cu o m r w e w') (hm : m ≤ m') : RetG b Aw cw W N cu o m' r w e w' :=
  ⟨h.1, ⟨h.2.1, fun er hr => ⟨(h.2.2 er hr).1, (h.2.2 er hr).2.below hm (Below.refl _ _)⟩⟩⟩
theorem Nb.ex {v : Value} {L : List Nd} (h : Nb w b v L) (hx : Ex b w w') : Nb w' b v L := h.but hx.size fun g hg hne => hx.block g hg hne
/-- A store into one of the parser's own cells. -/
theorem pt_next (h : Pt w b Aw cw W N cu s o) : Calls Tryz.prog 100 #[ptr b] w fun e' w' => e' = .returned (.int .i64 (kd W s.k)) ∧ Pt w' b Aw cw W N cu s o ∧ Below b w w' := by
  have hl := Nat.le_of_lt h.lt
  have h' := h
  obtain ⟨⟨A, c, h1, h2, h3, h4⟩, _⟩ := h
  exact (next_any rfl h1 h3 h4).mono fun e' w' ⟨e, hb⟩ => ⟨e, h'.below hb, hb.mono hl⟩
theorem pj_next (h : Pj w b Aw cw W N cu er m o) : Calls Tryz.prog 100 #[ptr b] w fun e' w' => e' = .returned (.int .i64 0) ∧ Pj w' b Aw cw W N cu er m o ∧ Below b w w' := by
  have hl := Nat.le_of_lt h.lt
  have h' := h
  obtain ⟨A, c, n, l, k, cp, e, f, h1, h2, h3, h4, h5, h6, h7⟩ := h
  exact (next_no h6 h3).mono fun e' w' ⟨e, hb⟩ => ⟨e, h'.below (Nat.le_refl _) hb, hb.mono hl⟩
theorem pt_put (h : Pt w b Aw cw W N cu s o) (x : Nd) (As : Option Addr) (ks : Nat) (hx : x.set = []) (hm : s.L.length ≤ 50000) :
    Calls Tryz.prog 101 #[ptr b, nv x (.slice As 0 ks)] w fun e' w' => e' = .returned (.int .i64 (put s x).2) ∧ Pt w' b Aw cw W N cu (put s x).1 o ∧ Below b w w' := by
  obtain ⟨⟨A, c, h1, h2, h3, h4⟩, h5⟩ := h
  have h := put_any x As ks h1 rfl h2 (by rw [hx]; exact S.Rgs.nil) (.inl hx) hm
  rw [hx] at h
  refine h.mono fun e' w' ⟨e, ⟨A', c', hb, hn⟩, hw⟩ => ⟨e, ⟨⟨A', c', ?_, ?_, h3.below hw, h4⟩, h5⟩, hw⟩
  · simp only [put, List.length_append, List.length_singleton]; exact hb
  · simp only [put, List.length_append, List.length_singleton]; exact hn
theorem pj_put (h : Pj w b Aw cw W N cu er m o) (x : Nd) (As : Option Addr) (ks : Nat) (hx : x.set = []) (hm : m ≤ 40000) :
    Calls Tryz.prog 101 #[ptr b, nv x (.slice As 0 ks)] w fun e' w' => (∃ z : Nat, e' = .returned (.int .i64 (z : Int))) ∧ Pj w' b Aw cw W N cu er (m + 1) o ∧ Below b w w' := by
  obtain ⟨A, c, n, l, k, cp, e, f, h1, h2, h3, h4, h5, h6⟩ := h
  have h := put_any x As ks h3 h1 h4 (by rw [hx]; exact S.Rgs.nil) (.inl hx) (by omega)
  rw [hx] at h
  exact h.mono fun e' w' ⟨e, ⟨A', c', hb, hn⟩, hw⟩ => ⟨⟨n, e⟩, ⟨A', c', n + 1, l ++ [x], k, cp, _, _, by simp [h1], by omega, hb, hn, h5.below hw, h6⟩, hw⟩
theorem pt_fails {why : Int} (h : Pt w b Aw cw W N cu s o) (ht : W[s.k]? = some t) (hw : why ≠ 0) (hm : s.L.length ≤ m) :
    Calls Tryz.prog 61 #[ptr b, .int .i64 why] w fun e' w' => e' = .returned (.tuple #[]) ∧ Pj w' b Aw cw W N cu (some (why, t.at_)) m o ∧ Below b w w' := by
  have hl := Nat.le_of_lt h.lt
  obtain ⟨⟨A, c, h1, h2, h3, h4⟩, h5⟩ := h
  refine (fails_any rfl h1 h3 ht).mono fun e' w' ⟨e, hb, hx⟩ => ?_
  have hbel := hx.below hl (Nat.le_refl _)
  exact ⟨e, ⟨A, c, _, _, s.k, s.caps, why, t.at_, rfl, hm, hb, h2.ex hx, h3.below hbel, hw, fun q hq => (by injection hq with hq; subst hq; exact ⟨rfl, rfl, t, List.mem_of_getElem? ht, rfl⟩), fun hq => (by cases hq)⟩, hbel⟩
end
end Go.Proofs.YtceeimolfalmpaaGreatDoor.T

namespace Go.Proofs.YtceeimolfalmpaaGreatDoor.T
open Go.RowKit ObSets ObTree ObParse
open Go.Proofs.YtceeimolfalmpaaGreatDoor (tv fv)

section
variable {w w' : World} {b : Nat} {Aw : Option Addr} {cw : Nat} {W : List ObLex.T} {N : Nat} {cu : Bool} {s : St} {o : Nat} {er : Er} {m m' : Nat} {t : ObLex.T}
theorem Pt.nxt (h : Pt w b Aw cw W N cu s o) (hk : s.k < W.length) : Pt (w.setCell ⟨b, 1, none⟩ (.int .i64 ((s.k : Int) + 1))) b Aw cw W N cu (nxt s) o ∧ Below b w (w.setCell ⟨b, 1, none⟩ (.int .i64 ((s.k : Int) + 1))) := by
  have hl := Nat.le_of_lt h.lt
  obtain ⟨⟨A, c, h1, h2, h3, h4⟩, h5⟩ := h
  have hx := Ex.one b w 1 (.int .i64 ((s.k : Int) + 1))
  have hbel := hx.below hl (Nat.le_refl _)
  exact ⟨⟨⟨A, c, heap_set 1 (.int .i64 ((s.k : Int) + 1)) h1, h2.ex hx, h3.below hbel, by show s.k + 1 ≤ W.length; omega⟩, h5⟩, hbel⟩
set_option maxHeartbeats 2000000 in
set_option maxRecDepth 100000 in
theorem pt_bol (h : Pt w b Aw cw W N cu s o) (ht : W[s.k]? = some t) (hk : t.kind = 8) (hW : W.length ≤ 1000) (hm : s.L.length ≤ 50000) :
    Calls Tryz.prog 155 #[ptr b] w fun e' w' => e' = .returned (.int .i64 (put (ObParse.nxt s) ⟨3, 0, 0, [], 0, 0, 0⟩).2) ∧ Pt w' b Aw cw W N cu (put (ObParse.nxt s) ⟨3, 0, 0, [], 0, 0, 0⟩).1 o ∧ Below b w w' := by
  have hlt : s.k < W.length := (List.getElem?_eq_some_iff.1 ht).1
  have hl := h.lt
  have HPT := Lib.hid h
  obtain ⟨⟨A, c, h1, h2, h3, h4⟩, h5⟩ := h
  obtain ⟨kd, pl, st, mn, mx⟩ := t
  dsimp only at hk
  subst hk
  obtain ⟨bb, off, As, ks, rfl, hbl, ⟨p0, p1, p2, p3, p4⟩, hr⟩ := h3 s.k _ ht
  dsimp only at p0 p1 p2 p3 p4 hr
  have hlt' : (s.k : Int) < (W.length : Int) := by omega
  obtain ⟨⟨c0, c1, _, _, _, _, _, _, _⟩, _⟩ := blk9 h1
  have hal := (Below.refl w.heap.size w).alloc (Nat.le_refl _) (.cells #[.int .i64 0, .int .i64 0, .slice none 0 0, .int .i64 0, .int .i64 0] 40)
  have m0 := (hal.cell (p := ⟨b, 0, none⟩) hl).trans c0
  have m1 := (hal.cell (p := ⟨b, 1, none⟩) hl).trans c1
  have hbw : bb < w.heap.size := by omega
  have q0 := (hal.cell (p := ⟨bb, _, none⟩) hbw).trans p0
  have q1 := (hal.cell (p := ⟨bb, _, none⟩) hbw).trans p1
  have q2 := (hal.cell (p := ⟨bb, _, none⟩) hbw).trans p2
  have q3 := (hal.cell (p := ⟨bb, _, none⟩) hbw).trans p3
  have q4 := (hal.cell (p := ⟨bb, _, none⟩) hbw).trans p4
  have hal2 := (Below.refl w.heap.size w).alloc (Nat.le_refl _) (.cells #[.int .i64 8, .int .i64 pl, .slice As st.length ks, .int .i64 mn, .int .i64 mx] 40)
  have HP1 := Lib.hid (HPT.out.below hal2.drew)
  have HG1 : Hid ((w.alloc (.cells #[.int .i64 8, .int .i64 pl, .slice As st.length ks, .int .i64 mn, .int .i64 mx] 40)).drew.heap[w.heap.size]? = some (.cells #[.int .i64 8, .int .i64 pl, .slice As st.length ks, .int .i64 mn, .int .i64 mx] 40)) := Lib.hid (heap_new w _)
  have HB1 := Lib.hid (hal2.drew.mono (Nat.le_of_lt hl))
  clear h1 h2 h3 h4 h5 hr ht hal hal2
  have hwn : (W.length : Int) = (W.length : Int) := rfl
  go_enter Tryz.func155, Tryz.ntmps155
  go_wp2_with fail
  go_region
  clear c0 c1 m0 m1 q0 q1 q2 q3 q4 p0 p1 p2 p3 p4 HPT hwn
  generalize (w.alloc (.cells #[.int .i64 8, .int .i64 pl, .slice As st.length ks, .int .i64 mn, .int .i64 mx] 40)).drew = W1 at *
  generalize w.heap.size = g at *
  obtain ⟨⟨g0, g1, g2, g3, g4⟩, _⟩ := blk5 HG1.out
  have HP1' := HP1.out
  obtain ⟨⟨A1, cc1, k1, k2, k3, k4⟩, k5⟩ := HP1'
  obtain ⟨⟨c0, c1, c2, c3, c4, c5, c6, c7, c8⟩, cf⟩ := blk9 k1
  have cf1 := cf 1
  have ew : IntKind.i64.wrap ((s.k : Int) + 1) = (s.k : Int) + 1 := IntWalk.i64_in _ (by omega)
  obtain ⟨hp2, hb2⟩ := HP1.out.nxt hlt
  have HA := Lib.hid (pt_put hp2 ⟨3, 0, 0, [], 0, 0, 0⟩ none 0 rfl hm)
  have HB2 := Lib.hid (HB1.out.trans hb2)
  clear hp2 hb2 k1 k2 k3 k4 k5 cf
  go_wp2_with fail
  refine HA.out.mono ?_
  rintro e2 w2 ⟨rfl, hs2, hb3⟩
  have HS := Lib.hid hs2
  have HB3 := Lib.hid (HB2.out.trans hb3)
  clear hs2 hb3
  go_wp2_with fail
  go_ret
  exact ⟨rfl, HS.out, HB3.out⟩
set_option maxHeartbeats 2000000 in
set_option maxRecDepth 100000 in
theorem pt_eol (h : Pt w b Aw cw W N cu s o) (ht : W[s.k]? = some t) (hk : t.kind = 9) (hW : W.length ≤ 1000) (hm : s.L.length ≤ 50000) :
    Calls Tryz.prog 155 #[ptr b] w fun e' w' => e' = .returned (.int .i64 (put (ObParse.nxt s) ⟨4, 0, 0, [], 0, 0, 0⟩).2) ∧ Pt w' b Aw cw W N cu (put (ObParse.nxt s) ⟨4, 0, 0, [], 0, 0, 0⟩).1 o ∧ Below b w w' := by
  have hlt : s.k < W.length := (List.getElem?_eq_some_iff.1 ht).1
  have hl := h.lt
  have HPT := Lib.hid h
  obtain ⟨⟨A, c, h1, h2, h3, h4⟩, h5⟩ := h
  obtain ⟨kd, pl, st, mn, mx⟩ := t
  dsimp only at hk
  subst hk
  obtain ⟨bb, off, As, ks, rfl, hbl, ⟨p0, p1, p2, p3, p4⟩, hr⟩ := h3 s.k _ ht
  dsimp only at p0 p1 p2 p3 p4 hr
  have hlt' : (s.k : Int) < (W.length : Int) := by omega
  obtain ⟨⟨c0, c1, _, _, _, _, _, _, _⟩, _⟩ := blk9 h1
  have hal := (Below.refl w.heap.size w).alloc (Nat.le_refl _) (.cells #[.int .i64 0, .int .i64 0, .slice none 0 0, .int .i64 0, .int .i64 0] 40)
  have m0 := (hal.cell (p := ⟨b, 0, none⟩) hl).trans c0
  have m1 := (hal.cell (p := ⟨b, 1, none⟩) hl).trans c1
  have hbw : bb < w.heap.size := by omega
  have q0 := (hal.cell (p := ⟨bb, _, none⟩) hbw).trans p0
  have q1 := (hal.cell (p := ⟨bb, _, none⟩) hbw).trans p1
  have q2 := (hal.cell (p := ⟨bb, _, none⟩) hbw).trans p2
  have q3 := (hal.cell (p := ⟨bb, _, none⟩) hbw).trans p3
  have q4 := (hal.cell (p := ⟨bb, _, none⟩) hbw).trans p4
  have hal2 := (Below.refl w.heap.size w).alloc (Nat.le_refl _) (.cells #[.int .i64 9, .int .i64 pl, .slice As st.length ks, .int .i64 mn, .int .i64 mx] 40)
  have HP1 := Lib.hid (HPT.out.below hal2.drew)
  have HG1 : Hid ((w.alloc (.cells #[.int .i64 9, .int .i64 pl, .slice As st.length ks, .int .i64 mn, .int .i64 mx] 40)).drew.heap[w.heap.size]? = some (.cells #[.int .i64 9, .int .i64 pl, .slice As st.length ks, .int .i64 mn, .int .i64 mx] 40)) := Lib.hid (heap_new w _)
  have HB1 := Lib.hid (hal2.drew.mono (Nat.le_of_lt hl))
  clear h1 h2 h3 h4 h5 hr ht hal hal2
  have hwn : (W.length : Int) = (W.length : Int) := rfl
  go_enter Tryz.func155, Tryz.ntmps155
  go_wp2_with fail
  go_region
  clear c0 c1 m0 m1 q0 q1 q2 q3 q4 p0 p1 p2 p3 p4 HPT hwn
  generalize (w.alloc (.cells #[.int .i64 9, .int .i64 pl, .slice As st.length ks, .int .i64 mn, .int .i64 mx] 40)).drew = W1 at *
  generalize w.heap.size = g at *
  obtain ⟨⟨g0, g1, g2, g3, g4⟩, _⟩ := blk5 HG1.out
  have HP1' := HP1.out
  obtain ⟨⟨A1, cc1, k1, k2, k3, k4⟩, k5⟩ := HP1'
  obtain ⟨⟨c0, c1, c2, c3, c4, c5, c6, c7, c8⟩, cf⟩ := blk9 k1
  have cf1 := cf 1
  have ew : IntKind.i64.wrap ((s.k : Int) + 1) = (s.k : Int) + 1 := IntWalk.i64_in _ (by omega)
  obtain ⟨hp2, hb2⟩ := HP1.out.nxt hlt
  have HA := Lib.hid (pt_put hp2 ⟨4, 0, 0, [], 0, 0, 0⟩ none 0 rfl hm)
  have HB2 := Lib.hid (HB1.out.trans hb2)
  clear hp2 hb2 k1 k2 k3 k4 k5 cf
  go_wp2_with fail
  refine HA.out.mono ?_
  rintro e2 w2 ⟨rfl, hs2, hb3⟩
  have HS := Lib.hid hs2
  have HB3 := Lib.hid (HB2.out.trans hb3)
  clear hs2 hb3
  go_wp2_with fail
  go_ret
  exact ⟨rfl, HS.out, HB3.out⟩
set_option maxHeartbeats 2000000 in
set_option maxRecDepth 100000 in
theorem pt_set (h : Pt w b Aw cw W N cu s o) (ht : W[s.k]? = some t) (hk : t.kind = 1) (hW : W.length ≤ 1000) (hm : s.L.length ≤ 50000) (hst : t.set.length ≤ 1000000) :
    Calls Tryz.prog 155 #[ptr b] w fun e' w' => e' = .returned (.int .i64 (put (ObParse.nxt s) ⟨2, 0, 0, t.set, 0, 0, 0⟩).2) ∧ Pt w' b Aw cw W N cu (put (ObParse.nxt s) ⟨2, 0, 0, t.set, 0, 0, 0⟩).1 o ∧ Below b w w' := by
  have hlt : s.k < W.length := (List.getElem?_eq_some_iff.1 ht).1
  have hl := h.lt
  have HPT := Lib.hid h
  obtain ⟨⟨A, c, h1, h2, h3, h4⟩, h5⟩ := h
  obtain ⟨kd, pl, st, mn, mx⟩ := t
  dsimp only at hk
  subst hk
  obtain ⟨bb, off, As, ks, rfl, hbl, ⟨p0, p1, p2, p3, p4⟩, hr⟩ := h3 s.k _ ht
  dsimp only at p0 p1 p2 p3 p4 hr
  have hlt' : (s.k : Int) < (W.length : Int) := by omega
  obtain ⟨⟨c0, c1, _, _, _, _, _, _, _⟩, _⟩ := blk9 h1
  have hal := (Below.refl w.heap.size w).alloc (Nat.le_refl _) (.cells #[.int .i64 0, .int .i64 0, .slice none 0 0, .int .i64 0, .int .i64 0] 40)
  have m0 := (hal.cell (p := ⟨b, 0, none⟩) hl).trans c0
  have m1 := (hal.cell (p := ⟨b, 1, none⟩) hl).trans c1
  have hbw : bb < w.heap.size := by omega
  have q0 := (hal.cell (p := ⟨bb, _, none⟩) hbw).trans p0
  have q1 := (hal.cell (p := ⟨bb, _, none⟩) hbw).trans p1
  have q2 := (hal.cell (p := ⟨bb, _, none⟩) hbw).trans p2
  have q3 := (hal.cell (p := ⟨bb, _, none⟩) hbw).trans p3
  have q4 := (hal.cell (p := ⟨bb, _, none⟩) hbw).trans p4
  have hal2 := (Below.refl w.heap.size w).alloc (Nat.le_refl _) (.cells #[.int .i64 1, .int .i64 pl, .slice As st.length ks, .int .i64 mn, .int .i64 mx] 40)
  have HP1 := Lib.hid (HPT.out.below hal2.drew)
  have HG1 : Hid ((w.alloc (.cells #[.int .i64 1, .int .i64 pl, .slice As st.length ks, .int .i64 mn, .int .i64 mx] 40)).drew.heap[w.heap.size]? = some (.cells #[.int .i64 1, .int .i64 pl, .slice As st.length ks, .int .i64 mn, .int .i64 mx] 40)) := Lib.hid (heap_new w _)
  have HB1 := Lib.hid (hal2.drew.mono (Nat.le_of_lt hl))
  have HRS := Lib.hid (hr.below HB1.out)
  have HST := Lib.hid hst
  clear h1 h2 h3 h4 h5 hr ht hst hal hal2
  have hwn : (W.length : Int) = (W.length : Int) := rfl
  go_enter Tryz.func155, Tryz.ntmps155
  go_wp2_with fail
  go_region
  clear c0 c1 m0 m1 q0 q1 q2 q3 q4 p0 p1 p2 p3 p4 HPT hwn
  generalize (w.alloc (.cells #[.int .i64 1, .int .i64 pl, .slice As st.length ks, .int .i64 mn, .int .i64 mx] 40)).drew = W1 at *
  generalize w.heap.size = g at *
  obtain ⟨⟨g0, g1, g2, g3, g4⟩, _⟩ := blk5 HG1.out
  have HP1' := HP1.out
  obtain ⟨⟨A1, cc1, k1, k2, k3, k4⟩, k5⟩ := HP1'
  obtain ⟨⟨c0, c1, c2, c3, c4, c5, c6, c7, c8⟩, cf⟩ := blk9 k1
  have cf1 := cf 1
  have ew : IntKind.i64.wrap ((s.k : Int) + 1) = (s.k : Int) + 1 := IntWalk.i64_in _ (by omega)
  obtain ⟨hp2, hb2⟩ := HP1.out.nxt hlt
  have HRS2 := Lib.hid (HRS.out.below hb2)
  have HB2 := Lib.hid (HB1.out.trans hb2)
  have hgb : g ≠ b := Nat.ne_of_gt hl
  have hgW : (W1.setCell ⟨b, 1, none⟩ (.int .i64 ((s.k : Int) + 1))).heap[g]? = some (.cells #[.int .i64 1, .int .i64 pl, .slice As st.length ks, .int .i64 mn, .int .i64 mx] 40) := keepB HG1.out (Ex.one b W1 1 _) hgb
  have HP2 := Lib.hid hp2
  have HG2 := Lib.hid hgW
  clear hp2 hb2 k1 k2 k3 k4 k5 cf hgW HP1
  go_upto_region 5 with fail
  clear g0 g1 g2 g3 g4 c0 c1 c2 c3 c4 c5 c6 c7 c8 cf1
  generalize W1.setCell ⟨b, 1, none⟩ (.int .i64 ((s.k : Int) + 1)) = W2 at *
  obtain ⟨⟨g0, g1, g2, g3, g4⟩, _⟩ := blk5 HG2.out
  have hb2 := HP2.out.lt
  have hb0 := (Below.refl W2.heap.size W2).alloc (Nat.le_refl _) (.cells #[] 84)
  have hrs : S.Rgs W2 W2.heap.size As st := fun hn => by
    obtain ⟨q, qo, e, hq, hc⟩ := HRS2.out hn
    exact ⟨q, qo, e, by omega, hc⟩
  obtain ⟨v1, w3, hrun, hown, hgr⟩ := S.append_src (c := ks) 38 (S.made_none W2) (hrs.on hb0) (S.rgs_none hrs) (by simpa using HST.out) (by simp)
  obtain ⟨o1, hb3⟩ := S.cat_rel hb0 (S.made_none W2) hgr hown
  rw [List.nil_append] at o1
  obtain ⟨Bs, js, rfl, _, _, hr3, hf3⟩ := o1.shape
  have HRUN := Lib.hid hrun
  obtain ⟨⟨A2, cc2, l1, l2, l3, l4⟩, l5⟩ := HP2.out
  have hfar : st = [] ∨ ∀ ad, Bs = some ad → ad.block ≠ b ∧ (Value.slice A2 s.L.length cc2).ownBlock ≠ some ad.block := by
    rcases hf3 with e | ⟨q, e, hq, _⟩
    · exact .inl e
    · refine .inr fun ad ead => ?_
      rw [e] at ead
      injection ead with ead
      subst ead
      refine ⟨by dsimp only; omega, fun ho => ?_⟩
      obtain ⟨L2, _, l22, _⟩ := l2
      have := (l22.lt q ho).2
      omega
  have HA := Lib.hid (put_any ⟨2, 0, 0, st, 0, 0, 0⟩ Bs js (keepL l1 hb3) rfl (l2.below hb3) hr3 hfar hm)
  have HW3 := Lib.hid (l3.below (hb3.mono (Nat.le_of_lt hb2)))
  have HB3 := Lib.hid (HB2.out.trans (hb3.mono (Nat.le_of_lt hb2)))
  have m2 := (hb0.cell (p := ⟨g, 2, none⟩) (lt_of_heap HG2.out)).trans g2
  clear hb0 hrs hown hgr o1 hr3 hf3 hfar l1 l2 l3 hb3 hrun hlt'
  generalize hsl : st.length = sl at *
  go_wp2_with (at_builtin; refine Lib.wpList_append_run _ rfl _ _ _ _ rfl _ _ rfl rfl _ _ HRUN.out ?_)
  refine HA.out.mono ?_
  rintro e2 w4 ⟨rfl, ⟨A', c', hb4, hn4⟩, hbw⟩
  have HS : Hid (Pt w4 b (some ⟨bb, off, none⟩) cw W N cu (put (ObParse.nxt s) ⟨2, 0, 0, st, 0, 0, 0⟩).1 o) := Lib.hid ⟨⟨A', c', by simp only [put, List.length_append, List.length_singleton]; exact hb4, by simp only [put, List.length_append, List.length_singleton]; exact hn4, HW3.out.below hbw, l4⟩, l5⟩
  have HB4 := Lib.hid (HB3.out.trans hbw)
  clear hb4 hn4 hbw
  go_wp2_with fail
  go_ret
  exact ⟨rfl, HS.out, HB4.out⟩
end
end Go.Proofs.YtceeimolfalmpaaGreatDoor.T
