/-
  A row of words that a call owns: what a store into one word's place makes of it; appends of such rows; words of two texts. No conditions but those written.
-/
import Derived.Test.YtekpliookdihlaaDoorV2
import Derived.Laws.AppendOwnNone
import Derived.OneCell
namespace Go.Proofs.YtekpliookdihlaaDoor
open Go.RowKit ObUtf ObSets ObLex

section
variable {w : World} {B g n cap : Nat}
theorem own_put {base : Nat} {e : TypeId} {size : Nat} {xs : List Value} (h : w.ownsRow base e size (.slice (some ⟨g, 0, none⟩) n cap) n xs) (k : Nat) (u : Value) :
    (w.setCell ⟨g, k, none⟩ u).ownsRow base e size (.slice (some ⟨g, 0, none⟩) n cap) n (xs.set k u) := by
  refine ⟨by simp [h.1], .inr ?_⟩
  rcases h.2 with ⟨hv, _⟩ | ⟨g', cap', cur, hv, hb, hg, h1, h2, h3, h4⟩
  · cases hv
  · injection hv with e1 e2 e3
    injection e1 with e1
    injection e1 with e1 _ _
    subst e1 e3
    refine ⟨g, cap, cur.setIfInBounds k u, rfl, hb, heap_set k u hg, h1, h2, by simpa using h3, ?_⟩
    rw [Array.toList_setIfInBounds, List.take_set, h4]
theorem ow_set {k : Nat} {v u : Value} {l : List R} {cur : Array Value} (h : S.Ow w B v l) (hg : w.heap[g]? = some (.cells cur 38 (0, 0))) : S.Ow (w.setCell ⟨g, k, none⟩ u) B v l := by
  refine ownsRow_setCell_other h (fun e => ?_) u
  rcases h.2 with ⟨hv, _⟩ | ⟨g', cap', cur', hv, _, hg', _⟩
  · rw [hv] at e; cases e
  · rw [hv] at e
    have e' : g' = g := by injection e
    subst e'
    rw [hg'] at hg
    injection hg with hg
    injection hg with _ h2 _
    exact absurd h2 (by decide)
theorem cellsT_put (P Q : List (T × Value)) (p : T × Value) (a : Int) : (cellsT (P ++ p :: Q)).set (P.length * 5 + 1) (.int .i64 a) = cellsT (P ++ ({ p.1 with at_ := a }, p.2) :: Q) := by
  rw [cellsT_append, cellsT_append, List.set_append_right _ _ (by rw [cellsT_len]; omega), cellsT_len, show P.length * 5 + 1 - P.length * 5 = 1 by omega]
  rfl
/-- A word's place written anew. -/
theorem Tk.put {p q : List T} {t : T} (h : Tk w B (.slice (some ⟨g, 0, none⟩) n cap) (p ++ t :: q)) (a : Int) :
    Tk (w.setCell ⟨g, p.length * 5 + 1, none⟩ (.int .i64 a)) B (.slice (some ⟨g, 0, none⟩) n cap) (p ++ { t with at_ := a } :: q) := by
  obtain ⟨L, hL, hown, hsets⟩ := h
  obtain ⟨P, L2, rfl, hP, h2⟩ := List.map_eq_append_iff.1 hL
  obtain ⟨x, Q, rfl, hx, hQ⟩ := List.map_eq_cons_iff.1 h2
  subst hP hx hQ
  have hn : n = (P ++ x :: Q).length := by
    rcases hown.2 with ⟨hv, _⟩ | ⟨g', cap', cur, hv, _⟩
    · cases hv
    · injection hv
  obtain ⟨cur, hg⟩ : ∃ cur, w.heap[g]? = some (.cells cur 38 (0, 0)) := own_row38 hown g rfl
  refine ⟨P ++ ({ x.1 with at_ := a }, x.2) :: Q, by simp, ?_, fun y hy => ?_⟩
  · rw [← cellsT_put, List.length_map, show (P ++ ({ x.1 with at_ := a }, x.2) :: Q).length = (P ++ x :: Q).length by simp, ← hn]
    rw [← hn] at hown
    exact own_put hown _ _
  · refine ow_set ?_ hg
    rw [List.mem_append, List.mem_cons] at hy
    rcases hy with hy | rfl | hy
    · exact hsets y (by simp [hy])
    · exact hsets x (by simp)
    · exact hsets y (by simp [hy])
/-- The block of a row of words that is not empty. -/
theorem Tk.block {v : Value} {l : List T} (h : Tk w B v l) (hne : l ≠ []) : ∃ g cap, v = .slice (some ⟨g, 0, none⟩) l.length cap ∧ B ≤ g ∧ g < w.heap.size ∧ ∀ k, w.frozen? ⟨g, k, none⟩ = false := by
  obtain ⟨L, rfl, hown, hsets⟩ := h
  rcases hown.2 with ⟨_, hn⟩ | ⟨g, cap, cur, hv, hb, hg, rest⟩
  · exact absurd (by rw [List.eq_nil_of_length_eq_zero hn]; rfl) hne
  · exact ⟨g, cap, by rw [hv, List.length_map], hb, lt_of_heap hg, fun k => by simp [World.frozen?, hg]⟩
end
theorem cellsT_one : ∀ (L : List (T × Value)), (∀ p ∈ L, p.2.oneCell' = true) → ∀ u ∈ cellsT L, u.oneCell' = true
  | [], _, u, hu => by cases hu
  | p :: L, h, u, hu => by
    simp [cellsT] at hu
    rcases hu with rfl | rfl | rfl | rfl | rfl | hu
    · rfl
    · rfl
    · exact h p (by simp)
    · rfl
    · rfl
    · exact cellsT_one L (fun q hq => h q (by simp [hq])) u hu
theorem wpList_wanted {w : World} {ops : Array Oper} {rest : List Oper} {o : Oper} {a : Act} {Q : Exit → Act → World → Prop} (hw : Region.wanted o (yielded ops a.tmps) = true)
    (h : ∀ K : Act → World → Prop, (∀ a w, wpList Tryd.prog ops Q rest a w → K a w) → o.wp Tryd.prog a w K Q) : wpList Tryd.prog ops Q (o :: rest) a w :=
  wpList_step fun K hK => by rw [if_pos hw]; exact h K hK
/-- What an append of one row of words to another one leaves. -/
theorem wp_append_tk {w : World} {o : Oper} {a : Act} {K : Act → World → Prop} {Q : Exit → Act → World → Prop} (s x : Operand)
    (ho : o.op = .call { callee := .builtin .append, args := #[s, x], argTypes := #[29, 29] }) (B B' : Nat) (v : Value) (l m : List T) (mn : Nat) (hs : a.eval s = v) (hown : Tk w B v l)
    (A : Option Addr) (c : Nat) (hmn : m.length = mn) (hx : a.eval x = .slice A mn c) (hsrc : Tk w B' (.slice A mn c) m) (hlen : l.length + mn ≤ 100000) (hB : B ≤ B') (B0 : Nat) (hB0 : B ≤ B0) (hbase : B0 ≤ w.heap.size) (hv0 : ∀ k, v.ownBlock = some k → B0 ≤ k)
    (h : ∀ v' w', Tk w' B v' (l ++ m) → (∀ k, v'.ownBlock = some k → B0 ≤ k) → w.grownBy w' v.ownBlock → K (a.put o.dst v') w') : o.wp Tryd.prog a w K Q := by
  subst hmn
  obtain ⟨i0, hi0, hz0, hz1, hz2⟩ := info_parts info38
  obtain ⟨L, rfl, ho1, hs1⟩ := hown
  obtain ⟨M, hM, ho2, hs2⟩ := hsrc
  have hMl : M.length = m.length := by rw [← hM, List.length_map]
  rw [List.length_map] at hlen
  have ho1' : w.ownsRow B0 38 5 v L.length (cellsT L) := by
    refine ⟨ho1.1, ?_⟩
    rcases ho1.2 with h2 | ⟨g, cap, cur, hv, _, rest⟩
    · exact .inl h2
    · exact .inr ⟨g, cap, cur, hv, hv0 g (by rw [hv]; rfl), rest⟩
  have blk : ∀ (v' : Value) (w' : World) n xs, w'.ownsRow B0 38 5 v' n xs → ∀ k, v'.ownBlock = some k → B0 ≤ k := fun v' w' n xs hr k hk => (hr.lt k hk).1
  have fin : ∀ v' w', w'.ownsRow B 38 5 v' (L.length + M.length) (cellsT L ++ cellsT M) → w.grownBy w' v.ownBlock → Tk w' B v' (L.map Prod.fst ++ m) := fun v' w' hr hg =>
    ⟨L ++ M, by rw [List.map_append, hM], by rw [cellsT_append, List.length_append]; exact hr, fun p hp => by
      rw [List.mem_append] at hp
      rcases hp with hp | hp
      · exact (hs1 p hp).grown hg (own_row38 ho1)
      · exact ((hs2 p hp).less hB).grown hg (own_row38 ho1)⟩
  rcases ho2.2 with ⟨hv, hn⟩ | ⟨g, cap, cur, hv, hbg, hg, rest2⟩
  · have hM0 := List.eq_nil_of_length_eq_zero hn
    injection hv with e1 e2 e3
    subst e1
    have hrun := run_append_owned_none (P := Tryd.prog) (w := w) B 29 o.type 38 i0 5 Tryd.underlying29 hi0 v _ _ ho1
    have hx' : a.eval x = .slice none 0 0 := by rw [hx, ← hMl, hn, e3]
    unfold Oper.wp
    simp [execOp, ho, resolve, invoke, builtin, hs, hx', hrun, Result.andThen]
    refine h v w (fin v w ?_ (World.grownBy.refl w _)) hv0 (World.grownBy.refl w _)
    rw [hM0]; simpa [cellsT] using ho1
  · injection hv with e1 e2 e3
    subst e1
    refine wp_append_own w s x 29 ho B0 38 i0 (.agg #[.int .i64 0, .int .i64 0, .slice none 0 0, .int .i64 0, .int .i64 0]) 5 56 Tryd.underlying29 hi0 hz0 hz1 hz2 rfl (by decide) v _ _ hs ho1' ⟨g, 0, none⟩ M.length c (cellsT M) (by rw [hx, hMl]) (cellsT_len M)
      (fun j u hu => World.ownsRow.cells ho2 (g := g) rfl j u hu) (cellsT_one M (fun p hp => ?_)) (by unfold maxLen; omega) (by omega) hbase ?_
    · obtain ⟨As, ks, e, _⟩ := (hs2 p hp).shape
      rw [e]; rfl
    · intro v' w' h1 h2 _
      exact h v' w' (fin v' w' (own_less h1 hB0) h2) (blk v' w' _ _ h1) h2
/-- An empty row of words, as a call makes it. -/
theorem Tk.empty {w : World} : Tk (w.alloc (.cells #[] 38)) w.heap.size (.slice (some ⟨w.heap.size, 0, none⟩) 0 0) [] :=
  ⟨[], rfl, ⟨rfl, .inr ⟨w.heap.size, 0, #[], rfl, Nat.le_refl _, heap_new w _, Nat.le_refl _, Nat.zero_le _, rfl, rfl⟩⟩, by simp⟩
end Go.Proofs.YtekpliookdihlaaDoor
