/-
  Appends to a row of nodes that a call owns. No conditions but those written.
-/
import Derived.Test.YtceeimolfalmpaaTE
namespace Go.Proofs.Ytceeimolfalmpaa
open Go.RowKit ObSets ObTree

theorem info51 : (Try.prog.info? 35).map (fun i => (i.zero, i.size, i.bytes)) = some (some (.agg #[.int .i64 0, .int .i64 0, .int .i64 0, .slice none 0 0, .int .i64 0, .int .i64 0, .int .i64 0]), 7, 72) := by kernel_rfl
/-- Nodes that are appended: their cells; their sets lie below B. -/
def Sc (w : World) (B : Nat) (A : Option Addr) (c : Nat) (l : List Nd) : Prop :=
  (A = none → l = [] ∧ c = 0) ∧ ∃ L : List (Nd × Value), L.map Prod.fst = l ∧ (∀ ad, A = some ad → ∀ k u, (cellsN L)[k]? = some u → w.cell? (ad.add k) = some u) ∧ ∀ p ∈ L, ∃ As ks, p.2 = .slice As p.1.set.length ks ∧ S.Rgs w B As p.1.set
theorem add_block (a : Addr) (k : Nat) : (a.add k).block = a.block := by unfold Addr.add; split <;> rfl
theorem Sc.of {w0 w : World} {A : Option Addr} {c : Nat} {l : List Nd} (h : Nr w0 A l) (hA : A = none → l = [] ∧ c = 0) (hb : Below w0.heap.size w0 w) : Sc w w0.heap.size A c l := by
  refine ⟨hA, ?_⟩
  by_cases hne : l = []
  · subst hne; exact ⟨[], rfl, fun ad _ k u hu => by simp [cellsN] at hu, fun p hp => by cases hp⟩
  · obtain ⟨b, off, rfl, hlt, _⟩ := h hne
    obtain ⟨L, h1, h2, h3⟩ := h.cells
    refine ⟨L, h1, fun ad had k u hu => ?_, fun p hp => ?_⟩
    · injection had with had
      subst had
      exact (hb.cell (by rw [add_block]; exact hlt)).trans (h2 k u hu)
    · obtain ⟨As, ks, e, hr⟩ := h3 p hp
      exact ⟨As, ks, e, hr.below hb⟩
theorem Sc.own {w : World} {B : Nat} {A : Option Addr} {n c : Nat} {l : List Nd} (h : Nk w B (.slice A n c) l) : Sc w B A c l := by
  obtain ⟨L, rfl, h2, h3⟩ := h
  refine ⟨fun hA => ?_, L, rfl, fun ad had k u hu => ?_, h3⟩
  · subst hA
    rcases h2.2 with ⟨hv, hn⟩ | ⟨g, cap, cur, hv, _⟩
    · injection hv with _ _ hc
      exact ⟨by rw [List.eq_nil_of_length_eq_zero hn]; rfl, hc⟩
    · injection hv with hv _ _; cases hv
  · subst had
    rcases h2.2 with ⟨hv, hn⟩ | ⟨g, cap, cur, hv, _⟩
    · injection hv with hv _ _; cases hv
    · injection hv with e1 e2 e3
      injection e1 with e1
      subst e1
      exact h2.cells (g := g) rfl k u hu
/-- One node that was built. -/
theorem Sc.one {w : World} {B g c : Nat} {x : Nd} {As : Option Addr} {ks : Nat} (hg : w.heap[g]? = some (.cells #[.int .i64 x.kind, .int .i64 x.a, .int .i64 x.b, .slice As x.set.length ks, .int .i64 x.mn, .int .i64 x.mx, .int .i64 x.n] 35 (0, 0))) (hr : S.Rgs w B As x.set) : Sc w B (some ⟨g, 0, none⟩) c [x] := by
  refine ⟨(fun h => by cases h), [(x, .slice As x.set.length ks)], rfl, fun ad had k u hu => ?_, fun p hp => ?_⟩
  · injection had with had
    subst had
    have e : (⟨g, 0, none⟩ : Addr).add k = ⟨g, k, none⟩ := by unfold Addr.add; split <;> simp_all
    rw [e]
    simp only [World.cell?, hg]
    simpa [cellsN] using hu
  · simp at hp; subst hp; exact ⟨As, ks, rfl, hr⟩
theorem Sc.below {w w' : World} {B : Nat} {A : Option Addr} {c : Nat} {l : List Nd} (h : Sc w B A c l) (hB : B ≤ w.heap.size) (hlt : ∀ ad, A = some ad → ad.block < w.heap.size) (hb : Below w.heap.size w w') : Sc w' B A c l := by
  obtain ⟨hA, L, h1, h2, h3⟩ := h
  refine ⟨hA, L, h1, fun ad had k u hu => (hb.cell (by rw [add_block]; exact hlt ad had)).trans (h2 ad had k u hu), fun p hp => ?_⟩
  obtain ⟨As, ks, e, hr⟩ := h3 p hp
  exact ⟨As, ks, e, hr.keep fun q hq => hb.cell (Nat.lt_of_lt_of_le hq hB)⟩
/-- What an append leaves. -/
theorem wp_append_nk {w : World} {o : Oper} {a : Act} {K : Act → World → Prop} {Q : Exit → Act → World → Prop} (s x : Operand)
    (ho : o.op = .call { callee := .builtin .append, args := #[s, x], argTypes := #[22, 22] }) (B : Nat) (v : Value) (l m : List Nd) (mn : Nat) (hs : a.eval s = v) (hown : Nk w B v l)
    (A : Option Addr) (c : Nat) (hmn : m.length = mn) (hx : a.eval x = .slice A mn c) (hsrc : Sc w B A c m) (hlen : l.length + mn ≤ 100000) (B0 : Nat) (hB0 : B ≤ B0) (hbase : B0 ≤ w.heap.size) (hv0 : ∀ k, v.ownBlock = some k → B0 ≤ k)
    (h : ∀ v' w', Nk w' B v' (l ++ m) → (∀ k, v'.ownBlock = some k → B0 ≤ k) → w.grownBy w' v.ownBlock → K (a.put o.dst v') w') : o.wp Try.prog a w K Q := by
  subst hmn
  obtain ⟨i0, hi0, hz0, hz1, hz2⟩ := info_parts info51
  obtain ⟨L, rfl, ho1, hs1⟩ := hown
  obtain ⟨hA, M, hM, hcells, hs2⟩ := hsrc
  have hMl : M.length = m.length := by rw [← hM, List.length_map]
  rw [List.length_map] at hlen
  have ho1' : w.ownsRow B0 35 7 v L.length (cellsN L) := by
    refine ⟨ho1.1, ?_⟩
    rcases ho1.2 with h2 | ⟨g, cap, cur, hv, _, rest⟩
    · exact .inl h2
    · exact .inr ⟨g, cap, cur, hv, hv0 g (by rw [hv]; rfl), rest⟩
  have less : ∀ (v' : Value) (w' : World) n xs, w'.ownsRow B0 35 7 v' n xs → w'.ownsRow B 35 7 v' n xs := fun v' w' n xs hr => by
    refine ⟨hr.1, ?_⟩
    rcases hr.2 with h2 | ⟨g, cap, cur, hv, hbg, rest⟩
    · exact .inl h2
    · exact .inr ⟨g, cap, cur, hv, Nat.le_trans hB0 hbg, rest⟩
  have keep : ∀ (w' : World), w.grownBy w' v.ownBlock → ∀ p, (∃ As ks, p.2 = Value.slice As (p : Nd × Value).1.set.length ks ∧ S.Rgs w B As p.1.set) → ∃ As ks, p.2 = Value.slice As p.1.set.length ks ∧ S.Rgs w' B As p.1.set := fun w' hg p ⟨As, ks, e, hr⟩ => by
    refine ⟨As, ks, e, hr.keep fun q hq => hg.cell_far q (by omega) (fun e' => ?_)⟩
    have := hv0 _ e'.symm
    omega
  have fin : ∀ v' w', w'.ownsRow B0 35 7 v' (L.length + M.length) (cellsN L ++ cellsN M) → w.grownBy w' v.ownBlock → Nk w' B v' (L.map Prod.fst ++ m) := fun v' w' hr hg =>
    ⟨L ++ M, by rw [List.map_append, hM], by rw [cellsN_append, List.length_append]; exact less _ _ _ _ hr, fun p hp => by
      rw [List.mem_append] at hp
      rcases hp with hp | hp
      · exact keep w' hg p (hs1 p hp)
      · exact keep w' hg p (hs2 p hp)⟩
  cases A with
  | none =>
    obtain ⟨hm0, hc0⟩ := hA rfl
    have hM0 : M = [] := List.eq_nil_of_length_eq_zero (by rw [hMl, hm0]; rfl)
    have hrun := run_append_owned_none (P := Try.prog) (w := w) B0 22 o.type 35 i0 7 Try.underlying22 hi0 v _ _ ho1'
    have hx' : a.eval x = .slice none 0 0 := by rw [hx, hm0, hc0]; rfl
    unfold Oper.wp
    simp [execOp, ho, resolve, invoke, builtin, hs, hx', hrun, Result.andThen]
    refine h v w (fin v w ?_ (World.grownBy.refl w _)) hv0 (World.grownBy.refl w _)
    rw [hM0]; simpa [cellsN] using ho1'
  | some ad =>
    refine wp_append_own w s x 22 ho B0 35 i0 (.agg #[.int .i64 0, .int .i64 0, .int .i64 0, .slice none 0 0, .int .i64 0, .int .i64 0, .int .i64 0]) 7 72 Try.underlying22 hi0 hz0 hz1 hz2 rfl (by decide) v _ _ hs ho1' ad M.length c (cellsN M) (by rw [hx, hMl]) (cellsN_len M)
      (fun j u hu => hcells ad rfl j u hu) (cellsN_one M (fun p hp => ?_)) (by unfold maxLen; omega) (by omega) hbase ?_
    · obtain ⟨As, ks, e, _⟩ := hs2 p hp
      rw [e]; rfl
    · intro v' w' h1 h2 _
      exact h v' w' (fin v' w' h1 h2) (fun k hk => (h1.lt k hk).1) h2
theorem wpList_wanted {w : World} {ops : Array Oper} {rest : List Oper} {o : Oper} {a : Act} {Q : Exit → Act → World → Prop} (hw : Region.wanted o (yielded ops a.tmps) = true)
    (h : ∀ K : Act → World → Prop, (∀ a w, wpList Try.prog ops Q rest a w → K a w) → o.wp Try.prog a w K Q) : wpList Try.prog ops Q (o :: rest) a w :=
  wpList_step fun K hK => by rw [if_pos hw]; exact h K hK
/-- An empty row of nodes, as a call makes it. -/
theorem Nk.empty {w : World} {B g : Nat} (hg : g = w.heap.size) (hB : B ≤ g) : Nk (w.alloc (.cells #[] 35)) B (.slice (some ⟨g, 0, none⟩) 0 0) [] := by
  subst hg
  exact ⟨[], rfl, ⟨rfl, .inr ⟨w.heap.size, 0, #[], rfl, hB, heap_new w _, Nat.le_refl _, Nat.zero_le _, rfl, rfl⟩⟩, by simp⟩
end Go.Proofs.Ytceeimolfalmpaa
