/-
  Rows of nodes in memory: a slice that reads as nodes; a row of numbers that a call owns; what Kids of the page's own answers. No conditions.
  Plain: a tree's groups, numbered as they begin: what going through its nodes in that order makes of a row. No program, no conditions but those written.
  Laws of no program: an append to a row of one's own, and in which block it then lies.
  The order in which a tree's nodes begin, as the page's own tells it (order). Condition: the row is a tree's.
  A row of nodes that a call owns: how it reads, what an append to it leaves, a node's place written anew. No conditions but those written.
  Appends to a row of nodes that a call owns. No conditions but those written.
-/
import Derived.Test.YtceeimolfalmpaaDoorSB
import Derived.Test.YtceeimolfalmpaaDoorTA
import Derived.Deep.RegionHeld3
import Derived.Lib.AppendZeros
import Derived.Lib.AppendZerosOnto
import Derived.Laws.AppendOwnNone
import Derived.OneCell
namespace Go.Proofs.YtceeimolfalmpaaDoor.T
open Go.RowKit ObSets ObTree

abbrev ints (zs : List Int) : List Value := zs.map (Value.int .i64)
/-- A node's value. -/
abbrev nv (x : Nd) (V : Value) : Value := .agg #[.int .i64 x.kind, .int .i64 x.a, .int .i64 x.b, V, .int .i64 x.mn, .int .i64 x.mx, .int .i64 x.n]
/-- A tree's value. -/
abbrev tr (A : Option Addr) (n c : Nat) : Value := .agg #[.slice A n c]
/-- A node's cells. -/
def NdAt (w : World) (b o : Nat) (x : Nd) : Prop :=
  ∃ As ks, (w.cell? ⟨b, o, none⟩ = some (.int .i64 x.kind) ∧ w.cell? ⟨b, o + 1, none⟩ = some (.int .i64 x.a) ∧ w.cell? ⟨b, o + 2, none⟩ = some (.int .i64 x.b) ∧ w.cell? ⟨b, o + 3, none⟩ = some (.slice As x.set.length ks) ∧ w.cell? ⟨b, o + 4, none⟩ = some (.int .i64 x.mn) ∧ w.cell? ⟨b, o + 5, none⟩ = some (.int .i64 x.mx) ∧ w.cell? ⟨b, o + 6, none⟩ = some (.int .i64 x.n)) ∧ S.Rgs w w.heap.size As x.set
/-- A slice that reads as nodes. -/
def Nr (w : World) (A : Option Addr) (l : List Nd) : Prop :=
  l ≠ [] → ∃ b off, A = some ⟨b, off, none⟩ ∧ b < w.heap.size ∧ ∀ j x, l[j]? = some x → NdAt w b (off + j * 7) x
theorem NdAt.below {w w' : World} {b o : Nat} {x : Nd} (h : NdAt w b o x) (hlt : b < w.heap.size) (hb : Below w.heap.size w w') : NdAt w' b o x := by
  obtain ⟨As, ks, ⟨c0, c1, c2, c3, c4, c5, c6⟩, hr⟩ := h
  exact ⟨As, ks, ⟨(hb.cell (p := ⟨b, _, none⟩) hlt).trans c0, (hb.cell (p := ⟨b, _, none⟩) hlt).trans c1, (hb.cell (p := ⟨b, _, none⟩) hlt).trans c2, (hb.cell (p := ⟨b, _, none⟩) hlt).trans c3, (hb.cell (p := ⟨b, _, none⟩) hlt).trans c4, (hb.cell (p := ⟨b, _, none⟩) hlt).trans c5, (hb.cell (p := ⟨b, _, none⟩) hlt).trans c6⟩, hr.on hb⟩
theorem Nr.below {w w' : World} {A : Option Addr} {l : List Nd} (h : Nr w A l) (hb : Below w.heap.size w w') : Nr w' A l := fun hne => by
  obtain ⟨b, off, e, hlt, hc⟩ := h hne
  exact ⟨b, off, e, Nat.lt_of_lt_of_le hlt hb.size, fun j x hx => (hc j x hx).below hlt hb⟩
/-- What a call hands back: a row of numbers of its own. -/
def RetZ (zs : List Int) (w : World) (e : Ending) (w' : World) : Prop := ∃ v, e = .returned v ∧ w'.ownsRow w.heap.size 3 1 v zs.length (ints zs) ∧ Below w.heap.size w w'
theorem row1 {w : World} {B g : Nat} (hg : g = w.heap.size) (hB : B ≤ g) (a : Int) : (w.alloc (.cells #[.int .i64 a] 3)).ownsRow B 3 1 (.slice (some ⟨g, 0, none⟩) 1 1) 1 (ints [a]) := by
  subst hg; exact World.ownsRow_lit w #[.int .i64 a] 1 hB (by unfold maxLen; omega) rfl
theorem row2 {w : World} {B g : Nat} (hg : g = w.heap.size) (hB : B ≤ g) (a b : Int) : (w.alloc (.cells #[.int .i64 a, .int .i64 b] 3)).ownsRow B 3 1 (.slice (some ⟨g, 0, none⟩) 2 2) 2 (ints [a, b]) := by
  subst hg; exact World.ownsRow_lit w #[.int .i64 a, .int .i64 b] 2 hB (by unfold maxLen; omega) rfl
theorem less1 {w : World} {B B' : Nat} {v : Value} {n : Nat} {xs : List Value} (h : w.ownsRow B 3 1 v n xs) (hb : B' ≤ B) : w.ownsRow B' 3 1 v n xs := by
  refine ⟨h.1, ?_⟩
  rcases h.2 with h2 | ⟨g, cap, cur, hv, hbg, rest⟩
  · exact .inl h2
  · exact .inr ⟨g, cap, cur, hv, Nat.le_trans hb hbg, rest⟩
end Go.Proofs.YtceeimolfalmpaaDoor.T

namespace ObTree
open ObSets Tree

/-- How many groups a tree has. -/
def ncap : Tree → Nat
  | leaf _ => 0
  | one x t => (if x.kind = 8 then 1 else 0) + ncap t
  | two _ s t => ncap s + ncap t
theorem ncap_le : ∀ t, ncap t ≤ size t
  | leaf _ => Nat.zero_le _
  | one x t => by have := ncap_le t; simp only [ncap, size]; split <;> omega
  | two _ s t => by have := ncap_le s; have := ncap_le t; simp only [ncap, size]; omega
/-- Its groups numbered anew, behind so many. -/
def num : Nat → Tree → Tree
  | _, leaf x => leaf x
  | n, one x t => if x.kind = 8 then one { x with n := (n : Int) + 1 } (num (n + 1) t) else one x (num n t)
  | n, two x s t => two x (num n s) (num (n + ncap s) t)
theorem num_size : ∀ (t : Tree) (n : Nat), size (num n t) = size t
  | leaf _, _ => rfl
  | one x t, n => by simp only [num]; split <;> simp [size, num_size t]
  | two x s t, n => by simp [num, size, num_size s, num_size t]
theorem num_ok : ∀ (t : Tree) (n : Nat), Ok t → Ok (num n t)
  | leaf _, _, h => h
  | one x t, n, h => by
    simp only [num]
    split
    · exact ⟨h.1, num_ok t _ h.2⟩
    · exact ⟨h.1, num_ok t _ h.2⟩
  | two x s t, n, h => ⟨h.1, num_ok s _ h.2.1, num_ok t _ h.2.2⟩
/-- One step of the numbering. -/
def stepN (p : List Nd × Nat) (i : Int) : List Nd × Nat :=
  match p.1[i.toNat]? with
  | none => p
  | some x => if x.kind = 8 then (p.1.set i.toNat { x with n := (p.2 : Int) + 1 }, p.2 + 1) else p
theorem stepN_cap {L : List Nd} {n : Nat} {i : Int} {x : Nd} (h : L[i.toNat]? = some x) (hk : x.kind = 8) : stepN (L, n) i = (L.set i.toNat { x with n := (n : Int) + 1 }, n + 1) := by
  unfold stepN; rw [h]; dsimp only; rw [if_pos hk]
theorem stepN_no {L : List Nd} {n : Nat} {i : Int} {x : Nd} (h : L[i.toNat]? = some x) (hk : x.kind ≠ 8) : stepN (L, n) i = (L, n) := by
  unfold stepN; rw [h]; dsimp only; rw [if_neg hk]
/-- The row behind the numbering of a tree that lies in it. -/
def Done (L : List Nd) (n o : Nat) (t : Tree) (p : List Nd × Nat) : Prop :=
  At p.1 o (num n t) ∧ p.2 = n + ncap t ∧ p.1.length = L.length ∧ ∀ j, j < o ∨ o + size t ≤ j → p.1[j]? = L[j]?
theorem At.same {L M : List Nd} {o : Nat} {t : Tree} (h : At L o t) (hs : ∀ j, o ≤ j → j < o + size t → M[j]? = L[j]?) : At M o t := At.mk fun j hj => by
  rw [hs (o + j) (by omega) (by omega)]; exact h.get hj
theorem num_done : ∀ (t : Tree) (L : List Nd) (n o : Nat), Ok t → At L o t → Done L n o t ((ord o t).foldl stepN (L, n))
  | leaf x, L, n, o, hok, h => by
    have hx := at_leaf h
    have h0 : kids x = [] := hok
    have hk : x.kind ≠ 8 := fun e => by rw [kids_one (by omega)] at h0; cases h0
    simp only [ord, List.foldl_cons, List.foldl_nil]
    rw [stepN_no (x := x) (by rw [Int.toNat_natCast]; exact hx) hk]
    exact ⟨h, rfl, rfl, fun _ _ => rfl⟩
  | one x t, L, n, o, hok, h => by
    obtain ⟨g1, g2⟩ := at_one h
    obtain ⟨k1, k2⟩ := hok
    have hp := size_pos t
    have ei : ((o : Int) + size t).toNat = o + size t := by omega
    simp only [ord, List.foldl_cons]
    by_cases hk : x.kind = 8
    · rw [stepN_cap (x := { x with a := (o : Int) + size t - 1 }) (by rw [ei]; exact g2) hk, ei]
      have hlt : o + size t < L.length := (List.getElem?_eq_some_iff.1 g2).1
      have hset : ∀ j, j ≠ o + size t → (L.set (o + size t) { ({ x with a := (o : Int) + size t - 1 } : Nd) with n := (n : Int) + 1 })[j]? = L[j]? := fun j hj => List.getElem?_set_ne (by omega)
      obtain ⟨d1, d2, d3, d4⟩ := num_done t (L.set (o + size t) { ({ x with a := (o : Int) + size t - 1 } : Nd) with n := (n : Int) + 1 }) (n + 1) o k2 (g1.same fun j _ hj => hset j (by omega))
      have en : num n (one x t) = one { x with n := (n : Int) + 1 } (num (n + 1) t) := by simp only [num]; rw [if_pos hk]
      refine ⟨?_, ?_, by rw [d3, List.length_set], fun j hj => ?_⟩
      · rw [en]
        refine at_mk_one (x := { ({ x with a := (o : Int) + size t - 1 } : Nd) with n := (n : Int) + 1 }) d1 ?_ (by rw [num_size]) |>.trans ?_
        · rw [num_size, d4 _ (.inr (Nat.le_refl _)), List.getElem?_set_self hlt]
        · simp only [flat]
      · rw [d2]; simp only [ncap]; rw [if_pos hk]; omega
      · have hj' : j < o ∨ o + (size t + 1) ≤ j := hj
        rw [d4 j (by omega), hset j (by omega)]
    · rw [stepN_no (x := { x with a := (o : Int) + size t - 1 }) (by rw [ei]; exact g2) hk]
      obtain ⟨d1, d2, d3, d4⟩ := num_done t L n o k2 g1
      have en : num n (one x t) = one x (num n t) := by simp only [num]; rw [if_neg hk]
      refine ⟨?_, ?_, d3, fun j hj => ?_⟩
      · rw [en]
        refine at_mk_one (x := { x with a := (o : Int) + size t - 1 }) d1 ?_ (by rw [num_size]) |>.trans ?_
        · rw [num_size, d4 _ (.inr (Nat.le_refl _))]; exact g2
        · simp only [flat]
      · rw [d2]; simp only [ncap]; rw [if_neg hk]; omega
      · have hj' : j < o ∨ o + (size t + 1) ≤ j := hj
        rw [d4 j (by omega)]
  | two x s t, L, n, o, hok, h => by
    obtain ⟨g1, g2, g3⟩ := at_two h
    obtain ⟨k1, k2, k3⟩ := hok
    have hp := size_pos t
    have hp2 := size_pos s
    have ei : ((o : Int) + size s + size t).toNat = o + size s + size t := by omega
    simp only [ord, List.foldl_cons, List.foldl_append]
    rw [stepN_no (x := { x with a := (o : Int) + size s - 1, b := (o : Int) + size s + size t - 1 }) (by rw [ei]; exact g3) (by show x.kind ≠ 8; omega)]
    obtain ⟨d1, d2, d3, d4⟩ := num_done s L n o k2 g1
    generalize (ord o s).foldl stepN (L, n) = p at *
    obtain ⟨M, m⟩ := p
    dsimp only at d1 d2 d3 d4
    obtain ⟨f1, f2, f3, f4⟩ := num_done t M m (o + size s) k3 (g2.same fun j hj _ => d4 j (by omega))
    refine ⟨?_, ?_, by rw [f3, d3], fun j hj => ?_⟩
    · have en : num n (two x s t) = two x (num n s) (num (n + ncap s) t) := rfl
      rw [en]
      refine at_mk_two (x := { x with a := (o : Int) + size s - 1, b := (o : Int) + size s + size t - 1 }) (d1.same fun j _ hj => ?_) ?_ ?_ (by rw [num_size]) (by rw [num_size, num_size]) |>.trans ?_
      · rw [num_size] at hj; exact f4 j (by omega)
      · rw [num_size, ← d2]; exact f1
      · rw [num_size, num_size, f4 _ (.inr (Nat.le_refl _)), d4 _ (by omega)]; exact g3
      · simp only [flat]
    · rw [f2, d2]; simp only [ncap]; omega
    · have hj' : j < o ∨ o + (size s + size t + 1) ≤ j := hj
      rw [f4 j (by omega), d4 j (by omega)]
theorem num_flat (t : Tree) (h : Ok t) : (ord 0 t).foldl stepN (flat 0 t, 0) = (flat 0 (num 0 t), ncap t) := by
  obtain ⟨d1, d2, d3, _⟩ := num_done t (flat 0 t) 0 0 h (At.whole t)
  generalize (ord 0 t).foldl stepN (flat 0 t, 0) = p at *
  obtain ⟨M, m⟩ := p
  dsimp only at d1 d2 d3
  unfold At at d1
  rw [flat_len] at d3
  rw [List.drop_zero, num_size, ← d3, List.take_length] at d1
  rw [d1, d2, Nat.zero_add]
end ObTree

namespace Go.Proofs.YtceeimolfalmpaaDoor.T
open Go.RowKit

theorem run_append_at {P : Program} (w : World) (t ty e : TypeId) (i : TypeInfo) (z : Value) (bytes : Nat) (ht : P.underlying t = some (.slice e)) (hi : P.info? e = some i) (hz : i.zero = some z)
    (hsize : i.size = 1) (hby : i.bytes = bytes) (hzs : z.cells.size = 1)
    (v : Value) (n : Nat) (xs : List Value) (hown : w.ownsRow 0 e 1 v n xs)
    (a : Addr) (m c : Nat) (news : List Value) (hl : news.length = m) (hnews : ∀ j u, news[j]? = some u → w.cell? (a.add j) = some u) (h1 : ∀ u ∈ news, u.oneCell' = true)
    (h63 : n + m ≤ maxLen) (hbytes : (n + m) * bytes ≤ 140737488355328) :
    ∃ v' w', (Builtin.append_ #[t, t] ty #[v, .slice (some a) m c]).run P w = .ok v' w' ∧ w'.ownsRow 0 e 1 v' (n + m) (xs ++ news) ∧ w.grownBy w' v.ownBlock ∧ (∀ g, v'.ownBlock = some g → v.ownBlock = some g ∨ w.heap.size ≤ g) := by
  obtain ⟨v', w', hr, h2, h3, h4⟩ := run_append_own (P := P) w 0 t ty e i z 1 bytes ht hi hz hsize hby hzs (by omega) v n xs hown a m c news (by omega) hnews h1 h63 hbytes (Nat.zero_le _)
  refine ⟨v', w', hr, h2, h3, fun g hg => ?_⟩
  have hsm : n + m ≤ 9223372036854775807 := by simp only [maxLen] at h63; omega
  subst hby
  rcases hown.2 with ⟨rfl, rfl⟩ | ⟨k, cap, cur, rfl, hbg, hgk, hnc, hcm, hcs, htake⟩
  · by_cases hm : m = 0
    · have := h4.2 ⟨rfl, hm⟩
      subst this; cases hg
    · have hr2 := run_append_nil (P := P) w t ty e i z ht hi hz a m c news (by rw [hsize]; omega) hnews (by omega) (by omega) (by have hb := hbytes; simp only [Nat.zero_add] at hb; omega)
      rw [hr] at hr2
      injection hr2 with e1 e2
      subst e1
      simp only [Value.ownBlock, Option.some.injEq] at hg
      exact .inr (by omega)
  · by_cases hroom : n + m ≤ cap
    · have hr2 := run_append_room (P := P) w t ty e i ht hi k n cap cur hgk a m c news (by rw [hsize]; omega) hnews h1 hroom (by rw [hsize, hcs]; omega)
      rw [hr] at hr2
      injection hr2 with e1 e2
      subst e1
      exact .inl hg
    · have hr2 := run_append_grow (P := P) w t ty e i z ht hi hz ⟨k, 0, none⟩ n cap xs (by rw [hsize, hown.1]) (hown.cells (g := k) rfl) a m c news (by rw [hsize]; omega) hnews (by omega) (by omega) (growslice_fits (by omega) hbytes)
      rw [hr] at hr2
      injection hr2 with e1 e2
      subst e1
      simp only [Value.ownBlock, Option.some.injEq] at hg
      exact .inr (by omega)
theorem wpList_append_at {P : Program} {w : World} {ops : Array Oper} {rest : List Oper} {o : Oper} {act : Act} {Q : Exit → Act → World → Prop} (hgd : o.guard = none) (s x : Operand) (t : TypeId)
    (ho : o.op = .call { callee := .builtin .append, args := #[s, x], argTypes := #[t, t] }) (e : TypeId) (i : TypeInfo) (z : Value) (bytes : Nat) (ht : P.underlying t = some (.slice e)) (hi : P.info? e = some i) (hz : i.zero = some z)
    (hsize : i.size = 1) (hby : i.bytes = bytes) (hzs : z.cells.size = 1)
    (v : Value) (n : Nat) (xs : List Value) (hs : act.eval s = v) (hown : w.ownsRow 0 e 1 v n xs)
    (a : Addr) (m c : Nat) (news : List Value) (hx : act.eval x = .slice (some a) m c) (hl : news.length = m) (hnews : ∀ j u, news[j]? = some u → w.cell? (a.add j) = some u) (h1 : ∀ u ∈ news, u.oneCell' = true)
    (h63 : n + m ≤ maxLen) (hbytes : (n + m) * bytes ≤ 140737488355328)
    (h : ∀ v' w', w'.ownsRow 0 e 1 v' (n + m) (xs ++ news) → w.grownBy w' v.ownBlock → (∀ g, v'.ownBlock = some g → v.ownBlock = some g ∨ w.heap.size ≤ g) → wpList P ops Q rest (act.put o.dst v') w') : wpList P ops Q (o :: rest) act w := by
  obtain ⟨v', w', hr, h2, h3, h4⟩ := run_append_at (P := P) w t o.type e i z bytes ht hi hz hsize hby hzs v n xs hown a m c news hl hnews h1 h63 hbytes
  exact Lib.wpList_append_run w hgd s x t t ho v _ hs hx v' w' hr (h v' w' h2 h3 h4)
end Go.Proofs.YtceeimolfalmpaaDoor.T

namespace Go.Proofs.YtceeimolfalmpaaDoor.T
open Go.RowKit ObSets ObTree ObTree.Tree

theorem info3 : (Tryd.prog.info? 3).map (fun i => (i.zero, i.size, i.bytes)) = some (some (.int .i64 0), 1, 8) := by kernel_rfl
theorem heap_new (w : World) (o : Obj) : (w.alloc o).heap[w.heap.size]? = some o := by
  show (w.heap.push o)[w.heap.size]? = _
  simp
theorem lt_of_heap {w : World} {b : Nat} {o : Obj} (h : w.heap[b]? = some o) : b < w.heap.size := (Array.getElem?_eq_some_iff.1 h).1
theorem keepL {w w' : World} {r : Nat} {o : Obj} (h : w.heap[r]? = some o) (hb : Below w.heap.size w w') : w'.heap[r]? = some o := (hb.block _ (lt_of_heap h)).trans h
theorem keepG {w w' : World} {r : Nat} {o : Obj} {row : Option Nat} (h : w.heap[r]? = some o) (hg : w.grownBy w' row) (hne : ∀ g, row = some g → g ≠ r) : w'.heap[r]? = some o :=
  (hg.block r (lt_of_heap h) (fun e => hne r e.symm rfl)).trans h
theorem blk1 {w : World} {r : Nat} {a : Value} {t : TypeId} (h : w.heap[r]? = some (.cells #[a] t (0, 0))) : w.cell? ⟨r, 0, none⟩ = some a := by simp [World.cell?, h]
theorem one_cell (w : World) (g : Nat) (hg : g = w.heap.size) (a : Int) : ∀ j u, [Value.int .i64 a][j]? = some u → (w.alloc (.cells #[.int .i64 a] 3)).cell? ((⟨g, 0, none⟩ : Addr).add j) = some u := by
  intro j u hu
  rw [show (Addr.add ⟨g, 0, none⟩ j) = ⟨w.heap.size, j, none⟩ by unfold Addr.add; split <;> simp_all, World.cell?_alloc_at _ _ _ _ rfl]
  simpa using hu
theorem below_grown {B : Nat} {w w' : World} {row : Option Nat} (hg : w.grownBy w' row) (hB : B ≤ w.heap.size) (hr : ∀ k, row = some k → B ≤ k) : Below B w w' := (Below.refl B w).grown hg hB hr
/-- A row of numbers, opened. -/
theorem row_see {w : World} {B : Nat} {v : Value} {zs : List Int} (h : w.ownsRow B 3 1 v zs.length (ints zs)) : ∃ A c, v = .slice A zs.length c ∧ ∀ j z, zs[j]? = some z → ∃ g, A = some ⟨g, 0, none⟩ ∧ B ≤ g ∧ g < w.heap.size ∧ w.cell? ⟨g, j, none⟩ = some (.int .i64 z) := by
  rcases h.2 with ⟨hv, hn⟩ | ⟨g, cap, cur, hv, hbg, hg, rest⟩
  · refine ⟨none, 0, by rw [hv, hn], fun j z hz => ?_⟩
    rw [List.eq_nil_of_length_eq_zero hn] at hz; simp at hz
  · refine ⟨some ⟨g, 0, none⟩, cap, hv, fun j z hz => ⟨g, rfl, hbg, lt_of_heap hg, ?_⟩⟩
    have hc := h.cells (g := g) (by rw [hv]; rfl) j (.int .i64 z) (by rw [List.getElem?_map, hz]; rfl)
    rw [show (Addr.add ⟨g, 0, none⟩ j) = ⟨g, j, none⟩ by unfold Addr.add; split <;> simp_all] at hc
    exact hc
/-- What order hands back: the row longer, in its block or a new one; all else as it was. -/
def RetO (v : Value) (w : World) (zs : List Int) (e : Ending) (w' : World) : Prop :=
  ∃ v', e = .returned v' ∧ w'.ownsRow 0 3 1 v' zs.length (ints zs) ∧ w.grownBy w' v.ownBlock ∧ (∀ g, v'.ownBlock = some g → v.ownBlock = some g ∨ w.heap.size ≤ g)
theorem grown_trans {a b d : World} {r s : Option Nat} (h : a.grownBy b r) (k : b.grownBy d s) (hs : ∀ g, s = some g → r = some g ∨ a.heap.size ≤ g) : a.grownBy d r :=
  ⟨k.os.trans h.os, k.tape.trans h.tape, k.output.trans h.output, Nat.le_trans h.size k.size, fun q hq hn => (k.block q (Nat.lt_of_lt_of_le hq h.size) (fun e => by
    rcases hs q e.symm with h1 | h1
    · exact hn h1.symm
    · omega)).trans (h.block q hq hn)⟩
theorem below_grownBy {a b : World} {r : Option Nat} (h : Below a.heap.size a b) : a.grownBy b r := ⟨h.os, h.tape, h.output, h.size, fun q hq _ => h.block q hq⟩
theorem flat_take {parts : List (List Int)} {j : Nat} {p : List Int} (h : parts[j]? = some p) : (parts.take (j + 1)).flatten = (parts.take j).flatten ++ p := by
  rw [List.take_add_one, h]; simp
theorem flat_take_len (parts : List (List Int)) (j : Nat) : (parts.take j).flatten.length ≤ parts.flatten.length := by
  conv => rhs; rw [← List.take_append_drop j parts, List.flatten_append, List.length_append]
  exact Nat.le_add_right _ _
theorem undrewG {w w' : World} {r : Option Nat} (h : w.drew.grownBy w' r) : w.grownBy w' r := ⟨h.os, h.tape, h.output, h.size, h.block⟩
end Go.Proofs.YtceeimolfalmpaaDoor.T

namespace Go.Proofs.YtceeimolfalmpaaDoor.T
open Go.RowKit ObSets ObTree

def cellsN : List (Nd × Value) → List Value
  | [] => []
  | p :: l => [.int .i64 p.1.kind, .int .i64 p.1.a, .int .i64 p.1.b, p.2, .int .i64 p.1.mn, .int .i64 p.1.mx, .int .i64 p.1.n] ++ cellsN l
theorem cellsN_len : ∀ l, (cellsN l).length = l.length * 7
  | [] => rfl
  | p :: l => by simp [cellsN, cellsN_len l]; omega
theorem cellsN_append : ∀ a b, cellsN (a ++ b) = cellsN a ++ cellsN b
  | [], _ => rfl
  | p :: a, b => by simp [cellsN, cellsN_append a b]
theorem cellsN_at : ∀ (l : List (Nd × Value)) (j : Nat) (p : Nd × Value), l[j]? = some p →
    (cellsN l)[j * 7]? = some (.int .i64 p.1.kind) ∧ (cellsN l)[j * 7 + 1]? = some (.int .i64 p.1.a) ∧ (cellsN l)[j * 7 + 2]? = some (.int .i64 p.1.b) ∧ (cellsN l)[j * 7 + 3]? = some p.2 ∧ (cellsN l)[j * 7 + 4]? = some (.int .i64 p.1.mn) ∧ (cellsN l)[j * 7 + 5]? = some (.int .i64 p.1.mx) ∧ (cellsN l)[j * 7 + 6]? = some (.int .i64 p.1.n)
  | [], j, p, h => by simp at h
  | q :: l, 0, p, h => by simp at h; subst h; simp [cellsN]
  | q :: l, j + 1, p, h => by
    have := cellsN_at l j p (by simpa using h)
    have e : ∀ k, (cellsN (q :: l))[(j + 1) * 7 + k]? = (cellsN l)[j * 7 + k]? := fun k => by
      rw [show (j + 1) * 7 + k = (j * 7 + k) + 7 by omega]
      simp [cellsN]
    have e0 := e 0
    simp only [Nat.add_zero] at e0
    rw [e0, e, e, e, e, e, e]; exact this
/-- What each cell of a row is. -/
theorem cellsN_get : ∀ (l : List (Nd × Value)) (k : Nat) (u : Value), (cellsN l)[k]? = some u → ∃ p, l[k / 7]? = some p ∧ (cellsN [p])[k % 7]? = some u
  | [], k, u, h => by simp [cellsN] at h
  | p :: l, k, u, h => by
    by_cases hk : k < 7
    · refine ⟨p, by rw [Nat.div_eq_of_lt hk]; rfl, ?_⟩
      rw [Nat.mod_eq_of_lt hk]
      have e : cellsN (p :: l) = cellsN [p] ++ cellsN l := cellsN_append [p] l
      rw [e, List.getElem?_append_left (by rw [cellsN_len]; exact hk)] at h
      exact h
    · have e : cellsN (p :: l) = cellsN [p] ++ cellsN l := cellsN_append [p] l
      rw [e, List.getElem?_append_right (by rw [cellsN_len]; simpa using hk), cellsN_len] at h
      obtain ⟨q, h1, h2⟩ := cellsN_get l _ u h
      rw [show [p].length * 7 = 7 from rfl] at h1 h2
      refine ⟨q, ?_, ?_⟩
      · rw [show k / 7 = (k - 7) / 7 + 1 by omega]; exact h1
      · rw [show k % 7 = (k - 7) % 7 by omega]; exact h2
theorem cellsN_one : ∀ (L : List (Nd × Value)), (∀ p ∈ L, p.2.oneCell' = true) → ∀ u ∈ cellsN L, u.oneCell' = true
  | [], _, u, hu => by cases hu
  | p :: L, h, u, hu => by
    simp [cellsN] at hu
    rcases hu with rfl | rfl | rfl | rfl | rfl | rfl | rfl | hu
    · rfl
    · rfl
    · rfl
    · exact h p (by simp)
    · rfl
    · rfl
    · rfl
    · exact cellsN_one L (fun q hq => h q (by simp [hq])) u hu
/-- An own row of nodes; their sets lie below it. -/
def Nk (w : World) (B : Nat) (v : Value) (l : List Nd) : Prop :=
  ∃ L : List (Nd × Value), L.map Prod.fst = l ∧ w.ownsRow B 36 7 v L.length (cellsN L) ∧ ∀ p ∈ L, ∃ As ks, p.2 = .slice As p.1.set.length ks ∧ S.Rgs w B As p.1.set
theorem Nk.nil (w : World) (B : Nat) : Nk w B (.slice none 0 0) [] := ⟨[], rfl, World.ownsRow_nil _ _ _ _, by simp⟩
theorem Nk.below {w w' : World} {B : Nat} {v : Value} {l : List Nd} (h : Nk w B v l) (hB : B ≤ w.heap.size) (hb : Below w.heap.size w w') : Nk w' B v l := by
  obtain ⟨L, h1, h2, h3⟩ := h
  refine ⟨L, h1, S.own_below h2 hb, fun p hp => ?_⟩
  obtain ⟨As, ks, e, hr⟩ := h3 p hp
  exact ⟨As, ks, e, hr.keep fun q hq => hb.cell (Nat.lt_of_lt_of_le hq hB)⟩
theorem Nk.shape {w : World} {B : Nat} {v : Value} {l : List Nd} (h : Nk w B v l) : ∃ A k, v = .slice A l.length k := by
  obtain ⟨L, rfl, h2, _⟩ := h
  rw [List.length_map]
  rcases h2.2 with ⟨hv, hn⟩ | ⟨g, cap, cur, hv, _⟩
  · exact ⟨none, 0, by rw [hv, hn]⟩
  · exact ⟨_, cap, hv⟩
theorem Nk.lt {w : World} {B : Nat} {v : Value} {l : List Nd} (h : Nk w B v l) : ∀ g, v.ownBlock = some g → B ≤ g ∧ g < w.heap.size := by
  obtain ⟨L, rfl, h2, _⟩ := h
  exact fun g hg => h2.lt g hg
/-- How it reads. -/
theorem Nk.reads {w : World} {B : Nat} {A : Option Addr} {n k : Nat} {l : List Nd} (h : Nk w B (.slice A n k) l) (hB : B ≤ w.heap.size) : Nr w A l := by
  intro hne
  obtain ⟨L, rfl, h2, h3⟩ := h
  rcases h2.2 with ⟨_, hn⟩ | ⟨g, cap, cur, hv, hbg, hg, rest⟩
  · exact absurd (by rw [List.eq_nil_of_length_eq_zero hn]; rfl) hne
  · injection hv with hv1 hv2 hv3
    subst hv1
    refine ⟨g, 0, rfl, lt_of_heap hg, fun j x hx => ?_⟩
    rw [List.getElem?_map] at hx
    cases hp : L[j]? with
    | none => rw [hp] at hx; cases hx
    | some p =>
      rw [hp] at hx
      simp at hx
      subst hx
      obtain ⟨c0, c1, c2, c3, c4, c5, c6⟩ := cellsN_at L j p hp
      have hc := World.ownsRow.cells h2 (g := g) rfl
      have e : ∀ k, (⟨g, 0, none⟩ : Addr).add k = ⟨g, 0 + k, none⟩ := fun k => by unfold Addr.add; split <;> simp_all
      obtain ⟨As, ks, es, hr⟩ := h3 p (List.mem_of_getElem? hp)
      have d0 := hc _ _ c0; have d1 := hc _ _ c1; have d2 := hc _ _ c2; have d3 := hc _ _ c3; have d4 := hc _ _ c4; have d5 := hc _ _ c5; have d6 := hc _ _ c6
      rw [e] at d0 d1 d2 d3 d4 d5 d6
      rw [es] at d3
      exact ⟨As, ks, ⟨d0, d1, d2, d3, d4, d5, d6⟩, hr.more hB⟩
/-- A slice that reads as nodes, as cells. -/
theorem pick_list {α β : Type} {P : Nat → α → β → Prop} : ∀ (l : List α) (o : Nat), (∀ j x, l[j]? = some x → ∃ y, P (o + j) x y) → ∃ L : List (α × β), L.map Prod.fst = l ∧ ∀ j p, L[j]? = some p → P (o + j) p.1 p.2
  | [], o, _ => ⟨[], rfl, fun j p h => by simp at h⟩
  | x :: l, o, h => by
    obtain ⟨y, hy⟩ := h 0 x rfl
    obtain ⟨L, h1, h2⟩ := pick_list l (o + 1) (fun j z hz => by
      obtain ⟨y, hy⟩ := h (j + 1) z (by simpa using hz)
      exact ⟨y, by rw [show o + 1 + j = o + (j + 1) by omega]; exact hy⟩)
    refine ⟨(x, y) :: L, by rw [List.map_cons, h1], fun j p hp => ?_⟩
    cases j with
    | zero => simp at hp; subst hp; exact hy
    | succ j =>
      have := h2 j p (by simpa using hp)
      rw [show o + 1 + j = o + (j + 1) by omega] at this
      exact this
theorem Nr.cells {w : World} {b off : Nat} {l : List Nd} (h : Nr w (some ⟨b, off, none⟩) l) : ∃ L : List (Nd × Value), L.map Prod.fst = l ∧ (∀ k u, (cellsN L)[k]? = some u → w.cell? ((⟨b, off, none⟩ : Addr).add k) = some u) ∧ ∀ p ∈ L, ∃ As ks, p.2 = .slice As p.1.set.length ks ∧ S.Rgs w w.heap.size As p.1.set := by
  by_cases hne : l = []
  · subst hne; exact ⟨[], rfl, fun k u hu => by simp [cellsN] at hu, fun p hp => by cases hp⟩
  · obtain ⟨b', off', e, hlt, hc⟩ := h hne
    injection e with e
    injection e with e1 e2 _
    subst e1 e2
    obtain ⟨L, h1, h2⟩ := pick_list (P := fun j x V => (w.cell? ⟨b, off + j * 7, none⟩ = some (.int .i64 x.kind) ∧ w.cell? ⟨b, off + j * 7 + 1, none⟩ = some (.int .i64 x.a) ∧ w.cell? ⟨b, off + j * 7 + 2, none⟩ = some (.int .i64 x.b) ∧ w.cell? ⟨b, off + j * 7 + 3, none⟩ = some V ∧ w.cell? ⟨b, off + j * 7 + 4, none⟩ = some (.int .i64 x.mn) ∧ w.cell? ⟨b, off + j * 7 + 5, none⟩ = some (.int .i64 x.mx) ∧ w.cell? ⟨b, off + j * 7 + 6, none⟩ = some (.int .i64 x.n)) ∧ ∃ As ks, V = .slice As x.set.length ks ∧ S.Rgs w w.heap.size As x.set) l 0 (fun j x hx => by
      obtain ⟨As, ks, hcc, hr⟩ := hc j x hx
      rw [Nat.zero_add]
      exact ⟨_, hcc, As, ks, rfl, hr⟩)
    refine ⟨L, h1, fun k u hu => ?_, fun p hp => ?_⟩
    · obtain ⟨p, g1, g2⟩ := cellsN_get L k u hu
      obtain ⟨⟨c0, c1, c2, c3, c4, c5, c6⟩, _⟩ := h2 _ p g1
      rw [Nat.zero_add] at c0 c1 c2 c3 c4 c5 c6
      have e : (⟨b, off, none⟩ : Addr).add k = ⟨b, off + k / 7 * 7 + k % 7, none⟩ := by
        have : off + k = off + k / 7 * 7 + k % 7 := by omega
        unfold Addr.add; split <;> simp_all
      rw [e]
      have hm : k % 7 < 7 := Nat.mod_lt _ (by decide)
      generalize k % 7 = m at *
      rcases (show m = 0 ∨ m = 1 ∨ m = 2 ∨ m = 3 ∨ m = 4 ∨ m = 5 ∨ m = 6 by omega) with rfl | rfl | rfl | rfl | rfl | rfl | rfl
      all_goals (simp [cellsN] at g2; subst g2; assumption)
    · obtain ⟨j, hj⟩ := List.getElem?_of_mem hp
      exact (h2 j p hj).2
end Go.Proofs.YtceeimolfalmpaaDoor.T

namespace Go.Proofs.YtceeimolfalmpaaDoor.T
open Go.RowKit ObSets ObTree

theorem info51 : (Tryd.prog.info? 36).map (fun i => (i.zero, i.size, i.bytes)) = some (some (.agg #[.int .i64 0, .int .i64 0, .int .i64 0, .slice none 0 0, .int .i64 0, .int .i64 0, .int .i64 0]), 7, 72) := by kernel_rfl
/-- Nodes that are appended: their cells; their sets lie below B. -/
def Sc (w : World) (B : Nat) (A : Option Addr) (c : Nat) (l : List Nd) : Prop :=
  (A = none → l = [] ∧ c = 0) ∧ ∃ L : List (Nd × Value), L.map Prod.fst = l ∧ (∀ ad, A = some ad → ∀ k u, (cellsN L)[k]? = some u → w.cell? (ad.add k) = some u) ∧ ∀ p ∈ L, ∃ As ks, p.2 = .slice As p.1.set.length ks ∧ S.Rgs w B As p.1.set
theorem add_block (a : Addr) (k : Nat) : (a.add k).block = a.block := by unfold Addr.add; split <;> rfl
theorem Sc.of {w0 w : World} {A : Option Addr} {c : Nat} {l : List Nd} (h : Nr w0 A l) (hA : A = none → l = [] ∧ c = 0) (hb : Below w0.heap.size w0 w) : Sc w w0.heap.size A c l := by
  refine ⟨hA, ?_⟩
  by_cases hne : l = []
  · subst hne; exact ⟨[], rfl, fun ad _ k u hu => by simp [cellsN] at hu, fun p hp => by cases hp⟩
  · obtain ⟨b, off, rfl, hlt, _⟩ := h hne
    obtain ⟨L, h1, h2, h3⟩ := h.cells
    refine ⟨L, h1, fun ad had k u hu => ?_, fun p hp => ?_⟩
    · injection had with had
      subst had
      exact (hb.cell (by rw [add_block]; exact hlt)).trans (h2 k u hu)
    · obtain ⟨As, ks, e, hr⟩ := h3 p hp
      exact ⟨As, ks, e, hr.below hb⟩
theorem Sc.own {w : World} {B : Nat} {A : Option Addr} {n c : Nat} {l : List Nd} (h : Nk w B (.slice A n c) l) : Sc w B A c l := by
  obtain ⟨L, rfl, h2, h3⟩ := h
  refine ⟨fun hA => ?_, L, rfl, fun ad had k u hu => ?_, h3⟩
  · subst hA
    rcases h2.2 with ⟨hv, hn⟩ | ⟨g, cap, cur, hv, _⟩
    · injection hv with _ _ hc
      exact ⟨by rw [List.eq_nil_of_length_eq_zero hn]; rfl, hc⟩
    · injection hv with hv _ _; cases hv
  · subst had
    rcases h2.2 with ⟨hv, hn⟩ | ⟨g, cap, cur, hv, _⟩
    · injection hv with hv _ _; cases hv
    · injection hv with e1 e2 e3
      injection e1 with e1
      subst e1
      exact h2.cells (g := g) rfl k u hu
/-- One node that was built. -/
theorem Sc.one {w : World} {B g c : Nat} {x : Nd} {As : Option Addr} {ks : Nat} (hg : w.heap[g]? = some (.cells #[.int .i64 x.kind, .int .i64 x.a, .int .i64 x.b, .slice As x.set.length ks, .int .i64 x.mn, .int .i64 x.mx, .int .i64 x.n] 36 (0, 0))) (hr : S.Rgs w B As x.set) : Sc w B (some ⟨g, 0, none⟩) c [x] := by
  refine ⟨(fun h => by cases h), [(x, .slice As x.set.length ks)], rfl, fun ad had k u hu => ?_, fun p hp => ?_⟩
  · injection had with had
    subst had
    have e : (⟨g, 0, none⟩ : Addr).add k = ⟨g, k, none⟩ := by unfold Addr.add; split <;> simp_all
    rw [e]
    simp only [World.cell?, hg]
    simpa [cellsN] using hu
  · simp at hp; subst hp; exact ⟨As, ks, rfl, hr⟩
theorem Sc.below {w w' : World} {B : Nat} {A : Option Addr} {c : Nat} {l : List Nd} (h : Sc w B A c l) (hB : B ≤ w.heap.size) (hlt : ∀ ad, A = some ad → ad.block < w.heap.size) (hb : Below w.heap.size w w') : Sc w' B A c l := by
  obtain ⟨hA, L, h1, h2, h3⟩ := h
  refine ⟨hA, L, h1, fun ad had k u hu => (hb.cell (by rw [add_block]; exact hlt ad had)).trans (h2 ad had k u hu), fun p hp => ?_⟩
  obtain ⟨As, ks, e, hr⟩ := h3 p hp
  exact ⟨As, ks, e, hr.keep fun q hq => hb.cell (Nat.lt_of_lt_of_le hq hB)⟩
/-- What an append leaves. -/
theorem wp_append_nk {w : World} {o : Oper} {a : Act} {K : Act → World → Prop} {Q : Exit → Act → World → Prop} (s x : Operand)
    (ho : o.op = .call { callee := .builtin .append, args := #[s, x], argTypes := #[23, 23] }) (B : Nat) (v : Value) (l m : List Nd) (mn : Nat) (hs : a.eval s = v) (hown : Nk w B v l)
    (A : Option Addr) (c : Nat) (hmn : m.length = mn) (hx : a.eval x = .slice A mn c) (hsrc : Sc w B A c m) (hlen : l.length + mn ≤ 100000) (B0 : Nat) (hB0 : B ≤ B0) (hbase : B0 ≤ w.heap.size) (hv0 : ∀ k, v.ownBlock = some k → B0 ≤ k)
    (h : ∀ v' w', Nk w' B v' (l ++ m) → (∀ k, v'.ownBlock = some k → B0 ≤ k) → w.grownBy w' v.ownBlock → K (a.put o.dst v') w') : o.wp Tryd.prog a w K Q := by
  subst hmn
  obtain ⟨i0, hi0, hz0, hz1, hz2⟩ := info_parts info51
  obtain ⟨L, rfl, ho1, hs1⟩ := hown
  obtain ⟨hA, M, hM, hcells, hs2⟩ := hsrc
  have hMl : M.length = m.length := by rw [← hM, List.length_map]
  rw [List.length_map] at hlen
  have ho1' : w.ownsRow B0 36 7 v L.length (cellsN L) := by
    refine ⟨ho1.1, ?_⟩
    rcases ho1.2 with h2 | ⟨g, cap, cur, hv, _, rest⟩
    · exact .inl h2
    · exact .inr ⟨g, cap, cur, hv, hv0 g (by rw [hv]; rfl), rest⟩
  have less : ∀ (v' : Value) (w' : World) n xs, w'.ownsRow B0 36 7 v' n xs → w'.ownsRow B 36 7 v' n xs := fun v' w' n xs hr => by
    refine ⟨hr.1, ?_⟩
    rcases hr.2 with h2 | ⟨g, cap, cur, hv, hbg, rest⟩
    · exact .inl h2
    · exact .inr ⟨g, cap, cur, hv, Nat.le_trans hB0 hbg, rest⟩
  have keep : ∀ (w' : World), w.grownBy w' v.ownBlock → ∀ p, (∃ As ks, p.2 = Value.slice As (p : Nd × Value).1.set.length ks ∧ S.Rgs w B As p.1.set) → ∃ As ks, p.2 = Value.slice As p.1.set.length ks ∧ S.Rgs w' B As p.1.set := fun w' hg p ⟨As, ks, e, hr⟩ => by
    refine ⟨As, ks, e, hr.keep fun q hq => hg.cell_far q (by omega) (fun e' => ?_)⟩
    have := hv0 _ e'.symm
    omega
  have fin : ∀ v' w', w'.ownsRow B0 36 7 v' (L.length + M.length) (cellsN L ++ cellsN M) → w.grownBy w' v.ownBlock → Nk w' B v' (L.map Prod.fst ++ m) := fun v' w' hr hg =>
    ⟨L ++ M, by rw [List.map_append, hM], by rw [cellsN_append, List.length_append]; exact less _ _ _ _ hr, fun p hp => by
      rw [List.mem_append] at hp
      rcases hp with hp | hp
      · exact keep w' hg p (hs1 p hp)
      · exact keep w' hg p (hs2 p hp)⟩
  cases A with
  | none =>
    obtain ⟨hm0, hc0⟩ := hA rfl
    have hM0 : M = [] := List.eq_nil_of_length_eq_zero (by rw [hMl, hm0]; rfl)
    have hrun := run_append_owned_none (P := Tryd.prog) (w := w) B0 23 o.type 36 i0 7 Tryd.underlying23 hi0 v _ _ ho1'
    have hx' : a.eval x = .slice none 0 0 := by rw [hx, hm0, hc0]; rfl
    unfold Oper.wp
    simp [execOp, ho, resolve, invoke, builtin, hs, hx', hrun, Result.andThen]
    refine h v w (fin v w ?_ (World.grownBy.refl w _)) hv0 (World.grownBy.refl w _)
    rw [hM0]; simpa [cellsN] using ho1'
  | some ad =>
    refine wp_append_own w s x 23 ho B0 36 i0 (.agg #[.int .i64 0, .int .i64 0, .int .i64 0, .slice none 0 0, .int .i64 0, .int .i64 0, .int .i64 0]) 7 72 Tryd.underlying23 hi0 hz0 hz1 hz2 rfl (by decide) v _ _ hs ho1' ad M.length c (cellsN M) (by rw [hx, hMl]) (cellsN_len M)
      (fun j u hu => hcells ad rfl j u hu) (cellsN_one M (fun p hp => ?_)) (by unfold maxLen; omega) (by omega) hbase ?_
    · obtain ⟨As, ks, e, _⟩ := hs2 p hp
      rw [e]; rfl
    · intro v' w' h1 h2 _
      exact h v' w' (fin v' w' h1 h2) (fun k hk => (h1.lt k hk).1) h2
theorem wpList_wanted {w : World} {ops : Array Oper} {rest : List Oper} {o : Oper} {a : Act} {Q : Exit → Act → World → Prop} (hw : Region.wanted o (yielded ops a.tmps) = true)
    (h : ∀ K : Act → World → Prop, (∀ a w, wpList Tryd.prog ops Q rest a w → K a w) → o.wp Tryd.prog a w K Q) : wpList Tryd.prog ops Q (o :: rest) a w :=
  wpList_step fun K hK => by rw [if_pos hw]; exact h K hK
/-- An empty row of nodes, as a call makes it. -/
theorem Nk.empty {w : World} {B g : Nat} (hg : g = w.heap.size) (hB : B ≤ g) : Nk (w.alloc (.cells #[] 36)) B (.slice (some ⟨g, 0, none⟩) 0 0) [] := by
  subst hg
  exact ⟨[], rfl, ⟨rfl, .inr ⟨w.heap.size, 0, #[], rfl, hB, heap_new w _, Nat.le_refl _, Nat.zero_le _, rfl, rfl⟩⟩, by simp⟩
end Go.Proofs.YtceeimolfalmpaaDoor.T
