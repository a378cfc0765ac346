/-
  Trees as the statements make them, more: their sets have at most six ranges, so cutting leaves them as they are; how many nodes of a kind there are; two rows beside each other are no tree. No program, no conditions.
  TreeTurns: the walk. Conditions: the case's numbers and the node's set as Go has them.
-/
import Derived.Test.YtceeimolfalmpaaXD
import Derived.Test.YtceeimolfalmpaaTells
import Derived.Test.YtceeimolfalmpaaXE
namespace Go.Proofs.Ytceeimolfalmpaa
open Go.RowKit ObSets ObTree ObTree.Tree

theorem flat_six : ∀ (t : Tree) (o : Nat), Mk t → ∀ x ∈ flat o t, x.set.length ≤ 6
  | .leaf x, o, h, y, hy => by
    simp only [flat, List.mem_singleton] at hy
    subst hy
    exact h.2.2
  | .one x t, o, h, y, hy => by
    simp only [flat, List.mem_append, List.mem_singleton] at hy
    rcases hy with hy | rfl
    · exact flat_six t o h.2 y hy
    · show x.set.length ≤ _
      rcases h.1 with h7 | h8 | h9
      · have := fine_set (by rw [kids_one (.inl h7.1)]; simp) h7.2; omega
      · have := h8.2.2.2.1; omega
      · have := fine_set (by rw [kids_one (.inr (.inr h9.1))]; simp) h9.2; omega
  | .two x s t, o, h, y, hy => by
    simp only [flat, List.mem_append, List.mem_singleton] at hy
    rcases hy with hy | hy | rfl
    · exact flat_six s o h.2.1 y hy
    · exact flat_six t _ h.2.2 y hy
    · show x.set.length ≤ _
      have := fine_set (by rw [kids_two h.1.1]; simp) h.1.2; omega
theorem cut_id {L : List Nd} {most : Nat} (hl : L.length ≤ most) (h : ∀ x ∈ L, x.set.length ≤ 6) : (L.take most).map cutN = L := by
  rw [List.take_of_length_le hl]
  conv => rhs; rw [← List.map_id L]
  refine List.map_congr_left fun x hx => ?_
  unfold cutN
  rw [List.take_of_length_le (h x hx)]; rfl
/-- The kinds of a tree's nodes, in their order. -/
def kdsOf : Tree → List Int
  | .leaf x => [x.kind]
  | .one x t => kdsOf t ++ [x.kind]
  | .two x s t => kdsOf s ++ kdsOf t ++ [x.kind]
theorem kds_num : ∀ (t : Tree) (n : Nat), kdsOf (num n t) = kdsOf t
  | .leaf x, n => rfl
  | .one x t, n => by
    simp only [num]
    split
    · simp [kdsOf, kds_num t]
    · simp [kdsOf, kds_num t]
  | .two x s t, n => by simp [num, kdsOf, kds_num s, kds_num t]
theorem kds_flat : ∀ (t : Tree) (o : Nat), (flat o t).map (fun x : Nd => x.kind) = kdsOf t
  | .leaf x, o => rfl
  | .one x t, o => by simp [flat, kdsOf, kds_flat t]
  | .two x s t, o => by simp [flat, kdsOf, kds_flat s, kds_flat t]
theorem idx_count (kd : Int) (L : List Nd) : ∀ m, m ≤ L.length → (idx kd L m).length = ((L.map (fun x : Nd => x.kind)).take m).count kd
  | 0, _ => by simp [idx]
  | m + 1, h => by
    obtain ⟨x, hx⟩ : ∃ x, L[m]? = some x := ⟨_, List.getElem?_eq_getElem (by omega)⟩
    have ih := idx_count kd L m (by omega)
    rw [List.take_add_one, List.getElem?_map, hx]
    by_cases hk : x.kind = kd
    · rw [idx_yes hx hk]; simp [ih, hk, List.count_append]
    · rw [idx_no hx hk]; simp [ih, hk, List.count_append]
theorem idx_kds (kd : Int) (t : Tree) (n o m : Nat) (hm : m = size t) : (idx kd (flat o (num n t)) m).length = (kdsOf t).count kd := by
  subst hm
  rw [idx_count kd _ _ (by rw [flat_len, num_size]; exact Nat.le_refl _), kds_flat, kds_num, List.take_of_length_le]
  rw [← kds_flat t 0, List.length_map, flat_len]; exact Nat.le_refl _
theorem kds_len (t : Tree) : (kdsOf t).length = size t := by rw [← kds_flat t 0, List.length_map, flat_len]
theorem two_rows {s t : Tree} (hs : Ok s) (ht : Ok t) : ¬ SoundL (flat 0 s ++ flat 0 t) := by
  intro h
  have hp := size_pos s
  have hq := size_pos t
  have hm := h.2.2 (max (size s) (size t) - 1) (by rw [List.length_append, flat_len, flat_len]; omega)
  rw [uses_append, uses_flat s 0 _ hs, uses_flat t 0 _ ht, if_neg (by omega), if_neg (by omega)] at hm
  cases hm
/-- Such a tree, numbered anew, is good. -/
theorem mk_good' {t : Tree} (h : Mk t) (hn : size t ≤ 99) : GoodL (flat 0 (num 0 t)) :=
  good_num (Mk.ok t h) (by omega) (num_fine t 0 0 h (by have := ncap_le t; omega))
theorem bel_alloc {w W : World} (h : Below w.heap.size w W) (o : Obj) : Below w.heap.size w (W.alloc o) := h.alloc h.size o
theorem bel_set {w W : World} (h : Below w.heap.size w W) {k : Nat} (hk : w.heap.size ≤ k) (v : Value) : Below w.heap.size w (W.setCell ⟨k, 0, none⟩ v) := h.setCell (p := ⟨k, 0, none⟩) hk v
/-- Two stores into cells of one value each. -/
theorem two_sets {V : World} {p q : Nat} {u0 u1 : Value} (hpq : p ≠ q) (h0 : V.heap[p]? = some (.cells #[u0] 24)) (h1 : V.heap[q]? = some (.cells #[u1] 24)) (a b : Value) :
    ((V.setCell ⟨p, 0, none⟩ a).setCell ⟨q, 0, none⟩ b).heap[p]? = some (.cells #[a] 24) ∧ ((V.setCell ⟨p, 0, none⟩ a).setCell ⟨q, 0, none⟩ b).heap[q]? = some (.cells #[b] 24) ∧
    (∀ r, r ≠ p → r ≠ q → ((V.setCell ⟨p, 0, none⟩ a).setCell ⟨q, 0, none⟩ b).heap[r]? = V.heap[r]?) ∧
    (∀ A L, Nr V A L → Nr ((V.setCell ⟨p, 0, none⟩ a).setCell ⟨q, 0, none⟩ b) A L) ∧ (∀ B X, B ≤ p → B ≤ q → Below B X V → Below B X ((V.setCell ⟨p, 0, none⟩ a).setCell ⟨q, 0, none⟩ b)) := by
  have g0 := set_same h0 a
  have g1 : (V.setCell ⟨p, 0, none⟩ a).heap[q]? = some (.cells #[u1] 24) := (Below.heap_setCell V ⟨p, 0, none⟩ a q (Ne.symm hpq)).trans h1
  refine ⟨(Below.heap_setCell _ ⟨q, 0, none⟩ b p hpq).trans g0, set_same g1 b, fun r hr hr2 => (Below.heap_setCell _ ⟨q, 0, none⟩ b r hr2).trans (Below.heap_setCell V ⟨p, 0, none⟩ a r hr), fun A L hN => nr_set1 g1 (nr_set1 h0 hN a) b, fun B X hp hq hb => (hb.setCell (p := ⟨p, 0, none⟩) hp a).setCell (p := ⟨q, 0, none⟩) hq b⟩
/-- Two values stored into cells, at least one of both just made. -/
def TwoAt (w2 V : World) (p q : Nat) (a b : Value) : Prop := V.heap[p]? = some (.cells #[a] 24) ∧ V.heap[q]? = some (.cells #[b] 24) ∧ (∀ A L, Nr w2 A L → Nr V A L) ∧ ∀ B X, B ≤ p → B ≤ q → Below B X w2 → Below B X V
theorem two_f1 (w2 : World) (a b : Value) : TwoAt w2 ((w2.alloc (.cells #[a] 24)).alloc (.cells #[b] 24)) w2.heap.size (w2.heap.size + 1) a b := by
  have al := fun (W : World) (o : Obj) => (Below.refl W.heap.size W).alloc (Nat.le_refl _) o
  have h := heap_new (w2.alloc (.cells #[a] 24)) (.cells #[b] 24)
  rw [World.size_alloc] at h
  exact ⟨keepL (heap_new _ _) (al _ _), h, fun A L hN => (hN.below (al _ _)).below (al _ _), fun B X h1 h2 hb => (hb.alloc h1 _).alloc (by rw [World.size_alloc]; exact h2) _⟩
theorem two_f2 (w2 : World) (a b : Value) : TwoAt w2 ((w2.alloc (.cells #[b] 24)).alloc (.cells #[a] 24)) (w2.heap.size + 1) w2.heap.size a b := by
  obtain ⟨h1, h2, h3, h4⟩ := two_f1 w2 b a
  exact ⟨h2, h1, h3, fun B X hp hq hb => h4 B X hq hp hb⟩
theorem two_f3 {w2 : World} {p : Nat} {u u0 : Value} (h : w2.heap[p]? = some (.cells #[u] 24)) (a b : Value) : TwoAt w2 (((w2.alloc (.cells #[u0] 24)).setCell ⟨p, 0, none⟩ a).setCell ⟨w2.heap.size, 0, none⟩ b) p w2.heap.size a b := by
  have al := (Below.refl w2.heap.size w2).alloc (Nat.le_refl _) (.cells #[u0] 24)
  obtain ⟨h1, h2, _, h4, h5⟩ := two_sets (Nat.ne_of_lt (lt_of_heap h)) (keepL h al) (heap_new w2 (.cells #[u0] 24)) a b
  exact ⟨h1, h2, fun A L hN => h4 A L (hN.below al), fun B X hp hq hb => h5 B X hp hq (hb.alloc hq _)⟩
theorem two_f4 {w2 : World} {p q : Nat} {u u0 : Value} (hpq : p ≠ q) (h : w2.heap[p]? = some (.cells #[u] 24)) (h0 : w2.heap[q]? = some (.cells #[u0] 24)) (a b : Value) : TwoAt w2 ((w2.setCell ⟨p, 0, none⟩ a).setCell ⟨q, 0, none⟩ b) p q a b := by
  obtain ⟨h1, h2, _, h4, h5⟩ := two_sets hpq h h0 a b
  exact ⟨h1, h2, h4, h5⟩
theorem two_f5 {w2 : World} {q : Nat} {u : Value} (h : w2.heap[q]? = some (.cells #[u] 24)) (a b : Value) : TwoAt w2 ((w2.alloc (.cells #[a] 24)).setCell ⟨q, 0, none⟩ b) w2.heap.size q a b := by
  have al := (Below.refl w2.heap.size w2).alloc (Nat.le_refl _) (.cells #[a] 24)
  have hq := keepL h al
  exact ⟨(Below.heap_setCell _ ⟨q, 0, none⟩ b w2.heap.size (Nat.ne_of_gt (lt_of_heap h))).trans (heap_new w2 _), set_same hq b, fun A L hN => nr_set1 hq (hN.below al) b, fun B X hp hq hb => (hb.alloc hp _).setCell (p := ⟨q, 0, none⟩) hq b⟩
/-- What the making of two trees leaves. -/
theorem two_done {wc w2 V : World} {p q : Nat} {B1 B2 : Option Addr} {m1 m2 d1 d2 : Nat} {L1 L2 : List Nd} (h : TwoAt w2 V p q (.slice B1 m1 d1) (.slice B2 m2 d2)) (hp : wc.heap.size ≤ p) (hq : wc.heap.size ≤ q) (hb : Below wc.heap.size wc w2) (hN1 : Nr w2 B1 L1) (hN2 : Nr w2 B2 L2) :
    Hid (Nr V B1 L1) ∧ Hid (Nr V B2 L2) ∧ Hid (V.heap[p]? = some (.cells #[.slice B1 m1 d1] 24)) ∧ Hid (V.heap[q]? = some (.cells #[.slice B2 m2 d2] 24)) ∧ Hid (Below wc.heap.size wc V) :=
  ⟨Lib.hid (h.2.2.1 _ _ hN1), Lib.hid (h.2.2.1 _ _ hN2), Lib.hid h.1, Lib.hid h.2.1, Lib.hid (h.2.2.2 _ _ hp hq hb)⟩
/-- A tree handed back, its length named. -/
def RetTm (w : World) (L : List Nd) (m : Nat) (e : Ending) (w' : World) : Prop := ∃ A c, e = .returned (tr A m c) ∧ Nr w' A L ∧ (A = none → L = [] ∧ c = 0) ∧ Below w.heap.size w w'
theorem RetTr.m {w w' : World} {L : List Nd} {m : Nat} {e : Ending} (h : RetTr w L e w') (hm : L.length = m) : RetTm w L m e w' := by
  subst hm; exact h
/-- A tree made by the statements, its length named. -/
def RetMs (w : World) (e : Ending) (w' : World) : Prop := ∃ T : Tree, Mk T ∧ size T ≤ 47 ∧ ∃ A c, e = .returned (tr A (size T) c) ∧ Nr w' A (flat 0 (num 0 T)) ∧ (A = none → flat 0 (num 0 T) = [] ∧ c = 0) ∧ Below w.heap.size w w'
theorem RetMk.s {w w' : World} {e : Ending} (h : RetMk w e w') : RetMs w e w' := by
  obtain ⟨T, h1, h2, A, c, h3, h4⟩ := h
  exact ⟨T, h1, h2, A, c, by rw [h3, flat_len, num_size], h4⟩
end Go.Proofs.Ytceeimolfalmpaa

namespace Go.Proofs.Ytceeimolfalmpaa
open Go.RowKit ObSets ObTree ObTree.Tree

theorem nr_none {w : World} {A : Option Addr} {T : Tree} {c : Nat} (h : Nr w A (flat 0 T)) : A = none → flat 0 T = [] ∧ c = 0 := fun e => by
  have hne : flat 0 T ≠ [] := fun h0 => by have h1 := flat_len T 0; have h2 := size_pos T; rw [h0] at h1; simp at h1; omega
  obtain ⟨b, off, e', _⟩ := h hne
  rw [e] at e'; cases e'
theorem Nk.ne {w : World} {B k : Nat} {v : Value} {l : List Nd} {u : Value} (h : Nk w B v l) (hk : w.heap[k]? = some (.cells #[u] 24)) : ∀ g, v.ownBlock = some g → g ≠ k := fun g hg e => by
  subst e
  obtain ⟨L, _, h2, _⟩ := h
  rcases h2.2 with ⟨rfl, _⟩ | ⟨g', cap, cur, rfl, _, hc, _⟩
  · cases hg
  · simp only [Value.ownBlock, Option.some.injEq] at hg
    subst hg
    rw [hk] at hc
    injection hc with hc
    injection hc with _ hc
    cases hc
theorem Nk.cap {w : World} {B g n cap : Nat} {l : List Nd} (h : Nk w B (.slice (some ⟨g, 0, none⟩) n cap) l) : l.length ≤ cap ∧ cap ≤ maxLen := by
  obtain ⟨L, rfl, h2, _⟩ := h
  rw [List.length_map]
  rcases h2.2 with ⟨hv, _⟩ | ⟨g', cap', cur, hv, _, _, h1, h3, _⟩
  · cases hv
  · injection hv with _ e2 e3
    subst e3
    exact ⟨h1, h3⟩
theorem nr_take {w : World} {A : Option Addr} {l : List Nd} (h : Nr w A l) (k : Nat) : Nr w A (l.take k) := fun hne => by
  obtain ⟨b, off, e, hlt, hc⟩ := h (fun h0 => hne (by rw [h0]; simp))
  refine ⟨b, off, e, hlt, fun j x hx => hc j x ?_⟩
  rw [List.getElem?_take] at hx
  split at hx
  · exact hx
  · cases hx
theorem set_eq {L : List Nd} {k : Nat} {x x2 : Nd} (h : L[k]? = some x) : L = L.set k x2 ↔ x = x2 := by
  have hk := (List.getElem?_eq_some_iff.1 h).1
  constructor
  · intro e
    rw [e, List.getElem?_set_self (by simpa using hk)] at h
    injection h with h; exact h.symm
  · rintro rfl
    refine (List.ext_getElem? fun j => ?_)
    by_cases hj : j = k
    · subst hj; rw [List.getElem?_set_self hk, h]
    · rw [List.getElem?_set_ne (fun e => hj e.symm)]
theorem cellsN_set7 (q : Nd × Value) : ∀ (M : List (Nd × Value)) (z : Nat), z < M.length → (((((((cellsN M).set (z * 7) (.int .i64 q.1.kind)).set (z * 7 + 1) (.int .i64 q.1.a)).set (z * 7 + 2) (.int .i64 q.1.b)).set (z * 7 + 3) q.2).set (z * 7 + 4) (.int .i64 q.1.mn)).set (z * 7 + 5) (.int .i64 q.1.mx)).set (z * 7 + 6) (.int .i64 q.1.n) = cellsN (M.set z q)
  | [], z, h => absurd h (Nat.not_lt_zero _)
  | p :: M, 0, _ => rfl
  | p :: M, z + 1, h => by
    have ih := cellsN_set7 q M z (by simpa using h)
    have h7 : ∀ (B : List Value) (i : Nat) (u : Value), (cellsN [p] ++ B).set (7 + i) u = cellsN [p] ++ B.set i u := fun B i u => by
      rw [List.set_append_right _ _ (by rw [cellsN_len]; simp), cellsN_len]
      congr 2
      simp
    have e : cellsN (p :: M) = cellsN [p] ++ cellsN M := cellsN_append [p] M
    rw [e, show (z + 1) * 7 = 7 + z * 7 by omega]
    simp only [Nat.add_assoc, h7]
    rw [ih, List.set_cons_succ]
    exact (cellsN_append [p] _).symm
theorem Nk.put7 {w : World} {B g n cap k : Nat} {l : List Nd} (h : Nk w B (.slice (some ⟨g, 0, none⟩) n cap) l) (hk : k < l.length) (x : Nd) (As : Option Addr) (l2 ks : Nat) (hl : x.set.length = l2) (hr : S.Rgs w B As x.set) :
    Nk (((((((w.setCell ⟨g, k * 7, none⟩ (.int .i64 x.kind)).setCell ⟨g, k * 7 + 1, none⟩ (.int .i64 x.a)).setCell ⟨g, k * 7 + 2, none⟩ (.int .i64 x.b)).setCell ⟨g, k * 7 + 3, none⟩ (.slice As l2 ks)).setCell ⟨g, k * 7 + 4, none⟩ (.int .i64 x.mn)).setCell ⟨g, k * 7 + 5, none⟩ (.int .i64 x.mx)).setCell ⟨g, k * 7 + 6, none⟩ (.int .i64 x.n)) B (.slice (some ⟨g, 0, none⟩) n cap) (l.set k x) ∧ (∀ r o, r ≠ g → w.heap[r]? = some o → (((((((w.setCell ⟨g, k * 7, none⟩ (.int .i64 x.kind)).setCell ⟨g, k * 7 + 1, none⟩ (.int .i64 x.a)).setCell ⟨g, k * 7 + 2, none⟩ (.int .i64 x.b)).setCell ⟨g, k * 7 + 3, none⟩ (.slice As l2 ks)).setCell ⟨g, k * 7 + 4, none⟩ (.int .i64 x.mn)).setCell ⟨g, k * 7 + 5, none⟩ (.int .i64 x.mx)).setCell ⟨g, k * 7 + 6, none⟩ (.int .i64 x.n)).heap[r]? = some o) ∧ (∀ A X, A ≤ g → Below A X w → Below A X (((((((w.setCell ⟨g, k * 7, none⟩ (.int .i64 x.kind)).setCell ⟨g, k * 7 + 1, none⟩ (.int .i64 x.a)).setCell ⟨g, k * 7 + 2, none⟩ (.int .i64 x.b)).setCell ⟨g, k * 7 + 3, none⟩ (.slice As l2 ks)).setCell ⟨g, k * 7 + 4, none⟩ (.int .i64 x.mn)).setCell ⟨g, k * 7 + 5, none⟩ (.int .i64 x.mx)).setCell ⟨g, k * 7 + 6, none⟩ (.int .i64 x.n))) := by
  subst hl
  obtain ⟨L, rfl, hown, hsets⟩ := h
  have hn : n = L.length := by
    rcases hown.2 with ⟨hv, _⟩ | ⟨g', cap', cur, hv, _⟩
    · cases hv
    · injection hv
  have hBg : B ≤ g := (hown.lt g rfl).1
  have hbel : ∀ A X, A ≤ g → Below A X w → Below A X (((((((w.setCell ⟨g, k * 7, none⟩ (.int .i64 x.kind)).setCell ⟨g, k * 7 + 1, none⟩ (.int .i64 x.a)).setCell ⟨g, k * 7 + 2, none⟩ (.int .i64 x.b)).setCell ⟨g, k * 7 + 3, none⟩ (.slice As x.set.length ks)).setCell ⟨g, k * 7 + 4, none⟩ (.int .i64 x.mn)).setCell ⟨g, k * 7 + 5, none⟩ (.int .i64 x.mx)).setCell ⟨g, k * 7 + 6, none⟩ (.int .i64 x.n)) := fun A X hA hb =>
    (((((((hb.setCell (p := ⟨g, _, none⟩) hA _).setCell (p := ⟨g, _, none⟩) hA _).setCell (p := ⟨g, _, none⟩) hA _).setCell (p := ⟨g, _, none⟩) hA _).setCell (p := ⟨g, _, none⟩) hA _).setCell (p := ⟨g, _, none⟩) hA _).setCell (p := ⟨g, _, none⟩) hA _)
  refine ⟨⟨L.set k (x, .slice As x.set.length ks), by rw [List.map_set], ?_, fun p hp => ?_⟩, fun r o hr ho => ?_, hbel⟩
  · rw [← cellsN_set7 (x, .slice As x.set.length ks) L k (by simpa using hk), List.length_set, ← hn]
    rw [← hn] at hown
    exact own_put (own_put (own_put (own_put (own_put (own_put (own_put hown _ _) _ _) _ _) _ _) _ _) _ _) _ _
  · have hb := hbel B w hBg (Below.refl _ _)
    rcases List.mem_or_eq_of_mem_set hp with hp | rfl
    · obtain ⟨A, c, e, hg⟩ := hsets p hp
      exact ⟨A, c, e, hg.below hb⟩
    · exact ⟨As, ks, rfl, hr.below hb⟩
  · exact (((((((Below.heap_setCell _ _ _ _ hr).trans (Below.heap_setCell _ _ _ _ hr)).trans (Below.heap_setCell _ _ _ _ hr)).trans (Below.heap_setCell _ _ _ _ hr)).trans (Below.heap_setCell _ _ _ _ hr)).trans (Below.heap_setCell _ _ _ _ hr)).trans (Below.heap_setCell _ _ _ _ hr)).trans ho
set_option maxHeartbeats 8000000 in
set_option maxRecDepth 100000 in
theorem turns_walk (A0 : Option Addr) (n0 c0 : Nat) (e1 e2 e3 e4 e5 e6 : Value) (Y : List Int) (y : Nd) (Ay : Option Addr) (ky : Nat) (at_ fd : Int) (w : World)
    (hY : IntsAt w (.slice A0 n0 c0) Y) (hn0 : Y.length = n0) (hm0 : n0 ≤ maxLen) (hr : S.Rgs w w.heap.size Ay y.set) (hk1 : y.set.length ≤ ky) (hk2 : ky ≤ maxLen) (hk3 : Ay = none → y.set = []) :
    Calls Try.prog 4 #[.agg #[.slice A0 n0 c0, e1, e2, e3, e4, e5, e6], nv y (.slice Ay y.set.length ky), .int .i64 at_, .int .i64 fd] w (RetD w true) := by
  obtain ⟨ly, hly⟩ : ∃ n, y.set.length = n := ⟨_, rfl⟩
  rw [hly] at hk1 ⊢
  have a0 := (Below.refl w.heap.size w).alloc (Nat.le_refl _) (.cells #[.slice A0 n0 c0, e1, e2, e3, e4, e5, e6] 32)
  have a1 := a0.alloc a0.size (.cells (ndCells y Ay ly ky) 35)
  have al := fun (W : World) (o : Obj) => (Below.refl W.heap.size W).alloc (Nat.le_refl _) o
  have g0 := keepL (heap_new w (.cells #[.slice A0 n0 c0, e1, e2, e3, e4, e5, e6] 32)) (al _ (.cells (ndCells y Ay ly ky) 35))
  have g1 := heap_new (w.alloc (.cells #[.slice A0 n0 c0, e1, e2, e3, e4, e5, e6] 32)) (.cells (ndCells y Ay ly ky) 35)
  simp only [World.size_alloc] at g1
  have HT0 := Lib.hid (fun (W : World) (hW : Below w.heap.size w W) => (tree_any A0 n0 c0 Y W (hY.below hW) hn0 hm0).mono fun _ _ h => RetMk.s h)
  have HY4 := Lib.hid (show ∀ W, Below w.heap.size w W → Calls Try.prog 14 #[.slice Ay ly ky, .int .i64 4] W (S.RetR (y.set.take 4) W) from fun W hW => S.set_any Ay ly ky 4 y.set W hly hk1 hk2 (rgs_take (hr.on hW) 4) hk3 (by omega))
  clear hY hn0 hm0 hr hk1 hk2 hk3 hly a0 al
  have HBA := Lib.hid a1; have K4 := Lib.hid g0; have K5 := Lib.hid g1
  clear a1 g0 g1
  go_enter Try.func4, Try.ntmps4
  go_upto_region 1 with fail
  generalize (w.alloc (.cells #[.slice A0 n0 c0, e1, e2, e3, e4, e5, e6] 32)).alloc (.cells (ndCells y Ay ly ky) 35) = W0 at *
  have s4 : W0.cell? ⟨w.heap.size, 0, none⟩ = some (.slice A0 n0 c0) := by rw [cell_of_row _ w.heap.size 0 _ _ _ K4.out]; rfl
  go_wp2_with fail
  refine (HT0.out _ HBA.out).mono ?_
  rintro e w1 ⟨T, hM, hsz, At, ct, rfl, hN1, hA1, hb1⟩
  have HG := Lib.hid (mk_good' hM (by omega))
  have HS := Lib.hid (flat_six (num 0 T) 0 (num_mk T 0 hM))
  have HL := Lib.hid (show (flat 0 (num 0 T)).length = size T by rw [flat_len, num_size])
  have hp := size_pos T
  have HA := Lib.hid hA1
  generalize flat 0 (num 0 T) = L at *
  generalize size T = m at *
  have al := fun (W : World) (o : Obj) => (Below.refl W.heap.size W).alloc (Nat.le_refl _) o
  have K9 := Lib.hid (heap_new w1 (.cells #[.slice At m ct] 24))
  have hb2 := S.bel_trans hb1 (al w1 (.cells #[.slice At m ct] 24))
  have HN := Lib.hid (hN1.below (al w1 (.cells #[.slice At m ct] 24)))
  have K5 := Lib.hid (keepL K5.out hb2)
  have HBA := Lib.hid (HBA.out.trans (hb2.mono HBA.out.size))
  clear hN1 hA1 hb1 hb2 s4 hM K4 HT0 al
  go_upto_region 2 with fail
  generalize w1.alloc (.cells #[.slice At m ct] 24) = w2 at *
  generalize w1.heap.size = k9 at *
  have HK9 := Lib.hid (lt_of_heap K9.out)
  have HS6 := Lib.hid (show ∀ x ∈ L, x.set.length ≤ 1000000 from fun x hx => Nat.le_trans (HS.out x hx) (by decide))
  have H9 := Lib.hid (show ∀ W, Below w2.heap.size w2 W → Calls Try.prog 9 #[tr At m ct, .int .i64 at_] W (RetD W true) from fun W hW => asks_any At m ct L at_ W (HN.out.below hW) HL.out (by omega) HS6.out)
  have H13 := Lib.hid (show ∀ W, Below w2.heap.size w2 W → Calls Try.prog 13 #[tr At m ct] W (RetD W true) from fun W hW => (tgood_any At m ct L W (HN.out.below hW) HL.out (by omega) HS6.out).mono fun _ _ h => RetB.yes h HG.out)
  have HSF := Lib.hid (show ∀ W, Below w2.heap.size w2 W → W.cell? ⟨k9, 0, none⟩ = some (.slice At m ct) from fun W hW => (hW.cell (p := ⟨k9, 0, none⟩) HK9.out).trans (blk1 K9.out))
  obtain ⟨c9, _⟩ := obj29 K9.out
  go_wp2_with fail
  refine (H9.out _ (Below.refl _ _)).mono ?_
  rintro e w3 ⟨rfl, hb3⟩
  have c93 := HSF.out _ hb3
  have HB3 := Lib.hid hb3
  clear hb3 c9
  go_wp2_with fail
  refine (H13.out _ HB3.out).mono ?_
  rintro e w4 ⟨rfl, hb4⟩
  have HB4 := Lib.hid (S.bel_trans HB3.out hb4)
  have c94 := HSF.out _ HB4.out
  clear hb4 c93
  have HWI := Lib.hid (fun (W : World) => within_any at_ m (by omega) (by omega) W)
  have HWF := Lib.hid (fun (W : World) => within_any fd 7 (by omega) (by omega) W)
  go_wp2_with fail
  refine (HWI.out _).mono ?_
  rintro e w5 ⟨k, hk, rfl, rfl⟩
  have hki : (k : Int) < (m : Int) := by omega
  obtain ⟨x, hx⟩ : ∃ x, L[k]? = some x := ⟨_, List.getElem?_eq_getElem (by rw [HL.out]; omega)⟩
  have HN4 := Lib.hid (HN.out.below HB4.out)
  obtain ⟨bb, off, rfl, hbl, hnd⟩ := nr_at HN4.out hx
  obtain ⟨As, ks, ⟨p0, p1, p2, p3, p4, p5, p6⟩, hrx⟩ := hnd
  obtain ⟨sl, hsl⟩ : ∃ sl, x.set.length = sl := ⟨_, rfl⟩
  have hs6 : sl ≤ 6 := by rw [← hsl]; exact HS.out x (List.mem_of_getElem? hx)
  rw [hsl] at p3
  have al5 := (Below.refl w5.heap.size w5).alloc (Nat.le_refl _) (.cells (ndCells x As sl ks) 35)
  have K11 := Lib.hid (heap_new w5 (.cells (ndCells x As sl ks) 35))
  have K5 := Lib.hid (keepL (keepL K5.out HB4.out) al5)
  have HRX := Lib.hid hrx
  have HSL := Lib.hid hsl
  have HX := Lib.hid hx
  have HA5 := Lib.hid al5
  have HBY := Lib.hid (HBA.out.trans ((S.bel_trans HB4.out al5).mono HBA.out.size))
  clear hrx hsl hx al5
  go_upto_region 6 with fail
  generalize w5.alloc (.cells #[.int .i64 x.kind, .int .i64 x.a, .int .i64 x.b, .slice As sl ks, .int .i64 x.mn, .int .i64 x.mx, .int .i64 x.n] 35) = w6 at *
  go_wp2_with fail
  refine (HWF.out _).mono ?_
  rintro e w7 ⟨f, hf, rfl, rfl⟩
  clear p0 p1 p2 p3 p4 p5 p6 c94
  go_upto_block 0 with fail
  go_cut [] from 37 to 73 (fun wc => ∃ (x2 : Nd) (A2 : Option Addr) (l2 j2 : Nat), Hid (wc.heap[w5.heap.size]? = some (.cells (ndCells x2 A2 l2 j2) 35)) ∧ Hid (x2.set.length = l2) ∧ Hid (S.Rgs wc wc.heap.size A2 x2.set) ∧ Hid (l2 ≤ 1000000) ∧ Hid (Below w5.heap.size w5 wc))
  case first =>
    rename_i JJ KK hJJ hKK
    have hfin : ∀ (V : World) (x2 : Nd), V.heap[w5.heap.size]? = some (.cells (ndCells x2 As sl ks) 35) → x2.set = x.set → Below w5.heap.size w5 V → ∃ (x2 : Nd) (A2 : Option Addr) (l2 j2 : Nat), Hid (V.heap[w5.heap.size]? = some (.cells (ndCells x2 A2 l2 j2) 35)) ∧ Hid (x2.set.length = l2) ∧ Hid (S.Rgs V V.heap.size A2 x2.set) ∧ Hid (l2 ≤ 1000000) ∧ Hid (Below w5.heap.size w5 V) := fun V x2 h1 h2 h3 =>
      ⟨x2, As, sl, ks, Lib.hid h1, Lib.hid (by rw [h2]; exact HSL.out), Lib.hid (by rw [h2]; exact (HRX.out.below h3).more h3.size), Lib.hid (by omega), Lib.hid h3⟩
    have HFIN := Lib.hid hfin
    clear hfin
    obtain ⟨⟨y0, y1, y2, y3, y4, y5, y6⟩, _⟩ := blk7 K5.out
    obtain ⟨⟨q0, q1, q2, q3, q4, q5, q6⟩, qf⟩ := blk7 K11.out
    have f0 := qf 0; have f1 := qf 1; have f2 := qf 2; have f3 := qf 3; have f4 := qf 4; have f5 := qf 5; have f6 := qf 6
    clear qf
    have hcase : f = 0 ∨ f = 1 ∨ f = 2 ∨ f = 3 ∨ f = 4 ∨ f = 5 ∨ f = 6 := by omega
    have HST := Lib.hid (show ∀ (i : Nat) (v : Value), Below w5.heap.size w5 (w7.setCell ⟨w5.heap.size, i, none⟩ v) from fun i v => HA5.out.setCell (p := ⟨w5.heap.size, i, none⟩) (Nat.le_refl _) v)
    clear hf
    rcases hcase with rfl | rfl | rfl | rfl | rfl | rfl | rfl
    · go_wp2_with fail
      go_meet
      exact HFIN.out _ { x with kind := y.kind } (heap_set 0 (.int .i64 y.kind) K11.out) rfl (HST.out 0 _)
    · go_wp2_with fail
      go_meet
      exact HFIN.out _ { x with a := y.a } (heap_set 1 (.int .i64 y.a) K11.out) rfl (HST.out 1 _)
    · go_wp2_with fail
      go_meet
      exact HFIN.out _ { x with b := y.b } (heap_set 2 (.int .i64 y.b) K11.out) rfl (HST.out 2 _)
    · have hlt := lt_of_heap K11.out
      go_wp2_with fail
      refine (HY4.out _ HBY.out).mono ?_
      rintro e w8 ⟨v3, rfl, ho3, hb3⟩
      obtain ⟨Bs, js, rfl, _, _, hr3, hf3⟩ := ho3.shape
      obtain ⟨m3, hm3⟩ : ∃ m3, (y.set.take 4).length = m3 := ⟨_, rfl⟩
      rw [hm3]
      have HM3 := Lib.hid hm3
      have hN3 := keepL K11.out hb3
      obtain ⟨⟨r0, r1, r2, r3, r4, r5, r6⟩, rf⟩ := blk7 hN3
      have rf3 := rf 3
      have HX3 := Lib.hid (show S.Rgs (w8.setCell ⟨w5.heap.size, 3, none⟩ (.slice Bs m3 js)) (w8.setCell ⟨w5.heap.size, 3, none⟩ (.slice Bs m3 js)).heap.size Bs (y.set.take 4) from (rgs_far (k := 3) (r := w5.heap.size) hr3 (hf3.imp id fun ⟨g, e, hg, _⟩ a ha => by
          rw [e] at ha; injection ha with ha; subst ha; show g ≠ w5.heap.size; omega) (.slice Bs m3 js)).more (by rw [set_size]; exact Nat.le_refl _))
      have HH3 := Lib.hid (heap_set 3 (.slice Bs m3 js) hN3)
      have HB3 := Lib.hid ((S.bel_trans HA5.out (hb3.mono (Nat.le_refl _))).setCell (p := ⟨w5.heap.size, 3, none⟩) (Nat.le_refl _) (.slice Bs m3 js))
      have hm4 : m3 ≤ 4 := by rw [← hm3, List.length_take]; omega
      clear hr3 hf3 ho3 hb3 hN3 rf hm3 q0 q1 q2 q3 q4 q5 q6 f0 f1 f2 f3 f4 f5 f6
      go_wp2_with fail
      go_meet
      exact ⟨{ x with set := y.set.take 4 }, Bs, m3, js, HH3, HM3, HX3, Lib.hid (by omega), HB3⟩
    · go_wp2_with fail
      go_region
      go_wp2_with fail
      go_meet
      exact HFIN.out _ { x with mn := y.mn, mx := y.mx } (heap_set 5 (.int .i64 y.mx) (heap_set 4 (.int .i64 y.mn) K11.out)) rfl ((HST.out 4 _).setCell (p := ⟨w5.heap.size, 5, none⟩) (Nat.le_refl _) _).drew
    · go_wp2_with fail
      go_meet
      exact HFIN.out _ { x with n := y.n } (heap_set 6 (.int .i64 y.n) K11.out) rfl (HST.out 6 _)
    · go_wp2_with fail
      go_meet
      exact HFIN.out _ { x with mx := y.mx } (heap_set 5 (.int .i64 y.mx) K11.out) rfl (HST.out 5 _)
  case rest =>
    obtain ⟨x2, A2, l2, j2, K12, HX2, HR2, HZ2, HBC⟩ := hcut
    have HBB := Lib.hid (S.bel_trans HB4.out HBC.out)
    have K9 := Lib.hid (keepL K9.out HBB.out)
    have HN := Lib.hid (HN.out.below HBB.out)
    have HBA := Lib.hid (HBA.out.trans (HBB.out.mono HBA.out.size))
    clear HY4 HBY K5 K11 HA5 HRX HWF HWI HSF H9 H13 HB3 HB4 HBC HBB HN4
    go_upto_region 20 with fail
    have al := fun (W : World) (o : Obj) => (Below.refl W.heap.size W).alloc (Nat.le_refl _) o
    obtain ⟨c9, _⟩ := obj29 K9.out
    obtain ⟨c9b, _⟩ := obj29 (keepL K9.out (al wc (.cells #[] 35)))
    go_wp2_with (at_builtin; refine wpList_wanted ?_ ?_)
    intro K hK
    refine wp_append_nk _ _ rfl wc.heap.size _ [] L m rfl (Nk.empty rfl (Nat.le_refl _)) (some ⟨bb, off, none⟩) ct HL.out rfl (Sc.of HN.out HA.out (al _ _)) (by simp; omega) wc.heap.size (Nat.le_refl _) (by simp) (fun k hk => by injection hk with hk; simp at hk; omega) ?_
    intro v1 V1 hn1 hv1 hg1
    rw [List.nil_append] at hn1
    have hb1 : Below wc.heap.size wc V1 := (al wc (.cells #[] 35)).trans (below_grown hg1 (by simp) (fun k hk => by injection hk with hk; simp at hk; omega))
    obtain ⟨g, cap, rfl, hg1, hg2, hgf⟩ := hn1.block (fun h0 => by have := HL.out; rw [h0] at this; simp at this; omega)
    refine hK _ _ ?_
    clear hK K
    rw [HL.out] at hn1 ⊢
    go_upto_region 21 with fail
    have al1 := al V1 (.cells #[.slice (some ⟨g, 0, none⟩) m cap] 24)
    have hb8 := S.bel_trans hb1 al1
    have K13 := Lib.hid (heap_new V1 (.cells #[.slice (some ⟨g, 0, none⟩) m cap] 24))
    have HU := Lib.hid (hn1.below hb1.size al1)
    have K12b := Lib.hid (keepL K12.out hb8)
    have h12 := lt_of_heap K12.out
    have HB8 := Lib.hid hb8
    have HG1 := Lib.hid hg1
    have hbs := hb1.size
    clear hn1 hv1 hb1 hb8 al1 hg1 hg2 hgf al c9 c9b
    have KLE := Lib.hid (show w.heap.size ≤ V1.heap.size from Nat.le_trans HBA.out.size hbs)
    clear hbs
    generalize V1.alloc (.cells #[.slice (some ⟨g, 0, none⟩) m cap] 24) = w8 at *
    generalize V1.heap.size = k13 at *
    obtain ⟨c13, _⟩ := obj29 K13.out
    obtain ⟨⟨q0, q1, q2, q3, q4, q5, q6⟩, _⟩ := blk7 K12b.out
    obtain ⟨b', o', e', _, Ax, kx, ⟨p0, p1, p2, p3, p4, p5, p6⟩, _⟩ := nr_at (HU.out.reads HB8.out.size) HX.out
    injection e' with e'
    injection e' with e' e''
    subst e' e''
    obtain ⟨g', cap', ev, _, _, hfr⟩ := HU.out.block (fun h0 => by have := HL.out; rw [h0] at this; simp at this; omega)
    injection ev with ev em ec
    clear em ec
    injection ev with ev
    injection ev with ev _ _
    subst ev
    have r0 := hfr (k * 7); have r1 := hfr (k * 7 + 1); have r2 := hfr (k * 7 + 2); have r3 := hfr (k * 7 + 3); have r4 := hfr (k * 7 + 4); have r5 := hfr (k * 7 + 5); have r6 := hfr (k * 7 + 6)
    clear hfr
    rw [Nat.zero_add] at p0 p1 p2 p3 p4 p5 p6
    have HR8 := Lib.hid (HR2.out.below HB8.out)
    have HKL := Lib.hid (show k < L.length by rw [HL.out]; omega)
    have HP := Lib.hid (HU.out.put7 HKL.out x2 A2 l2 j2 HX2.out HR8.out)
    have HNE := Lib.hid (HU.out.ne K13.out g rfl)
    have HCAP := Lib.hid HU.out.cap
    go_upto_region 22 with fail
    generalize (((((((w8.setCell ⟨g, k * 7, none⟩ (.int .i64 x2.kind)).setCell ⟨g, k * 7 + 1, none⟩ (.int .i64 x2.a)).setCell ⟨g, k * 7 + 2, none⟩ (.int .i64 x2.b)).setCell ⟨g, k * 7 + 3, none⟩ (.slice A2 l2 j2)).setCell ⟨g, k * 7 + 4, none⟩ (.int .i64 x2.mn)).setCell ⟨g, k * 7 + 5, none⟩ (.int .i64 x2.mx)).setCell ⟨g, k * 7 + 6, none⟩ (.int .i64 x2.n)) = w9 at *
    clear p0 p1 p2 p3 p4 p5 p6 q0 q1 q2 q3 q4 q5 q6 r0 r1 r2 r3 r4 r5 r6 c13
    have HK13 := Lib.hid (show w.heap.size ≤ k13 from KLE.out)
    have HB9 := Lib.hid (HP.out.2.2 wc.heap.size wc HG1.out HB8.out)
    have K13 := Lib.hid (HP.out.2.1 k13 _ (Ne.symm HNE.out) K13.out)
    have HU := Lib.hid (HP.out.1.reads HB9.out.size)
    have K9 := Lib.hid (keepL K9.out HB9.out)
    have K12 := Lib.hid (keepL K12.out HB9.out)
    have HN := Lib.hid (HN.out.below HB9.out)
    have HR2 := Lib.hid ((HR2.out.below HB9.out).more HB9.out.size)
    have HBA := Lib.hid (HBA.out.trans (HB9.out.mono HBA.out.size))
    clear K12b HB8 HG1 HR8 HP HNE HB9 h12
    obtain ⟨b', o', e', hbl, Ax, kx, ⟨p0, p1, p2, p3, p4, p5, p6⟩, hrx⟩ := nr_at HN.out HX.out
    injection e' with e'
    injection e' with e' e''
    subst e' e''
    rw [HSL.out] at p3
    obtain ⟨⟨q0, q1, q2, q3, q4, q5, q6⟩, _⟩ := blk7 K12.out
    have hk9 := lt_of_heap K9.out; have hk13 := lt_of_heap K13.out; have hk12 := lt_of_heap K12.out
    have HLS := Lib.hid (show (L.set k x2).length = m by rw [List.length_set]; exact HL.out)
    have HSS := Lib.hid (show ∀ z ∈ L.set k x2, z.set.length ≤ 1000000 from fun z hz => by
      rcases List.mem_or_eq_of_mem_set hz with h | rfl
      · exact HS6.out z h
      · rw [HX2.out]; exact HZ2.out)
    have H9 := Lib.hid (show ∀ W, Below w9.heap.size w9 W → Calls Try.prog 9 #[tr (some ⟨g, 0, none⟩) m cap, .int .i64 at_] W (RetD W true) from fun W hW => asks_any (some ⟨g, 0, none⟩) m cap (L.set k x2) at_ W (HU.out.below hW) HLS.out (by omega) HSS.out)
    have H15 := Lib.hid (show ∀ W, Below w9.heap.size w9 W → Calls Try.prog 15 #[tr (some ⟨bb, off, none⟩) m ct, tr (some ⟨g, 0, none⟩) m cap] W (RetD W (pb (x = x2))) from fun W hW => (tsame_any (some ⟨bb, off, none⟩) (some ⟨g, 0, none⟩) m ct m cap L (L.set k x2) W (HN.out.below hW) HL.out (HU.out.below hW) HLS.out (by omega) HS6.out HSS.out).mono fun _ _ h => RetB.det (by
      obtain ⟨q, e1, e2, e3⟩ := h
      exact ⟨q, e1, e2.trans (set_eq HX.out), e3⟩))
    have HRX := Lib.hid hrx
    have H16 := Lib.hid (show ∀ W, Below w9.heap.size w9 W → Calls Try.prog 16 #[nv x (.slice Ax sl kx), nv x2 (.slice A2 l2 j2)] W (RetD W (pb (x = x2))) from fun W hW => by
      have h := eqnode_any x x2 Ax A2 kx j2 W (HRX.out.on hW) (HR2.out.on hW) (by rw [HSL.out]; omega) (by rw [HX2.out]; exact HZ2.out)
      rw [HSL.out, HX2.out] at h
      exact h.mono fun _ _ h => RetB.det h)
    have HSF := Lib.hid (show ∀ W, Below w9.heap.size w9 W → (((W.cell? ⟨k13, 0, none⟩ = some (.slice (some ⟨g, 0, none⟩) m cap) ∧ W.cell? ⟨k9, 0, none⟩ = some (.slice (some ⟨bb, off, none⟩) m ct)) ∧ (W.cell? ⟨bb, off + k * 7, none⟩ = some (.int .i64 x.kind) ∧ W.cell? ⟨bb, off + k * 7 + 1, none⟩ = some (.int .i64 x.a) ∧ W.cell? ⟨bb, off + k * 7 + 2, none⟩ = some (.int .i64 x.b) ∧ W.cell? ⟨bb, off + k * 7 + 3, none⟩ = some (.slice Ax sl kx) ∧ W.cell? ⟨bb, off + k * 7 + 4, none⟩ = some (.int .i64 x.mn) ∧ W.cell? ⟨bb, off + k * 7 + 5, none⟩ = some (.int .i64 x.mx) ∧ W.cell? ⟨bb, off + k * 7 + 6, none⟩ = some (.int .i64 x.n)) ∧ (W.cell? ⟨w5.heap.size, 0, none⟩ = some (.int .i64 x2.kind) ∧ W.cell? ⟨w5.heap.size, 1, none⟩ = some (.int .i64 x2.a) ∧ W.cell? ⟨w5.heap.size, 2, none⟩ = some (.int .i64 x2.b) ∧ W.cell? ⟨w5.heap.size, 3, none⟩ = some (.slice A2 l2 j2) ∧ W.cell? ⟨w5.heap.size, 4, none⟩ = some (.int .i64 x2.mn) ∧ W.cell? ⟨w5.heap.size, 5, none⟩ = some (.int .i64 x2.mx) ∧ W.cell? ⟨w5.heap.size, 6, none⟩ = some (.int .i64 x2.n))) ∧ Below w9.heap.size w9 W) from fun W hW => ⟨⟨⟨(hW.cell (p := ⟨k13, 0, none⟩) hk13).trans (blk1 K13.out), (hW.cell (p := ⟨k9, 0, none⟩) hk9).trans (blk1 K9.out)⟩, ⟨(hW.cell (p := ⟨bb, _, none⟩) hbl).trans p0, (hW.cell (p := ⟨bb, _, none⟩) hbl).trans p1, (hW.cell (p := ⟨bb, _, none⟩) hbl).trans p2, (hW.cell (p := ⟨bb, _, none⟩) hbl).trans p3, (hW.cell (p := ⟨bb, _, none⟩) hbl).trans p4, (hW.cell (p := ⟨bb, _, none⟩) hbl).trans p5, (hW.cell (p := ⟨bb, _, none⟩) hbl).trans p6⟩, ⟨(hW.cell (p := ⟨w5.heap.size, _, none⟩) hk12).trans q0, (hW.cell (p := ⟨w5.heap.size, _, none⟩) hk12).trans q1, (hW.cell (p := ⟨w5.heap.size, _, none⟩) hk12).trans q2, (hW.cell (p := ⟨w5.heap.size, _, none⟩) hk12).trans q3, (hW.cell (p := ⟨w5.heap.size, _, none⟩) hk12).trans q4, (hW.cell (p := ⟨w5.heap.size, _, none⟩) hk12).trans q5, (hW.cell (p := ⟨w5.heap.size, _, none⟩) hk12).trans q6⟩⟩, hW⟩)
    generalize pb (x = x2) = bq at *
    clear p0 p1 p2 p3 p4 p5 p6 q0 q1 q2 q3 q4 q5 q6 hrx hbl
    go_region_held3 (fun W => ((W.cell? ⟨k13, 0, none⟩ = some (.slice (some ⟨g, 0, none⟩) m cap) ∧ W.cell? ⟨k9, 0, none⟩ = some (.slice (some ⟨bb, off, none⟩) m ct)) ∧ (W.cell? ⟨bb, off + k * 7, none⟩ = some (.int .i64 x.kind) ∧ W.cell? ⟨bb, off + k * 7 + 1, none⟩ = some (.int .i64 x.a) ∧ W.cell? ⟨bb, off + k * 7 + 2, none⟩ = some (.int .i64 x.b) ∧ W.cell? ⟨bb, off + k * 7 + 3, none⟩ = some (.slice Ax sl kx) ∧ W.cell? ⟨bb, off + k * 7 + 4, none⟩ = some (.int .i64 x.mn) ∧ W.cell? ⟨bb, off + k * 7 + 5, none⟩ = some (.int .i64 x.mx) ∧ W.cell? ⟨bb, off + k * 7 + 6, none⟩ = some (.int .i64 x.n)) ∧ (W.cell? ⟨w5.heap.size, 0, none⟩ = some (.int .i64 x2.kind) ∧ W.cell? ⟨w5.heap.size, 1, none⟩ = some (.int .i64 x2.a) ∧ W.cell? ⟨w5.heap.size, 2, none⟩ = some (.int .i64 x2.b) ∧ W.cell? ⟨w5.heap.size, 3, none⟩ = some (.slice A2 l2 j2) ∧ W.cell? ⟨w5.heap.size, 4, none⟩ = some (.int .i64 x2.mn) ∧ W.cell? ⟨w5.heap.size, 5, none⟩ = some (.int .i64 x2.mx) ∧ W.cell? ⟨w5.heap.size, 6, none⟩ = some (.int .i64 x2.n))) ∧ Below w9.heap.size w9 W) (first | exact HSF.out _ (Below.refl _ _).drew | exact HSF.out _ (S.bel_trans (held3 (by assumption)) (by assumption)) | assumption | fail) (first
      | (go_at_call 9; (with_reducible refine (H9.out _ (held3 (by assumption))).mono ?_); rintro e w21 ⟨rfl, hb21⟩)
      | (go_at_call 15; (with_reducible refine (H15.out _ (held3 (by assumption))).mono ?_); rintro e w22 ⟨rfl, hb22⟩)
      | (go_at_call 16; (with_reducible refine (H16.out _ (held3 (by assumption))).mono ?_); rintro e w23 ⟨rfl, hb23⟩)
      | fail)
    rename_i hHeld
    have HH := Lib.hid (held3 hHeld)
    clear hHeld
    clear H9 H15 H16 HSF HRX HR2 HX2 HZ2 K9 K12 hk9 hk12 hk13
    have hK13 := keepL K13.out HH.out
    obtain ⟨c13, f13⟩ := obj29 hK13
    have hkc : k ≤ cap := by have h1 := HCAP.out.1; rw [HL.out] at h1; omega
    have hkc' : (k : Int) ≤ (cap : Int) := by omega
    have HU2 := Lib.hid (nr_take (nr_set1 hK13 (HU.out.below HH.out) (.slice (some ⟨g, 0, none⟩) k cap)) k)
    have K2 := Lib.hid (set_same hK13 (.slice (some ⟨g, 0, none⟩) k cap))
    have hk13 := lt_of_heap hK13
    have HB2 := Lib.hid (show Below w.heap.size w _ from (HBA.out.trans (HH.out.mono HBA.out.size)).setCell (p := ⟨k13, 0, none⟩) HK13.out (.slice (some ⟨g, 0, none⟩) k cap))
    clear hK13
    have HLT := Lib.hid (show ((L.set k x2).take k).length = k by rw [List.length_take, HLS.out]; omega)
    have HST := Lib.hid (show ∀ z ∈ (L.set k x2).take k, z.set.length ≤ 1000000 from fun z hz => HSS.out z (List.mem_of_mem_take hz))
    clear HH
    go_upto_region 25 with fail
    generalize w23.setCell ⟨k13, 0, none⟩ (.slice (some ⟨g, 0, none⟩) k cap) = wz at *
    clear c13 f13 hk13
    obtain ⟨c13, _⟩ := obj29 K2.out
    have H9 := Lib.hid (asks_any (some ⟨g, 0, none⟩) k cap ((L.set k x2).take k) at_ wz HU2.out HLT.out (by omega) HST.out)
    go_wp2_with fail
    refine H9.out.mono ?_
    rintro e w30 ⟨rfl, hb30⟩
    have HB3 := Lib.hid (HB2.out.trans (hb30.mono HB2.out.size))
    clear hb30 c13
    go_wp2_with fail
    refine (wakes_any _).mono ?_
    rintro e w31 ⟨rfl, hb31⟩
    have HB4 := Lib.hid (HB3.out.trans (hb31.mono HB3.out.size))
    clear hb31
    go_wp2_with fail
    go_ret
    exact ⟨rfl, HB4.out⟩
end Go.Proofs.Ytceeimolfalmpaa
