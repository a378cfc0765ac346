/-
  Trees as the statements make them, more: their sets have at most six ranges, so cutting leaves them as they are; how many nodes of a kind there are; two rows beside each other are no tree. No program, no conditions.
  TreeJoins: the walk. Conditions: the cases' numbers as Go has them.
-/
import Derived.Test.YtceeimolfalmpaaXD
import Derived.Test.YtceeimolfalmpaaTells
import Derived.Test.YtceeimolfalmpaaXE
namespace Go.Proofs.Ytceeimolfalmpaa
open Go.RowKit ObSets ObTree ObTree.Tree

theorem flat_six : ∀ (t : Tree) (o : Nat), Mk t → ∀ x ∈ flat o t, x.set.length ≤ 6
  | .leaf x, o, h, y, hy => by
    simp only [flat, List.mem_singleton] at hy
    subst hy
    exact h.2.2
  | .one x t, o, h, y, hy => by
    simp only [flat, List.mem_append, List.mem_singleton] at hy
    rcases hy with hy | rfl
    · exact flat_six t o h.2 y hy
    · show x.set.length ≤ _
      rcases h.1 with h7 | h8 | h9
      · have := fine_set (by rw [kids_one (.inl h7.1)]; simp) h7.2; omega
      · have := h8.2.2.2.1; omega
      · have := fine_set (by rw [kids_one (.inr (.inr h9.1))]; simp) h9.2; omega
  | .two x s t, o, h, y, hy => by
    simp only [flat, List.mem_append, List.mem_singleton] at hy
    rcases hy with hy | hy | rfl
    · exact flat_six s o h.2.1 y hy
    · exact flat_six t _ h.2.2 y hy
    · show x.set.length ≤ _
      have := fine_set (by rw [kids_two h.1.1]; simp) h.1.2; omega
theorem cut_id {L : List Nd} {most : Nat} (hl : L.length ≤ most) (h : ∀ x ∈ L, x.set.length ≤ 6) : (L.take most).map cutN = L := by
  rw [List.take_of_length_le hl]
  conv => rhs; rw [← List.map_id L]
  refine List.map_congr_left fun x hx => ?_
  unfold cutN
  rw [List.take_of_length_le (h x hx)]; rfl
/-- The kinds of a tree's nodes, in their order. -/
def kdsOf : Tree → List Int
  | .leaf x => [x.kind]
  | .one x t => kdsOf t ++ [x.kind]
  | .two x s t => kdsOf s ++ kdsOf t ++ [x.kind]
theorem kds_num : ∀ (t : Tree) (n : Nat), kdsOf (num n t) = kdsOf t
  | .leaf x, n => rfl
  | .one x t, n => by
    simp only [num]
    split
    · simp [kdsOf, kds_num t]
    · simp [kdsOf, kds_num t]
  | .two x s t, n => by simp [num, kdsOf, kds_num s, kds_num t]
theorem kds_flat : ∀ (t : Tree) (o : Nat), (flat o t).map (fun x : Nd => x.kind) = kdsOf t
  | .leaf x, o => rfl
  | .one x t, o => by simp [flat, kdsOf, kds_flat t]
  | .two x s t, o => by simp [flat, kdsOf, kds_flat s, kds_flat t]
theorem idx_count (kd : Int) (L : List Nd) : ∀ m, m ≤ L.length → (idx kd L m).length = ((L.map (fun x : Nd => x.kind)).take m).count kd
  | 0, _ => by simp [idx]
  | m + 1, h => by
    obtain ⟨x, hx⟩ : ∃ x, L[m]? = some x := ⟨_, List.getElem?_eq_getElem (by omega)⟩
    have ih := idx_count kd L m (by omega)
    rw [List.take_add_one, List.getElem?_map, hx]
    by_cases hk : x.kind = kd
    · rw [idx_yes hx hk]; simp [ih, hk, List.count_append]
    · rw [idx_no hx hk]; simp [ih, hk, List.count_append]
theorem idx_kds (kd : Int) (t : Tree) (n o m : Nat) (hm : m = size t) : (idx kd (flat o (num n t)) m).length = (kdsOf t).count kd := by
  subst hm
  rw [idx_count kd _ _ (by rw [flat_len, num_size]; exact Nat.le_refl _), kds_flat, kds_num, List.take_of_length_le]
  rw [← kds_flat t 0, List.length_map, flat_len]; exact Nat.le_refl _
theorem kds_len (t : Tree) : (kdsOf t).length = size t := by rw [← kds_flat t 0, List.length_map, flat_len]
theorem two_rows {s t : Tree} (hs : Ok s) (ht : Ok t) : ¬ SoundL (flat 0 s ++ flat 0 t) := by
  intro h
  have hp := size_pos s
  have hq := size_pos t
  have hm := h.2.2 (max (size s) (size t) - 1) (by rw [List.length_append, flat_len, flat_len]; omega)
  rw [uses_append, uses_flat s 0 _ hs, uses_flat t 0 _ ht, if_neg (by omega), if_neg (by omega)] at hm
  cases hm
/-- Such a tree, numbered anew, is good. -/
theorem mk_good' {t : Tree} (h : Mk t) (hn : size t ≤ 99) : GoodL (flat 0 (num 0 t)) :=
  good_num (Mk.ok t h) (by omega) (num_fine t 0 0 h (by have := ncap_le t; omega))
theorem bel_alloc {w W : World} (h : Below w.heap.size w W) (o : Obj) : Below w.heap.size w (W.alloc o) := h.alloc h.size o
theorem bel_set {w W : World} (h : Below w.heap.size w W) {k : Nat} (hk : w.heap.size ≤ k) (v : Value) : Below w.heap.size w (W.setCell ⟨k, 0, none⟩ v) := h.setCell (p := ⟨k, 0, none⟩) hk v
/-- Two stores into cells of one value each. -/
theorem two_sets {V : World} {p q : Nat} {u0 u1 : Value} (hpq : p ≠ q) (h0 : V.heap[p]? = some (.cells #[u0] 24)) (h1 : V.heap[q]? = some (.cells #[u1] 24)) (a b : Value) :
    ((V.setCell ⟨p, 0, none⟩ a).setCell ⟨q, 0, none⟩ b).heap[p]? = some (.cells #[a] 24) ∧ ((V.setCell ⟨p, 0, none⟩ a).setCell ⟨q, 0, none⟩ b).heap[q]? = some (.cells #[b] 24) ∧
    (∀ r, r ≠ p → r ≠ q → ((V.setCell ⟨p, 0, none⟩ a).setCell ⟨q, 0, none⟩ b).heap[r]? = V.heap[r]?) ∧
    (∀ A L, Nr V A L → Nr ((V.setCell ⟨p, 0, none⟩ a).setCell ⟨q, 0, none⟩ b) A L) ∧ (∀ B X, B ≤ p → B ≤ q → Below B X V → Below B X ((V.setCell ⟨p, 0, none⟩ a).setCell ⟨q, 0, none⟩ b)) := by
  have g0 := set_same h0 a
  have g1 : (V.setCell ⟨p, 0, none⟩ a).heap[q]? = some (.cells #[u1] 24) := (Below.heap_setCell V ⟨p, 0, none⟩ a q (Ne.symm hpq)).trans h1
  refine ⟨(Below.heap_setCell _ ⟨q, 0, none⟩ b p hpq).trans g0, set_same g1 b, fun r hr hr2 => (Below.heap_setCell _ ⟨q, 0, none⟩ b r hr2).trans (Below.heap_setCell V ⟨p, 0, none⟩ a r hr), fun A L hN => nr_set1 g1 (nr_set1 h0 hN a) b, fun B X hp hq hb => (hb.setCell (p := ⟨p, 0, none⟩) hp a).setCell (p := ⟨q, 0, none⟩) hq b⟩
/-- Two values stored into cells, at least one of both just made. -/
def TwoAt (w2 V : World) (p q : Nat) (a b : Value) : Prop := V.heap[p]? = some (.cells #[a] 24) ∧ V.heap[q]? = some (.cells #[b] 24) ∧ (∀ A L, Nr w2 A L → Nr V A L) ∧ ∀ B X, B ≤ p → B ≤ q → Below B X w2 → Below B X V
theorem two_f1 (w2 : World) (a b : Value) : TwoAt w2 ((w2.alloc (.cells #[a] 24)).alloc (.cells #[b] 24)) w2.heap.size (w2.heap.size + 1) a b := by
  have al := fun (W : World) (o : Obj) => (Below.refl W.heap.size W).alloc (Nat.le_refl _) o
  have h := heap_new (w2.alloc (.cells #[a] 24)) (.cells #[b] 24)
  rw [World.size_alloc] at h
  exact ⟨keepL (heap_new _ _) (al _ _), h, fun A L hN => (hN.below (al _ _)).below (al _ _), fun B X h1 h2 hb => (hb.alloc h1 _).alloc (by rw [World.size_alloc]; exact h2) _⟩
theorem two_f2 (w2 : World) (a b : Value) : TwoAt w2 ((w2.alloc (.cells #[b] 24)).alloc (.cells #[a] 24)) (w2.heap.size + 1) w2.heap.size a b := by
  obtain ⟨h1, h2, h3, h4⟩ := two_f1 w2 b a
  exact ⟨h2, h1, h3, fun B X hp hq hb => h4 B X hq hp hb⟩
theorem two_f3 {w2 : World} {p : Nat} {u u0 : Value} (h : w2.heap[p]? = some (.cells #[u] 24)) (a b : Value) : TwoAt w2 (((w2.alloc (.cells #[u0] 24)).setCell ⟨p, 0, none⟩ a).setCell ⟨w2.heap.size, 0, none⟩ b) p w2.heap.size a b := by
  have al := (Below.refl w2.heap.size w2).alloc (Nat.le_refl _) (.cells #[u0] 24)
  obtain ⟨h1, h2, _, h4, h5⟩ := two_sets (Nat.ne_of_lt (lt_of_heap h)) (keepL h al) (heap_new w2 (.cells #[u0] 24)) a b
  exact ⟨h1, h2, fun A L hN => h4 A L (hN.below al), fun B X hp hq hb => h5 B X hp hq (hb.alloc hq _)⟩
theorem two_f4 {w2 : World} {p q : Nat} {u u0 : Value} (hpq : p ≠ q) (h : w2.heap[p]? = some (.cells #[u] 24)) (h0 : w2.heap[q]? = some (.cells #[u0] 24)) (a b : Value) : TwoAt w2 ((w2.setCell ⟨p, 0, none⟩ a).setCell ⟨q, 0, none⟩ b) p q a b := by
  obtain ⟨h1, h2, _, h4, h5⟩ := two_sets hpq h h0 a b
  exact ⟨h1, h2, h4, h5⟩
theorem two_f5 {w2 : World} {q : Nat} {u : Value} (h : w2.heap[q]? = some (.cells #[u] 24)) (a b : Value) : TwoAt w2 ((w2.alloc (.cells #[a] 24)).setCell ⟨q, 0, none⟩ b) w2.heap.size q a b := by
  have al := (Below.refl w2.heap.size w2).alloc (Nat.le_refl _) (.cells #[a] 24)
  have hq := keepL h al
  exact ⟨(Below.heap_setCell _ ⟨q, 0, none⟩ b w2.heap.size (Nat.ne_of_gt (lt_of_heap h))).trans (heap_new w2 _), set_same hq b, fun A L hN => nr_set1 hq (hN.below al) b, fun B X hp hq hb => (hb.alloc hp _).setCell (p := ⟨q, 0, none⟩) hq b⟩
/-- What the making of two trees leaves. -/
theorem two_done {wc w2 V : World} {p q : Nat} {B1 B2 : Option Addr} {m1 m2 d1 d2 : Nat} {L1 L2 : List Nd} (h : TwoAt w2 V p q (.slice B1 m1 d1) (.slice B2 m2 d2)) (hp : wc.heap.size ≤ p) (hq : wc.heap.size ≤ q) (hb : Below wc.heap.size wc w2) (hN1 : Nr w2 B1 L1) (hN2 : Nr w2 B2 L2) :
    Hid (Nr V B1 L1) ∧ Hid (Nr V B2 L2) ∧ Hid (V.heap[p]? = some (.cells #[.slice B1 m1 d1] 24)) ∧ Hid (V.heap[q]? = some (.cells #[.slice B2 m2 d2] 24)) ∧ Hid (Below wc.heap.size wc V) :=
  ⟨Lib.hid (h.2.2.1 _ _ hN1), Lib.hid (h.2.2.1 _ _ hN2), Lib.hid h.1, Lib.hid h.2.1, Lib.hid (h.2.2.2 _ _ hp hq hb)⟩
/-- A tree handed back, its length named. -/
def RetTm (w : World) (L : List Nd) (m : Nat) (e : Ending) (w' : World) : Prop := ∃ A c, e = .returned (tr A m c) ∧ Nr w' A L ∧ (A = none → L = [] ∧ c = 0) ∧ Below w.heap.size w w'
theorem RetTr.m {w w' : World} {L : List Nd} {m : Nat} {e : Ending} (h : RetTr w L e w') (hm : L.length = m) : RetTm w L m e w' := by
  subst hm; exact h
/-- A tree made by the statements, its length named. -/
def RetMs (w : World) (e : Ending) (w' : World) : Prop := ∃ T : Tree, Mk T ∧ size T ≤ 47 ∧ ∃ A c, e = .returned (tr A (size T) c) ∧ Nr w' A (flat 0 (num 0 T)) ∧ (A = none → flat 0 (num 0 T) = [] ∧ c = 0) ∧ Below w.heap.size w w'
theorem RetMk.s {w w' : World} {e : Ending} (h : RetMk w e w') : RetMs w e w' := by
  obtain ⟨T, h1, h2, A, c, h3, h4⟩ := h
  exact ⟨T, h1, h2, A, c, by rw [h3, flat_len, num_size], h4⟩
end Go.Proofs.Ytceeimolfalmpaa

namespace Go.Proofs.Ytceeimolfalmpaa
open Go.RowKit ObSets ObTree ObTree.Tree

theorem nr_none {w : World} {A : Option Addr} {T : Tree} {c : Nat} (h : Nr w A (flat 0 T)) : A = none → flat 0 T = [] ∧ c = 0 := fun e => by
  have hne : flat 0 T ≠ [] := fun h0 => by have h1 := flat_len T 0; have h2 := size_pos T; rw [h0] at h1; simp at h1; omega
  obtain ⟨b, off, e', _⟩ := h hne
  rw [e] at e'; cases e'
theorem Nk.ne {w : World} {B k : Nat} {v : Value} {l : List Nd} {u : Value} (h : Nk w B v l) (hk : w.heap[k]? = some (.cells #[u] 24)) : ∀ g, v.ownBlock = some g → g ≠ k := fun g hg e => by
  subst e
  obtain ⟨L, _, h2, _⟩ := h
  rcases h2.2 with ⟨rfl, _⟩ | ⟨g', cap, cur, rfl, _, hc, _⟩
  · cases hg
  · simp only [Value.ownBlock, Option.some.injEq] at hg
    subst hg
    rw [hk] at hc
    injection hc with hc
    injection hc with _ hc
    cases hc
/-- A row of numbers handed back, only how many there are. -/
def RetLn (k : Nat) (w : World) (e : Ending) (w' : World) : Prop := ∃ A c, e = .returned (.slice A k c) ∧ Below w.heap.size w w'
theorem RetZ.ln {zs : List Int} {w w' : World} {e : Ending} {k : Nat} (h : RetZ zs w e w') (hk : zs.length = k) : RetLn k w e w' := by
  obtain ⟨v, rfl, ho, hb⟩ := h
  obtain ⟨A, c, rfl, _⟩ := IntsAt.own ho
  subst hk
  exact ⟨A, c, rfl, hb⟩
set_option maxHeartbeats 8000000 in
set_option maxRecDepth 100000 in
theorem joins_walk (A0 : Option Addr) (n0 c0 : Nat) (e1 e2 e3 e4 e5 e6 : Value) (Y : List Int) (A1 : Option Addr) (n1 c1 : Nat) (f1 f2 f3 f4 f5 f6 : Value) (Z : List Int) (w : World)
    (hY : IntsAt w (.slice A0 n0 c0) Y) (hn0 : Y.length = n0) (hm0 : n0 ≤ maxLen) (hZ : IntsAt w (.slice A1 n1 c1) Z) (hn1 : Z.length = n1) (hm1 : n1 ≤ maxLen) :
    Calls Try.prog 7 #[.agg #[.slice A0 n0 c0, e1, e2, e3, e4, e5, e6], .agg #[.slice A1 n1 c1, f1, f2, f3, f4, f5, f6]] w (RetD w true) := by
  have a0 := (Below.refl w.heap.size w).alloc (Nat.le_refl _) (.cells #[.slice A0 n0 c0, e1, e2, e3, e4, e5, e6] 32)
  have a1 := a0.alloc a0.size (.cells #[.slice A1 n1 c1, f1, f2, f3, f4, f5, f6] 32)
  have al := fun (W : World) (o : Obj) => (Below.refl W.heap.size W).alloc (Nat.le_refl _) o
  have g0 := keepL (heap_new w (.cells #[.slice A0 n0 c0, e1, e2, e3, e4, e5, e6] 32)) (al _ (.cells #[.slice A1 n1 c1, f1, f2, f3, f4, f5, f6] 32))
  have g1 := heap_new (w.alloc (.cells #[.slice A0 n0 c0, e1, e2, e3, e4, e5, e6] 32)) (.cells #[.slice A1 n1 c1, f1, f2, f3, f4, f5, f6] 32)
  simp only [World.size_alloc] at g1
  have hz : ((w.alloc (.cells #[.slice A0 n0 c0, e1, e2, e3, e4, e5, e6] 32)).alloc (.cells #[.slice A1 n1 c1, f1, f2, f3, f4, f5, f6] 32)).heap.size = w.heap.size + 2 := by simp
  have HTY := Lib.hid (fun (W : World) (hW : Below w.heap.size w W) => tree_any A0 n0 c0 Y W (hY.below hW) hn0 hm0)
  have HTZ := Lib.hid (fun (W : World) (hW : Below w.heap.size w W) => tree_any A1 n1 c1 Z W (hZ.below hW) hn1 hm1)
  clear hY hZ a0 al hn0 hm0 hn1 hm1
  have HBA := Lib.hid a1; have K2 := Lib.hid g0; have K3 := Lib.hid g1
  clear a1 g0 g1
  go_enter Try.func7, Try.ntmps7
  go_upto_region 1 with fail
  generalize (w.alloc (.cells #[.slice A0 n0 c0, e1, e2, e3, e4, e5, e6] 32)).alloc (.cells #[.slice A1 n1 c1, f1, f2, f3, f4, f5, f6] 32) = wc at *
  have HTYc := Lib.hid (show ∀ W, Below wc.heap.size wc W → Calls Try.prog 12 #[.slice A0 n0 c0] W (RetMs W) from fun W hW => (HTY.out W (HBA.out.trans (hW.mono HBA.out.size))).mono fun _ _ h => RetMk.s h)
  have HTZc := Lib.hid (show ∀ W, Below wc.heap.size wc W → Calls Try.prog 12 #[.slice A1 n1 c1] W (RetMs W) from fun W hW => (HTZ.out W (HBA.out.trans (hW.mono HBA.out.size))).mono fun _ _ h => RetMk.s h)
  clear HTY HTZ
  have hwc := HBA.out.size
  have hl3 := lt_of_heap K3.out
  clear hz
  go_cut [5, 6] from 10 to 15 (fun v9 v10 wd => ∃ (k9 k10 : Nat) (T1 T2 : Tree) (B1 : Option Addr) (d1 : Nat) (B2 : Option Addr) (d2 : Nat), v9 = .pointer (some ⟨k9, 0, none⟩) ∧ v10 = .pointer (some ⟨k10, 0, none⟩) ∧ Hid (Mk T1) ∧ Hid (Mk T2) ∧ size T1 ≤ 47 ∧ size T2 ≤ 47 ∧ Hid (Nr wd B1 (flat 0 (num 0 T1))) ∧ Hid (Nr wd B2 (flat 0 (num 0 T2))) ∧ Hid (wd.heap[k9]? = some (.cells #[.slice B1 (size T1) d1] 24)) ∧ Hid (wd.heap[k10]? = some (.cells #[.slice B2 (size T2) d2] 24)) ∧ Hid (Below wc.heap.size wc wd))
  case first =>
    rename_i JJ KK hJJ hKK
    have s2 : wc.cell? ⟨w.heap.size, 0, none⟩ = some (.slice A0 n0 c0) := by rw [cell_of_row _ (w.heap.size) 0 _ _ _ K2.out]; rfl
    have s3 : wc.cell? ⟨w.heap.size + 1, 0, none⟩ = some (.slice A1 n1 c1) := by rw [cell_of_row _ (w.heap.size + 1) 0 _ _ _ K3.out]; rfl
    have HSF := Lib.hid (show ∀ W, Below wc.heap.size wc W → ((W.cell? ⟨w.heap.size, 0, none⟩ = some (.slice A0 n0 c0) ∧ W.cell? ⟨w.heap.size + 1, 0, none⟩ = some (.slice A1 n1 c1)) ∧ Below wc.heap.size wc W) from fun W hW => ⟨⟨(hW.cell (p := ⟨w.heap.size, 0, none⟩) (by show w.heap.size < wc.heap.size; omega)).trans s2, (hW.cell (p := ⟨w.heap.size + 1, 0, none⟩) (by show w.heap.size + 1 < wc.heap.size; omega)).trans s3⟩, hW⟩)
    clear s2 s3
    have al := fun (W : World) (o : Obj) => (Below.refl W.heap.size W).alloc (Nat.le_refl _) o
    go_region_held3 (fun W => (W.cell? ⟨w.heap.size, 0, none⟩ = some (.slice A0 n0 c0) ∧ W.cell? ⟨w.heap.size + 1, 0, none⟩ = some (.slice A1 n1 c1)) ∧ Below wc.heap.size wc W) (first
      | exact HSF.out _ (Below.refl _ _).drew
      | exact HSF.out _ (S.bel_trans (held3 (by assumption)) (by assumption))
      | exact HSF.out _ (bel_alloc (held3 (by assumption)) _)
      | exact HSF.out _ (bel_alloc (bel_alloc HQ2.out _) _)
      | exact HSF.out _ (bel_alloc HQ2.out _)
      | exact HSF.out _ (bel_set HQ2.out (by have := HQ1.out.size; have := HQ2.out.size; first | omega | (simp; omega)) _)
      | exact HSF.out _ (bel_set (bel_set HQ2.out (by have := HQ1.out.size; have := HQ2.out.size; first | omega | (simp; omega)) _) (by have := HQ1.out.size; have := HQ2.out.size; first | omega | (simp; omega)) _)
      | exact HSF.out _ (bel_set (bel_alloc HQ2.out _) (by have := HQ1.out.size; have := HQ2.out.size; first | omega | (simp; omega)) _)
      | exact HSF.out _ (bel_set (bel_set (bel_alloc HQ2.out _) (by have := HQ1.out.size; have := HQ2.out.size; first | omega | (simp; omega)) _) (by have := HQ1.out.size; have := HQ2.out.size; first | omega | (simp; omega)) _)
      | fail) (first
      | (go_at_call 12; (with_reducible refine (HTYc.out _ (held3 (by assumption))).mono ?_); rintro e w1 ⟨T1, hM1, hs1, B1, d1, rfl, hN1, hA1, hb1⟩; have HQ1 := Lib.hid (S.bel_trans (held3 (by assumption)) hb1); (try (have z1 : w1.heap[wc.heap.size]? = some (.cells #[.slice none 0 0] 24) := keepL (show (wc.alloc (.cells #[.slice none 0 0] 24)).drew.heap[wc.heap.size]? = some (.cells #[.slice none 0 0] 24) from heap_new _ _) hb1; have zn1 := Nat.ne_of_lt (lt_of_heap z1); have zm1 := Ne.symm zn1)); (try (have z2 : w1.heap[wc.heap.size]? = some (.cells #[.slice none 0 0] 24) := keepL (show ((wc.alloc (.cells #[.slice none 0 0] 24)).alloc (.cells #[.slice none 0 0] 24)).drew.heap[wc.heap.size]? = some (.cells #[.slice none 0 0] 24) from (show ((wc.alloc (.cells #[.slice none 0 0] 24)).alloc (.cells #[.slice none 0 0] 24)).heap[wc.heap.size]? = some (.cells #[.slice none 0 0] 24) from keepL (heap_new _ _) (al _ _))) hb1; have z3 : w1.heap[wc.heap.size + 1]? = some (.cells #[.slice none 0 0] 24) := keepL (show ((wc.alloc (.cells #[.slice none 0 0] 24)).alloc (.cells #[.slice none 0 0] 24)).drew.heap[wc.heap.size + 1]? = some (.cells #[.slice none 0 0] 24) from (show ((wc.alloc (.cells #[.slice none 0 0] 24)).alloc (.cells #[.slice none 0 0] 24)).heap[wc.heap.size + 1]? = some (.cells #[.slice none 0 0] 24) from (by have h := heap_new (wc.alloc (.cells #[.slice none 0 0] 24)) (.cells #[.slice none 0 0] 24); rw [World.size_alloc] at h; exact h))) hb1)))
      | (go_at_call 12; (with_reducible refine (HTZc.out _ (held3 (by assumption))).mono ?_); rintro e w2 ⟨T2, hM2, hs2, B2, d2, rfl, hN2, hA2, hb2⟩; have HQ2 := Lib.hid (S.bel_trans (held3 (by assumption)) hb2); have hw12 : Below w1.heap.size w1 w2 := (by first | exact hb2 | exact S.bel_trans (al _ _) hb2 | exact S.bel_trans (S.bel_trans (al _ _) (al _ _)) hb2); (try (have y1 : w2.heap[wc.heap.size]? = some (.cells #[.slice none 0 0] 24) := (by first | exact keepL z1 hb2 | exact keepL (keepL z1 (al _ _)) hb2); obtain ⟨y1c, y1f⟩ := obj29 y1; obtain ⟨y1d, y1g⟩ := obj29 (keepL y1 (al w2 (.cells #[.slice none 0 0] 24))); obtain ⟨y1e, y1h⟩ := obj29 (keepL y1 (al w2 (.cells #[.slice B1 (size T1) d1] 24))); have y1n := Nat.ne_of_lt (lt_of_heap y1); have y1m := Ne.symm y1n)); (try (have y2 : w2.heap[wc.heap.size]? = some (.cells #[.slice none 0 0] 24) := (by first | exact keepL z2 hb2 | exact keepL (keepL z2 (al _ _)) hb2); obtain ⟨y2c, y2f⟩ := obj29 y2; obtain ⟨y2d, y2g⟩ := obj29 (keepL y2 (al w2 (.cells #[.slice none 0 0] 24))); obtain ⟨y2e, y2h⟩ := obj29 (keepL y2 (al w2 (.cells #[.slice B1 (size T1) d1] 24))); have y2n := Nat.ne_of_lt (lt_of_heap y2); have y2m := Ne.symm y2n)); (try (have y3 : w2.heap[wc.heap.size + 1]? = some (.cells #[.slice none 0 0] 24) := (by first | exact keepL z3 hb2 | exact keepL (keepL z3 (al _ _)) hb2); obtain ⟨y3c, y3f⟩ := obj29 y3; obtain ⟨y3d, y3g⟩ := obj29 (keepL y3 (al w2 (.cells #[.slice none 0 0] 24))); obtain ⟨y3e, y3h⟩ := obj29 (keepL y3 (al w2 (.cells #[.slice B1 (size T1) d1] 24))); have y3n := Nat.ne_of_lt (lt_of_heap y3); have y3m := Ne.symm y3n)); (try (have x1 : w2.heap[w1.heap.size]? = some (.cells #[.slice none 0 0] 24) := keepL (heap_new _ _) hb2; obtain ⟨x1c, x1f⟩ := obj29 x1; obtain ⟨x1d, x1g⟩ := obj29 (keepL x1 (al w2 (.cells #[.slice none 0 0] 24))); obtain ⟨x1e, x1h⟩ := obj29 (keepL x1 (al w2 (.cells #[.slice B1 (size T1) d1] 24))); have x1n := Nat.ne_of_lt (lt_of_heap x1); have x1m := Ne.symm x1n)); (try (have x2 : w2.heap[w1.heap.size]? = some (.cells #[.slice none 0 0] 24) := keepL (keepL (heap_new _ _) (al _ _)) hb2; obtain ⟨x2c, x2f⟩ := obj29 x2; obtain ⟨x2d, x2g⟩ := obj29 (keepL x2 (al w2 (.cells #[.slice none 0 0] 24))); obtain ⟨x2e, x2h⟩ := obj29 (keepL x2 (al w2 (.cells #[.slice B1 (size T1) d1] 24))); have x2n := Nat.ne_of_lt (lt_of_heap x2); have x2m := Ne.symm x2n; have x3 : w2.heap[w1.heap.size + 1]? = some (.cells #[.slice none 0 0] 24) := (by have h := keepL (heap_new (World.alloc _ _) _) hb2; rw [World.size_alloc] at h; exact h); obtain ⟨x3c, x3f⟩ := obj29 x3; obtain ⟨x3d, x3g⟩ := obj29 (keepL x3 (al w2 (.cells #[.slice none 0 0] 24))); obtain ⟨x3e, x3h⟩ := obj29 (keepL x3 (al w2 (.cells #[.slice B1 (size T1) d1] 24))); have x3n := Nat.ne_of_lt (lt_of_heap x3); have x3m := Ne.symm x3n)); have ht1 := HQ1.out.size; have ht2 := hb2.size; have ht3 := HQ2.out.size)
      | fail)
    all_goals
      have hN1' := hN1.below hw12
      refine hKK _ _ (Met.intro (hJJ _ _ ⟨_, _, _, _, _, _, _, _, ⟨_, _, T1, T2, B1, d1, B2, d2, rfl, rfl, Lib.hid hM1, Lib.hid hM2, hs1, hs2, two_done ?_ ?_ ?_ HQ2.out hN1' hN2⟩, rfl⟩))
      · with_reducible first
        | exact two_f1 _ _ _
        | exact two_f2 _ _ _
        | exact two_f3 (by assumption) _ _
        | exact two_f5 (by assumption) _ _
        | exact two_f4 (by first | exact Nat.ne_of_lt (Nat.lt_add_one _) | exact Nat.ne_of_gt (Nat.lt_add_one _) | exact zn1 | exact zm1) (by assumption) (by assumption) _ _
      · with_reducible first | exact Nat.le_refl _ | exact Nat.le_add_right _ 1 | exact ht1 | exact Nat.le_trans ht1 (Nat.le_add_right _ 1) | exact ht3 | exact Nat.le_trans ht3 (Nat.le_add_right _ 1)
      · with_reducible first | exact Nat.le_refl _ | exact Nat.le_add_right _ 1 | exact ht1 | exact Nat.le_trans ht1 (Nat.le_add_right _ 1) | exact ht3 | exact Nat.le_trans ht3 (Nat.le_add_right _ 1)
  case rest =>
    obtain ⟨k5, k6, T1, T2, B1, d1, B2, d2, rfl, rfl, HM1, HM2, hs1, hs2, HN1, HN2, K5, K6, HBC⟩ := hcut
    have HBW := Lib.hid (HBA.out.trans (HBC.out.mono HBA.out.size))
    clear HTYc HTZc K2 K3 HBA HBC hwc hl3
    have HMU := Lib.hid (show Mk (.two ⟨5, 0, 0, [], 0, 0, 0⟩ (num 0 T1) (num 0 T2)) from ⟨⟨.inl rfl, by unfold Fine; exact ⟨rfl, rfl, rfl, rfl⟩⟩, num_mk T1 0 HM1.out, num_mk T2 0 HM2.out⟩)
    have HMV := Lib.hid (show Mk (.one ⟨8, 0, 0, [], 0, 0, 0⟩ (num 0 T1)) from ⟨.inr (.inl ⟨rfl, rfl, rfl, rfl, rfl⟩), num_mk T1 0 HM1.out⟩)
    obtain ⟨U, hU⟩ : ∃ U : Tree, Tree.two ⟨5, 0, 0, [], 0, 0, 0⟩ (num 0 T1) (num 0 T2) = U := ⟨_, rfl⟩
    obtain ⟨V, hV⟩ : ∃ V : Tree, Tree.one ⟨8, 0, 0, [], 0, 0, 0⟩ (num 0 T1) = V := ⟨_, rfl⟩
    have hsU : size U = size T1 + size T2 + 1 := by rw [← hU]; simp only [size, num_size]
    have hsV : size V = size T1 + 1 := by rw [← hV]; simp only [size, num_size]
    have H20 := Lib.hid (show ∀ W, Nr W B1 (flat 0 (num 0 T1)) → Nr W B2 (flat 0 (num 0 T2)) → Calls Try.prog 20 #[.int .i64 5, tr B1 (size T1) d1, tr B2 (size T2) d2] W (RetTm W (flat 0 U) (size U)) from fun W h1 h2 => by
      have h := two_ab 5 (num 0 T1) (num 0 T2) (num_mk T2 0 HM2.out) (by rw [num_size]; omega) (by rw [num_size]; omega) B1 B2 d1 d2 W h1 (nr_none h1) h2 (nr_none h2)
      rw [num_size, num_size, hU] at h; exact h)
    have H21 := Lib.hid (show ∀ W, Nr W B1 (flat 0 (num 0 T1)) → Calls Try.prog 21 #[nv ⟨8, 0, 0, [], 0, 0, 0⟩ (.slice none 0 0), tr B1 (size T1) d1] W (RetTm W (flat 0 V) (size V)) from fun W h1 => by
      have h := one_ab ⟨8, 0, 0, [], 0, 0, 0⟩ rfl (num 0 T1) (by rw [num_size]; omega) B1 d1 W h1 (nr_none h1)
      rw [num_size, hV] at h; exact h)
    rw [hU] at HMU
    rw [hV] at HMV
    have H19U := Lib.hid (show ∀ (A : Option Addr) (c : Nat) W, Nr W A (flat 0 U) → Calls Try.prog 19 #[tr A (size U) c] W (RetTm W (flat 0 (num 0 U)) (size U)) from fun A c W h => (number_any U A (size U) c W (Mk.ok U HMU.out) h (nr_none h) rfl (by omega)).mono fun _ _ h => RetTr.m h (by rw [flat_len, num_size]))
    have H19V := Lib.hid (show ∀ (A : Option Addr) (c : Nat) W, Nr W A (flat 0 V) → Calls Try.prog 19 #[tr A (size V) c] W (RetTm W (flat 0 (num 0 V)) (size V)) from fun A c W h => (number_any V A (size V) c W (Mk.ok V HMV.out) h (nr_none h) rfl (by omega)).mono fun _ _ h => RetTr.m h (by rw [flat_len, num_size]))
    have HGU := Lib.hid (mk_good' HMU.out (by omega))
    have HGV := Lib.hid (mk_good' HMV.out (by omega))
    have HNS := Lib.hid (two_rows (num_ok T1 0 (Mk.ok T1 HM1.out)) (num_ok T2 0 (Mk.ok T2 HM2.out)))
    have S6 := fun (T : Tree) (h : Mk T) => (show ∀ x ∈ flat 0 (num 0 T), x.set.length ≤ 1000000 from flat_small _ 0 (num_mk T 0 h))
    have HSU := Lib.hid (S6 U HMU.out); have HSV := Lib.hid (S6 V HMV.out); have HS1 := Lib.hid (S6 T1 HM1.out); have HS2 := Lib.hid (S6 T2 HM2.out)
    clear S6
    have ck : ∀ kd : Int, (kdsOf U).count kd = (kdsOf T1).count kd + (kdsOf T2).count kd + (if kd = 5 then 1 else 0) := fun kd => by
      rw [← hU]; simp only [kdsOf, kds_num, List.count_append, List.count_cons, List.count_nil]
      by_cases h : kd = 5
      · subst h; simp
      · rw [if_neg h]; simp; intro h'; exact h h'.symm
    have dk : ∀ kd : Int, (kdsOf V).count kd = (kdsOf T1).count kd + (if kd = 8 then 1 else 0) := fun kd => by
      rw [← hV]; simp only [kdsOf, kds_num, List.count_append, List.count_cons, List.count_nil]
      by_cases h : kd = 8
      · subst h; simp
      · rw [if_neg h]; simp; intro h'; exact h h'.symm
    have HK8 := Lib.hid (show (idx 8 (flat 0 (num 0 U)) (size U)).length = (idx 8 (flat 0 (num 0 T1)) (size T1)).length + (idx 8 (flat 0 (num 0 T2)) (size T2)).length by
      rw [idx_kds 8 U 0 0 _ rfl, idx_kds 8 T1 0 0 _ rfl, idx_kds 8 T2 0 0 _ rfl, ck 8]; simp)
    have HK2 := Lib.hid (show (idx 2 (flat 0 (num 0 U)) (size U)).length = (idx 2 (flat 0 (num 0 T1)) (size T1)).length + (idx 2 (flat 0 (num 0 T2)) (size T2)).length by
      rw [idx_kds 2 U 0 0 _ rfl, idx_kds 2 T1 0 0 _ rfl, idx_kds 2 T2 0 0 _ rfl, ck 2]; simp)
    have HD8 := Lib.hid (show (idx 8 (flat 0 (num 0 V)) (size V)).length = (idx 8 (flat 0 (num 0 T1)) (size T1)).length + 1 by
      rw [idx_kds 8 V 0 0 _ rfl, idx_kds 8 T1 0 0 _ rfl, dk 8]; simp)
    clear ck dk hU hV HMU HMV HM1 HM2
    have fl := fun (T : Tree) => (show (flat 0 (num 0 T)).length = size T by rw [flat_len, num_size])
    have HLU := Lib.hid (fl U); have HLV := Lib.hid (fl V); have HL1 := Lib.hid (fl T1); have HL2 := Lib.hid (fl T2)
    clear fl
    generalize flat 0 (num 0 U) = PU at *
    generalize flat 0 (num 0 V) = PV at *
    generalize flat 0 U = QU at *
    generalize flat 0 V = QV at *
    generalize size U = u at *
    generalize size V = v at *
    have hu95 : u ≤ 95 := by omega
    have hv48 : v ≤ 48 := by omega
    clear hsU hsV
    obtain ⟨r5, _⟩ := obj29 K5.out
    obtain ⟨r6, _⟩ := obj29 K6.out
    go_upto_region 2 with fail
    go_wp2_with fail
    refine (H20.out _ HN1.out HN2.out).mono ?_
    rintro e w1 ⟨A7, c7, rfl, hN7, hA7, hb7⟩
    clear hA7
    go_wp2_with fail
    refine (H19U.out _ _ _ hN7).mono ?_
    rintro e w2 ⟨A7, c7, rfl, hN7', _, hb8⟩
    have hB2 := S.bel_trans hb7 hb8
    have al2 := (Below.refl w2.heap.size w2).alloc (Nat.le_refl _) (.cells #[.slice A7 u c7] 24)
    have hB3 := S.bel_trans hB2 al2
    have K7 := Lib.hid (heap_new w2 (.cells #[.slice A7 u c7] 24))
    have K5 := Lib.hid (keepL K5.out hB3)
    have K6 := Lib.hid (keepL K6.out hB3)
    have HN1 := Lib.hid (HN1.out.below hB3)
    have HN2 := Lib.hid (HN2.out.below hB3)
    have HN7 := Lib.hid (hN7'.below al2)
    have HBW := Lib.hid (HBW.out.trans (hB3.mono HBW.out.size))
    clear hN7 hb7 hb8 hB2 hN7' al2 hB3 r5 r6
    go_upto_region 3 with fail
    generalize w2.alloc (.cells #[.slice A7 u c7] 24) = w3 at *
    generalize w2.heap.size = k7 at *
    clear w2 w1
    obtain ⟨r5, _⟩ := obj29 K5.out
    go_wp2_with fail
    refine (H21.out _ HN1.out).mono ?_
    rintro e w4 ⟨A8, c8, rfl, hN8, _, hb4⟩
    go_wp2_with fail
    refine (H19V.out _ _ _ hN8).mono ?_
    rintro e w5 ⟨A8, c8, rfl, hN8', _, hb5⟩
    have hB2 := S.bel_trans hb4 hb5
    have al2 := (Below.refl w5.heap.size w5).alloc (Nat.le_refl _) (.cells #[.slice A8 v c8] 24)
    have hB3 := S.bel_trans hB2 al2
    have K8 := Lib.hid (heap_new w5 (.cells #[.slice A8 v c8] 24))
    have K5 := Lib.hid (keepL K5.out hB3)
    have K6 := Lib.hid (keepL K6.out hB3)
    have K7 := Lib.hid (keepL K7.out hB3)
    have HN1 := Lib.hid (HN1.out.below hB3)
    have HN2 := Lib.hid (HN2.out.below hB3)
    have HN7 := Lib.hid (HN7.out.below hB3)
    have HN8 := Lib.hid (hN8'.below al2)
    have HBW := Lib.hid (HBW.out.trans (hB3.mono HBW.out.size))
    clear hN8 hb4 hb5 hB2 hN8' al2 hB3 r5
    go_upto_region 4 with fail
    generalize w5.alloc (.cells #[.slice A8 v c8] 24) = X at *
    generalize w5.heap.size = k8 at *
    have HA1 := Lib.hid (nr_none (c := d1) HN1.out); have HA2 := Lib.hid (nr_none (c := d2) HN2.out)
    generalize flat 0 (num 0 T1) = L1 at *
    generalize flat 0 (num 0 T2) = L2 at *
    generalize size T1 = q1 at *
    generalize size T2 = q2 at *
    have hk5 := lt_of_heap K5.out; have hk6 := lt_of_heap K6.out
    clear H20 H21 H19U H19V
    go_cut [9] from 24 to 31 (fun v9 wd => ∃ (k9 : Nat) (A9 : Option Addr) (c9 : Nat), v9 = .pointer (some ⟨k9, 0, none⟩) ∧ Hid (wd.heap[k9]? = some (.cells #[.slice A9 (q1 + q2) c9] 24)) ∧ Hid (Nr wd A9 (L1 ++ L2)) ∧ Hid (Below X.heap.size X wd))
    case first =>
      rename_i JJ KK hJJ hKK
      have HSF := Lib.hid (show ∀ W, Below X.heap.size X W → ((W.cell? ⟨k5, 0, none⟩ = some (.slice B1 q1 d1) ∧ W.cell? ⟨k6, 0, none⟩ = some (.slice B2 q2 d2)) ∧ Below X.heap.size X W) from fun W hW => ⟨⟨(hW.cell (p := ⟨k5, 0, none⟩) hk5).trans (blk1 K5.out), (hW.cell (p := ⟨k6, 0, none⟩) hk6).trans (blk1 K6.out)⟩, hW⟩)
      have al := fun (W : World) (o : Obj) => (Below.refl W.heap.size W).alloc (Nat.le_refl _) o
      have HE1 := Lib.hid (show Below X.heap.size X (X.alloc (.cells #[] 35)).drew from (al _ _).drew)
      have HE2 := Lib.hid (show Below X.heap.size X ((X.alloc (.cells #[] 35)).alloc (.cells #[.slice none 0 0] 24)).drew from (bel_alloc (al _ _) _).drew)
      have HE3 := Lib.hid (show Below X.heap.size X ((X.alloc (.cells #[.slice none 0 0] 24)).alloc (.cells #[] 35)).drew from (bel_alloc (al _ _) _).drew)
      have NE1 := Lib.hid (show Nk (X.alloc (.cells #[] 35)).drew X.heap.size (.slice (some ⟨X.heap.size, 0, none⟩) 0 0) [] from (Nk.empty rfl (Nat.le_refl _)).below (by simp) (Below.refl _ _).drew)
      have NE2 := Lib.hid (show Nk ((X.alloc (.cells #[] 35)).alloc (.cells #[.slice none 0 0] 24)).drew X.heap.size (.slice (some ⟨X.heap.size, 0, none⟩) 0 0) [] from ((Nk.empty rfl (Nat.le_refl _)).below (by simp) (al _ _)).below (by simp; omega) (Below.refl _ _).drew)
      have NE3 := Lib.hid (show Nk ((X.alloc (.cells #[.slice none 0 0] 24)).alloc (.cells #[] 35)).drew X.heap.size (.slice (some ⟨X.heap.size + 1, 0, none⟩) 0 0) [] from (Nk.empty (by simp) (by omega)).below (by simp; omega) (Below.refl _ _).drew)
      have LE2 := Lib.hid (show ((X.alloc (.cells #[] 35)).alloc (.cells #[.slice none 0 0] 24)).drew.heap[X.heap.size + 1]? = some (.cells #[.slice none 0 0] 24) from (by have h := heap_new (X.alloc (.cells #[] 35)) (.cells #[.slice none 0 0] 24); rw [World.size_alloc] at h; exact h))
      have LE3 := Lib.hid (show ((X.alloc (.cells #[.slice none 0 0] 24)).alloc (.cells #[] 35)).drew.heap[X.heap.size]? = some (.cells #[.slice none 0 0] 24) from (show ((X.alloc (.cells #[.slice none 0 0] 24)).alloc (.cells #[] 35)).heap[X.heap.size]? = some (.cells #[.slice none 0 0] 24) from keepL (heap_new _ _) (al _ _)))
      have HLL := Lib.hid (show (L1 ++ L2).length = q1 + q2 by rw [List.length_append, HL1.out, HL2.out])
      have HQ := Lib.hid (show q1 ≤ 1000 ∧ L1.length + q2 ≤ 100000 by have := HL1.out; omega)
      go_region_held3 (fun W => (W.cell? ⟨k5, 0, none⟩ = some (.slice B1 q1 d1) ∧ W.cell? ⟨k6, 0, none⟩ = some (.slice B2 q2 d2)) ∧ Below X.heap.size X W) (first
        | exact HSF.out _ (Below.refl _ _).drew
        | exact HSF.out _ hb2
        | exact HSF.out _ (bel_alloc hb2 _)
        | exact HSF.out _ (bel_set hb2 hk9 _)
        | exact HSF.out _ hb1
        | exact HSF.out _ (bel_alloc hb1 _)
        | exact HSF.out _ (bel_alloc (held3 (by assumption)) _)
        | exact HSF.out _ HE1.out
        | exact HSF.out _ HE2.out
        | exact HSF.out _ HE3.out
        | fail) (first
        | (refine step_append_nk (by rfl) ?_; refine wp_append_nk _ _ rfl X.heap.size v1 L1 L2 q2 rfl hn1 B2 d2 HL2.out rfl (Sc.of HN2.out HA2.out hb1) HQ.out.2 X.heap.size (Nat.le_refl _) hb1.size hv1 ?_; intro v2 V2 hn2 hv2 hg2; obtain ⟨A9, c9, e9⟩ := hn2.shape; rw [HLL.out] at e9; subst e9; have hb2 : Below X.heap.size X V2 := hb1.trans (below_grown hg2 hb1.size hv1); (try (have z2 := keepG z1 hg2 (hn1.ne z1); obtain ⟨zc2, zf2⟩ := obj29 z2)))
        | (refine step_append_nk (by rfl) ?_; refine wp_append_nk _ _ rfl X.heap.size v1 L1 L2 q2 rfl (hn1.below hb1.size (al _ _)) B2 d2 HL2.out rfl (Sc.of HN2.out HA2.out (bel_alloc hb1 _)) HQ.out.2 X.heap.size (Nat.le_refl _) (bel_alloc hb1 (.cells #[.slice none 0 0] 24)).size hv1 ?_; intro v2 V2 hn2 hv2 hg2; obtain ⟨A9, c9, e9⟩ := hn2.shape; rw [HLL.out] at e9; subst e9; have hb2 : Below X.heap.size X V2 := (bel_alloc hb1 (.cells #[.slice none 0 0] 24)).trans (below_grown hg2 (bel_alloc hb1 (.cells #[.slice none 0 0] 24)).size hv1); have hk9 := hb1.size; have z2 := keepG (heap_new V1 (.cells #[.slice none 0 0] 24)) hg2 ((hn1.below hb1.size (al _ _)).ne (heap_new V1 (.cells #[.slice none 0 0] 24))); obtain ⟨zc2, zf2⟩ := obj29 z2)
        | (refine step_append_nk (by rfl) ?_; refine wp_append_nk _ _ rfl X.heap.size _ [] L1 q1 rfl NE1.out B1 d1 HL1.out rfl (Sc.of HN1.out HA1.out HE1.out) (by simp; omega) X.heap.size (Nat.le_refl _) HE1.out.size (fun k hk => by injection hk with hk; simp at hk; omega) ?_; intro v1 V1 hn1 hv1 hg1; have hb1 : Below X.heap.size X V1 := HE1.out.trans (below_grown hg1 HE1.out.size (fun k hk => by injection hk with hk; simp at hk; omega)); rw [List.nil_append] at hn1)
        | (refine step_append_nk (by rfl) ?_; refine wp_append_nk _ _ rfl X.heap.size _ [] L1 q1 rfl NE2.out B1 d1 HL1.out rfl (Sc.of HN1.out HA1.out HE2.out) (by simp; omega) X.heap.size (Nat.le_refl _) HE2.out.size (fun k hk => by injection hk with hk; simp at hk; omega) ?_; intro v1 V1 hn1 hv1 hg1; have hb1 : Below X.heap.size X V1 := HE2.out.trans (below_grown hg1 HE2.out.size (fun k hk => by injection hk with hk; simp at hk; omega)); rw [List.nil_append] at hn1; have z1 := keepG LE2.out hg1 (fun g hg => by injection hg with hg; simp at hg; omega); have hk9 : X.heap.size ≤ X.heap.size + 1 := Nat.le_add_right _ 1)
        | (refine step_append_nk (by rfl) ?_; refine wp_append_nk _ _ rfl X.heap.size _ [] L1 q1 rfl NE3.out B1 d1 HL1.out rfl (Sc.of HN1.out HA1.out HE3.out) (by simp; omega) X.heap.size (Nat.le_refl _) HE3.out.size (fun k hk => by injection hk with hk; simp at hk; omega) ?_; intro v1 V1 hn1 hv1 hg1; have hb1 : Below X.heap.size X V1 := HE3.out.trans (below_grown hg1 HE3.out.size (fun k hk => by injection hk with hk; simp at hk; omega)); rw [List.nil_append] at hn1; have z1 := keepG LE3.out hg1 (fun g hg => by injection hg with hg; simp at hg; omega); have hk9 : X.heap.size ≤ X.heap.size := Nat.le_refl _)
        | fail)
      all_goals
        have hNV := hn2.reads hb2.size
        first
        | exact hKK _ _ (Met.intro (hJJ _ _ ⟨_, _, _, _, _, _, _, _, _, ⟨_, A9, c9, rfl, Lib.hid (set_same z2 _), Lib.hid (nr_set1 z2 hNV _), Lib.hid (bel_set hb2 hk9 _)⟩, rfl⟩))
        | exact hKK _ _ (Met.intro (hJJ _ _ ⟨_, _, _, _, _, _, _, _, _, ⟨_, A9, c9, rfl, Lib.hid (heap_new _ _), Lib.hid (hNV.below (al _ _)), Lib.hid (bel_alloc hb2 _)⟩, rfl⟩))
    case rest =>
      obtain ⟨k9, A9, c9, rfl, K9, HN9, HBX⟩ := hcut
      have HBW := Lib.hid (HBW.out.trans (HBX.out.mono HBW.out.size))
      have K5 := Lib.hid (keepL K5.out HBX.out)
      have K6 := Lib.hid (keepL K6.out HBX.out)
      have K7 := Lib.hid (keepL K7.out HBX.out)
      have K8 := Lib.hid (keepL K8.out HBX.out)
      have HN1 := Lib.hid (HN1.out.below HBX.out)
      have HN2 := Lib.hid (HN2.out.below HBX.out)
      have HN7 := Lib.hid (HN7.out.below HBX.out)
      have HN8 := Lib.hid (HN8.out.below HBX.out)
      go_upto_region 5 with fail
      have hk5 := lt_of_heap K5.out; have hk6 := lt_of_heap K6.out; have hk7 := lt_of_heap K7.out; have hk8 := lt_of_heap K8.out; have hk9 := lt_of_heap K9.out
      have HSF := Lib.hid (show ∀ W, Below wc.heap.size wc W → ((W.cell? ⟨k5, 0, none⟩ = some (.slice B1 q1 d1) ∧ W.cell? ⟨k6, 0, none⟩ = some (.slice B2 q2 d2) ∧ W.cell? ⟨k7, 0, none⟩ = some (.slice A7 u c7) ∧ W.cell? ⟨k8, 0, none⟩ = some (.slice A8 v c8) ∧ W.cell? ⟨k9, 0, none⟩ = some (.slice A9 (q1 + q2) c9)) ∧ Below wc.heap.size wc W) from fun W hW => ⟨⟨(hW.cell (p := ⟨k5, 0, none⟩) hk5).trans (blk1 K5.out), (hW.cell (p := ⟨k6, 0, none⟩) hk6).trans (blk1 K6.out), (hW.cell (p := ⟨k7, 0, none⟩) hk7).trans (blk1 K7.out), (hW.cell (p := ⟨k8, 0, none⟩) hk8).trans (blk1 K8.out), (hW.cell (p := ⟨k9, 0, none⟩) hk9).trans (blk1 K9.out)⟩, hW⟩)
      have H13U := Lib.hid (show ∀ W, Below wc.heap.size wc W → Calls Try.prog 13 #[tr A7 u c7] W (RetD W true) from fun W hW => (tgood_any A7 u c7 PU W (HN7.out.below hW) HLU.out (by omega) HSU.out).mono fun _ _ h => RetB.yes h HGU.out)
      have H13V := Lib.hid (show ∀ W, Below wc.heap.size wc W → Calls Try.prog 13 #[tr A8 v c8] W (RetD W true) from fun W hW => (tgood_any A8 v c8 PV W (HN8.out.below hW) HLV.out (by omega) HSV.out).mono fun _ _ h => RetB.yes h HGV.out)
      have H22 := Lib.hid (show ∀ W, Below wc.heap.size wc W → Calls Try.prog 22 #[tr A9 (q1 + q2) c9] W (RetD W false) from fun W hW => (tsound_any A9 (q1 + q2) c9 (L1 ++ L2) W (HN9.out.below hW) (by rw [List.length_append, HL1.out, HL2.out]) (by omega) (fun x hx => by rcases List.mem_append.1 hx with h | h; exact HS1.out x h; exact HS2.out x h)).mono fun _ _ h => RetB.no h HNS.out)
      obtain ⟨na, hna⟩ : ∃ n, (idx 8 L1 q1).length = n := ⟨_, rfl⟩
      obtain ⟨nb, hnb⟩ : ∃ n, (idx 8 L2 q2).length = n := ⟨_, rfl⟩
      obtain ⟨nc, hnc⟩ : ∃ n, (idx 8 PU u).length = n := ⟨_, rfl⟩
      obtain ⟨nd, hnd⟩ : ∃ n, (idx 8 PV v).length = n := ⟨_, rfl⟩
      obtain ⟨la, hla⟩ : ∃ n, (idx 2 L1 q1).length = n := ⟨_, rfl⟩
      obtain ⟨lb, hlb⟩ : ∃ n, (idx 2 L2 q2).length = n := ⟨_, rfl⟩
      obtain ⟨lc, hlc⟩ : ∃ n, (idx 2 PU u).length = n := ⟨_, rfl⟩
      have hw8 := HK8.out; have hw2 := HK2.out; have hd8 := HD8.out
      have b1 := idx_len 8 L1 q1; have b2 := idx_len 8 L2 q2; have b3 := idx_len 2 L1 q1; have b4 := idx_len 2 L2 q2
      rw [hna, hnb, hnc] at hw8
      rw [hla, hlb, hlc] at hw2
      rw [hna, hnd] at hd8
      rw [hna] at b1
      rw [hnb] at b2
      rw [hla] at b3
      rw [hlb] at b4
      have HEW := Lib.hid (show IntKind.i64.wrap ((na : Int) + (nb : Int)) = (nc : Int) ∧ IntKind.i64.wrap ((na : Int) + 1) = (nd : Int) ∧ IntKind.i64.wrap ((la : Int) + (lb : Int)) = (lc : Int) by
        refine ⟨?_, ?_, ?_⟩
        · rw [IntWalk.i64_in _ (by omega)]; omega
        · rw [IntWalk.i64_in _ (by omega)]; omega
        · rw [IntWalk.i64_in _ (by omega)]; omega)
      have caps := fun (A : Option Addr) (n c : Nat) (L : List Nd) (k : Nat) (h : Nr wc A L) (hl : L.length = n) (hb : n ≤ 20000) (hk : (idx 8 L n).length = k) => (show ∀ W, Below wc.heap.size wc W → Calls Try.prog 23 #[tr A n c] W (fun e w' => e = .returned (.int .i64 (k : Int)) ∧ Below W.heap.size W w') from fun W hW => (tcaps_any A n c L W (h.below hW) hl hb).mono fun _ _ h => by rw [hk] at h; exact h)
      have lvs := fun (A : Option Addr) (n c : Nat) (L : List Nd) (k : Nat) (h : Nr wc A L) (hl : L.length = n) (hb : n ≤ 20000) (hk : (idx 2 L n).length = k) => (show ∀ W, Below wc.heap.size wc W → Calls Try.prog 24 #[tr A n c] W (RetLn k W) from fun W hW => (tleaves_any A n c L W (h.below hW) hl hb).mono fun _ _ h => RetZ.ln h hk)
      have C1 := Lib.hid (caps B1 q1 d1 L1 na HN1.out HL1.out (by omega) hna)
      have C2 := Lib.hid (caps B2 q2 d2 L2 nb HN2.out HL2.out (by omega) hnb)
      have C7 := Lib.hid (caps A7 u c7 PU nc HN7.out HLU.out (by omega) hnc)
      have C8 := Lib.hid (caps A8 v c8 PV nd HN8.out HLV.out (by omega) hnd)
      have V1 := Lib.hid (lvs B1 q1 d1 L1 la HN1.out HL1.out (by omega) hla)
      have V2 := Lib.hid (lvs B2 q2 d2 L2 lb HN2.out HL2.out (by omega) hlb)
      have V7 := Lib.hid (lvs A7 u c7 PU lc HN7.out HLU.out (by omega) hlc)
      have HWK := Lib.hid (fun (W : World) => wakes_any W)
      clear caps lvs hna hnb hnc hnd hla hlb hlc hw8 hw2 hd8 b1 b2 b3 b4 HK8 HK2 HD8 HGU HGV HNS HS1 HS2 HSU HSV HN1 HN2 HN7 HN8 HN9 K5 K6 K7 K8 K9 HL1 HL2 HLU HLV HA1 HA2 hk5 hk6 hk7 hk8 hk9 hs1 hs2 hu95 hv48
      obtain ⟨ew1, ew2, ew3⟩ := HEW.out
      go_region_held3 (fun W => (W.cell? ⟨k5, 0, none⟩ = some (.slice B1 q1 d1) ∧ W.cell? ⟨k6, 0, none⟩ = some (.slice B2 q2 d2) ∧ W.cell? ⟨k7, 0, none⟩ = some (.slice A7 u c7) ∧ W.cell? ⟨k8, 0, none⟩ = some (.slice A8 v c8) ∧ W.cell? ⟨k9, 0, none⟩ = some (.slice A9 (q1 + q2) c9)) ∧ Below wc.heap.size wc W) (first | exact HSF.out _ (Below.refl _ _).drew | exact HSF.out _ (S.bel_trans (held3 (by assumption)) (by assumption)) | assumption | fail) (first
        | (go_at_call 13; (with_reducible refine (H13U.out _ (held3 (by assumption))).mono ?_); rintro e w13 ⟨rfl, hb13⟩)
        | (go_at_call 13; (with_reducible refine (H13V.out _ (held3 (by assumption))).mono ?_); rintro e w14 ⟨rfl, hb14⟩)
        | (go_at_call 22; (with_reducible refine (H22.out _ (held3 (by assumption))).mono ?_); rintro e w22 ⟨rfl, hb22⟩)
        | (go_at_call 23; (with_reducible refine (C7.out _ (held3 (by assumption))).mono ?_); rintro e w23 ⟨rfl, hb23⟩)
        | (go_at_call 23; (with_reducible refine (C1.out _ (held3 (by assumption))).mono ?_); rintro e w24 ⟨rfl, hb24⟩)
        | (go_at_call 23; (with_reducible refine (C2.out _ (held3 (by assumption))).mono ?_); rintro e w25 ⟨rfl, hb25⟩)
        | (go_at_call 23; (with_reducible refine (C8.out _ (held3 (by assumption))).mono ?_); rintro e w26 ⟨rfl, hb26⟩)
        | (go_at_call 24; (with_reducible refine (V7.out _ (held3 (by assumption))).mono ?_); rintro e w27 ⟨Z7, z7, rfl, hb27⟩)
        | (go_at_call 24; (with_reducible refine (V1.out _ (held3 (by assumption))).mono ?_); rintro e w28 ⟨Z1, z1, rfl, hb28⟩)
        | (go_at_call 24; (with_reducible refine (V2.out _ (held3 (by assumption))).mono ?_); rintro e w29 ⟨Z2, z2, rfl, hb29⟩)
        | (go_at_call 11; (with_reducible refine (HWK.out _).mono ?_); rintro e w11 ⟨rfl, hb11⟩)
        | fail)
      go_wp2_with fail
      go_ret
      exact ⟨rfl, HBW.out.trans ((held3 (by assumption)).mono HBW.out.size)⟩
end Go.Proofs.Ytceeimolfalmpaa
