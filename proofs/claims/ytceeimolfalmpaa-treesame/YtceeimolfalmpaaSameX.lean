/-
  Trees as the statements make them, more: their sets have at most six ranges, so cutting leaves them as they are; how many nodes of a kind there are; two rows beside each other are no tree. No program, no conditions.
  Cutting of what is small enough: a set of at most so many ranges, a tree whose sets have at most six (no room of the slices is asked for). Conditions as written.
  TreeSame: the walk. Conditions: the trees' slices and the cases' numbers as Go has them.
-/
import Derived.Test.YtceeimolfalmpaaXD
import Derived.Test.YtceeimolfalmpaaVY
import Derived.Test.YtceeimolfalmpaaTells
import Derived.Test.YtceeimolfalmpaaXE
namespace Go.Proofs.Ytceeimolfalmpaa
open Go.RowKit ObSets ObTree ObTree.Tree

theorem flat_six : ∀ (t : Tree) (o : Nat), Mk t → ∀ x ∈ flat o t, x.set.length ≤ 6
  | .leaf x, o, h, y, hy => by
    simp only [flat, List.mem_singleton] at hy
    subst hy
    exact h.2.2
  | .one x t, o, h, y, hy => by
    simp only [flat, List.mem_append, List.mem_singleton] at hy
    rcases hy with hy | rfl
    · exact flat_six t o h.2 y hy
    · show x.set.length ≤ _
      rcases h.1 with h7 | h8 | h9
      · have := fine_set (by rw [kids_one (.inl h7.1)]; simp) h7.2; omega
      · have := h8.2.2.2.1; omega
      · have := fine_set (by rw [kids_one (.inr (.inr h9.1))]; simp) h9.2; omega
  | .two x s t, o, h, y, hy => by
    simp only [flat, List.mem_append, List.mem_singleton] at hy
    rcases hy with hy | hy | rfl
    · exact flat_six s o h.2.1 y hy
    · exact flat_six t _ h.2.2 y hy
    · show x.set.length ≤ _
      have := fine_set (by rw [kids_two h.1.1]; simp) h.1.2; omega
theorem cut_id {L : List Nd} {most : Nat} (hl : L.length ≤ most) (h : ∀ x ∈ L, x.set.length ≤ 6) : (L.take most).map cutN = L := by
  rw [List.take_of_length_le hl]
  conv => rhs; rw [← List.map_id L]
  refine List.map_congr_left fun x hx => ?_
  unfold cutN
  rw [List.take_of_length_le (h x hx)]; rfl
/-- The kinds of a tree's nodes, in their order. -/
def kdsOf : Tree → List Int
  | .leaf x => [x.kind]
  | .one x t => kdsOf t ++ [x.kind]
  | .two x s t => kdsOf s ++ kdsOf t ++ [x.kind]
theorem kds_num : ∀ (t : Tree) (n : Nat), kdsOf (num n t) = kdsOf t
  | .leaf x, n => rfl
  | .one x t, n => by
    simp only [num]
    split
    · simp [kdsOf, kds_num t]
    · simp [kdsOf, kds_num t]
  | .two x s t, n => by simp [num, kdsOf, kds_num s, kds_num t]
theorem kds_flat : ∀ (t : Tree) (o : Nat), (flat o t).map (fun x : Nd => x.kind) = kdsOf t
  | .leaf x, o => rfl
  | .one x t, o => by simp [flat, kdsOf, kds_flat t]
  | .two x s t, o => by simp [flat, kdsOf, kds_flat s, kds_flat t]
theorem idx_count (kd : Int) (L : List Nd) : ∀ m, m ≤ L.length → (idx kd L m).length = ((L.map (fun x : Nd => x.kind)).take m).count kd
  | 0, _ => by simp [idx]
  | m + 1, h => by
    obtain ⟨x, hx⟩ : ∃ x, L[m]? = some x := ⟨_, List.getElem?_eq_getElem (by omega)⟩
    have ih := idx_count kd L m (by omega)
    rw [List.take_add_one, List.getElem?_map, hx]
    by_cases hk : x.kind = kd
    · rw [idx_yes hx hk]; simp [ih, hk, List.count_append]
    · rw [idx_no hx hk]; simp [ih, hk, List.count_append]
theorem idx_kds (kd : Int) (t : Tree) (n o m : Nat) (hm : m = size t) : (idx kd (flat o (num n t)) m).length = (kdsOf t).count kd := by
  subst hm
  rw [idx_count kd _ _ (by rw [flat_len, num_size]; exact Nat.le_refl _), kds_flat, kds_num, List.take_of_length_le]
  rw [← kds_flat t 0, List.length_map, flat_len]; exact Nat.le_refl _
theorem kds_len (t : Tree) : (kdsOf t).length = size t := by rw [← kds_flat t 0, List.length_map, flat_len]
theorem two_rows {s t : Tree} (hs : Ok s) (ht : Ok t) : ¬ SoundL (flat 0 s ++ flat 0 t) := by
  intro h
  have hp := size_pos s
  have hq := size_pos t
  have hm := h.2.2 (max (size s) (size t) - 1) (by rw [List.length_append, flat_len, flat_len]; omega)
  rw [uses_append, uses_flat s 0 _ hs, uses_flat t 0 _ ht, if_neg (by omega), if_neg (by omega)] at hm
  cases hm
/-- Such a tree, numbered anew, is good. -/
theorem mk_good' {t : Tree} (h : Mk t) (hn : size t ≤ 99) : GoodL (flat 0 (num 0 t)) :=
  good_num (Mk.ok t h) (by omega) (num_fine t 0 0 h (by have := ncap_le t; omega))
theorem bel_alloc {w W : World} (h : Below w.heap.size w W) (o : Obj) : Below w.heap.size w (W.alloc o) := h.alloc h.size o
theorem bel_set {w W : World} (h : Below w.heap.size w W) {k : Nat} (hk : w.heap.size ≤ k) (v : Value) : Below w.heap.size w (W.setCell ⟨k, 0, none⟩ v) := h.setCell (p := ⟨k, 0, none⟩) hk v
/-- Two stores into cells of one value each. -/
theorem two_sets {V : World} {p q : Nat} {u0 u1 : Value} (hpq : p ≠ q) (h0 : V.heap[p]? = some (.cells #[u0] 24)) (h1 : V.heap[q]? = some (.cells #[u1] 24)) (a b : Value) :
    ((V.setCell ⟨p, 0, none⟩ a).setCell ⟨q, 0, none⟩ b).heap[p]? = some (.cells #[a] 24) ∧ ((V.setCell ⟨p, 0, none⟩ a).setCell ⟨q, 0, none⟩ b).heap[q]? = some (.cells #[b] 24) ∧
    (∀ r, r ≠ p → r ≠ q → ((V.setCell ⟨p, 0, none⟩ a).setCell ⟨q, 0, none⟩ b).heap[r]? = V.heap[r]?) ∧
    (∀ A L, Nr V A L → Nr ((V.setCell ⟨p, 0, none⟩ a).setCell ⟨q, 0, none⟩ b) A L) ∧ (∀ B X, B ≤ p → B ≤ q → Below B X V → Below B X ((V.setCell ⟨p, 0, none⟩ a).setCell ⟨q, 0, none⟩ b)) := by
  have g0 := set_same h0 a
  have g1 : (V.setCell ⟨p, 0, none⟩ a).heap[q]? = some (.cells #[u1] 24) := (Below.heap_setCell V ⟨p, 0, none⟩ a q (Ne.symm hpq)).trans h1
  refine ⟨(Below.heap_setCell _ ⟨q, 0, none⟩ b p hpq).trans g0, set_same g1 b, fun r hr hr2 => (Below.heap_setCell _ ⟨q, 0, none⟩ b r hr2).trans (Below.heap_setCell V ⟨p, 0, none⟩ a r hr), fun A L hN => nr_set1 g1 (nr_set1 h0 hN a) b, fun B X hp hq hb => (hb.setCell (p := ⟨p, 0, none⟩) hp a).setCell (p := ⟨q, 0, none⟩) hq b⟩
/-- Two values stored into cells, at least one of both just made. -/
def TwoAt (w2 V : World) (p q : Nat) (a b : Value) : Prop := V.heap[p]? = some (.cells #[a] 24) ∧ V.heap[q]? = some (.cells #[b] 24) ∧ (∀ A L, Nr w2 A L → Nr V A L) ∧ ∀ B X, B ≤ p → B ≤ q → Below B X w2 → Below B X V
theorem two_f1 (w2 : World) (a b : Value) : TwoAt w2 ((w2.alloc (.cells #[a] 24)).alloc (.cells #[b] 24)) w2.heap.size (w2.heap.size + 1) a b := by
  have al := fun (W : World) (o : Obj) => (Below.refl W.heap.size W).alloc (Nat.le_refl _) o
  have h := heap_new (w2.alloc (.cells #[a] 24)) (.cells #[b] 24)
  rw [World.size_alloc] at h
  exact ⟨keepL (heap_new _ _) (al _ _), h, fun A L hN => (hN.below (al _ _)).below (al _ _), fun B X h1 h2 hb => (hb.alloc h1 _).alloc (by rw [World.size_alloc]; exact h2) _⟩
theorem two_f2 (w2 : World) (a b : Value) : TwoAt w2 ((w2.alloc (.cells #[b] 24)).alloc (.cells #[a] 24)) (w2.heap.size + 1) w2.heap.size a b := by
  obtain ⟨h1, h2, h3, h4⟩ := two_f1 w2 b a
  exact ⟨h2, h1, h3, fun B X hp hq hb => h4 B X hq hp hb⟩
theorem two_f3 {w2 : World} {p : Nat} {u u0 : Value} (h : w2.heap[p]? = some (.cells #[u] 24)) (a b : Value) : TwoAt w2 (((w2.alloc (.cells #[u0] 24)).setCell ⟨p, 0, none⟩ a).setCell ⟨w2.heap.size, 0, none⟩ b) p w2.heap.size a b := by
  have al := (Below.refl w2.heap.size w2).alloc (Nat.le_refl _) (.cells #[u0] 24)
  obtain ⟨h1, h2, _, h4, h5⟩ := two_sets (Nat.ne_of_lt (lt_of_heap h)) (keepL h al) (heap_new w2 (.cells #[u0] 24)) a b
  exact ⟨h1, h2, fun A L hN => h4 A L (hN.below al), fun B X hp hq hb => h5 B X hp hq (hb.alloc hq _)⟩
theorem two_f4 {w2 : World} {p q : Nat} {u u0 : Value} (hpq : p ≠ q) (h : w2.heap[p]? = some (.cells #[u] 24)) (h0 : w2.heap[q]? = some (.cells #[u0] 24)) (a b : Value) : TwoAt w2 ((w2.setCell ⟨p, 0, none⟩ a).setCell ⟨q, 0, none⟩ b) p q a b := by
  obtain ⟨h1, h2, _, h4, h5⟩ := two_sets hpq h h0 a b
  exact ⟨h1, h2, h4, h5⟩
theorem two_f5 {w2 : World} {q : Nat} {u : Value} (h : w2.heap[q]? = some (.cells #[u] 24)) (a b : Value) : TwoAt w2 ((w2.alloc (.cells #[a] 24)).setCell ⟨q, 0, none⟩ b) w2.heap.size q a b := by
  have al := (Below.refl w2.heap.size w2).alloc (Nat.le_refl _) (.cells #[a] 24)
  have hq := keepL h al
  exact ⟨(Below.heap_setCell _ ⟨q, 0, none⟩ b w2.heap.size (Nat.ne_of_gt (lt_of_heap h))).trans (heap_new w2 _), set_same hq b, fun A L hN => nr_set1 hq (hN.below al) b, fun B X hp hq hb => (hb.alloc hp _).setCell (p := ⟨q, 0, none⟩) hq b⟩
/-- What the making of two trees leaves. -/
theorem two_done {wc w2 V : World} {p q : Nat} {B1 B2 : Option Addr} {m1 m2 d1 d2 : Nat} {L1 L2 : List Nd} (h : TwoAt w2 V p q (.slice B1 m1 d1) (.slice B2 m2 d2)) (hp : wc.heap.size ≤ p) (hq : wc.heap.size ≤ q) (hb : Below wc.heap.size wc w2) (hN1 : Nr w2 B1 L1) (hN2 : Nr w2 B2 L2) :
    Hid (Nr V B1 L1) ∧ Hid (Nr V B2 L2) ∧ Hid (V.heap[p]? = some (.cells #[.slice B1 m1 d1] 24)) ∧ Hid (V.heap[q]? = some (.cells #[.slice B2 m2 d2] 24)) ∧ Hid (Below wc.heap.size wc V) :=
  ⟨Lib.hid (h.2.2.1 _ _ hN1), Lib.hid (h.2.2.1 _ _ hN2), Lib.hid h.1, Lib.hid h.2.1, Lib.hid (h.2.2.2 _ _ hp hq hb)⟩
/-- A tree handed back, its length named. -/
def RetTm (w : World) (L : List Nd) (m : Nat) (e : Ending) (w' : World) : Prop := ∃ A c, e = .returned (tr A m c) ∧ Nr w' A L ∧ (A = none → L = [] ∧ c = 0) ∧ Below w.heap.size w w'
theorem RetTr.m {w w' : World} {L : List Nd} {m : Nat} {e : Ending} (h : RetTr w L e w') (hm : L.length = m) : RetTm w L m e w' := by
  subst hm; exact h
/-- A tree made by the statements, its length named. -/
def RetMs (w : World) (e : Ending) (w' : World) : Prop := ∃ T : Tree, Mk T ∧ size T ≤ 47 ∧ ∃ A c, e = .returned (tr A (size T) c) ∧ Nr w' A (flat 0 (num 0 T)) ∧ (A = none → flat 0 (num 0 T) = [] ∧ c = 0) ∧ Below w.heap.size w w'
theorem RetMk.s {w w' : World} {e : Ending} (h : RetMk w e w') : RetMs w e w' := by
  obtain ⟨T, h1, h2, A, c, h3, h4⟩ := h
  exact ⟨T, h1, h2, A, c, by rw [h3, flat_len, num_size], h4⟩
end Go.Proofs.Ytceeimolfalmpaa

namespace Go.Proofs.Ytceeimolfalmpaa.S
open Go.RowKit ObSets

set_option maxHeartbeats 1000000 in
theorem set_few (A : Option Addr) (n c : Nat) (most : Nat) (l : List R) (w : World) (hn : l.length = n) (hnm : n ≤ most) (h : Rgs w w.heap.size A (l.take most)) (hm : most ≤ 100) :
    Calls Try.prog 14 #[.slice A n c, .int .i64 most] w (RetR (l.take most) w) := by
  have hb0 := (Below.refl w.heap.size w).alloc (Nat.le_refl _) (.cells #[] 69)
  have htl : (l.take most).length = n := by rw [List.length_take, hn]; omega
  obtain ⟨v1, w1, hrun1, hown1, hg1⟩ := append_src (c := c) 33 (made_none w) (h.on hb0) (rgs_none h) (by simp; omega) (by simp)
  obtain ⟨o1, hb1⟩ := cat_rel hb0 (made_none w) hg1 hown1
  rw [List.nil_append] at o1
  have HR1 := Lib.hid hrun1
  have HO1 := Lib.hid o1
  rw [htl] at HR1
  clear hrun1 hown1 hg1 o1 h htl
  have hd : decide (most < n) = false := by simp; omega
  have hgt' : (n : Int) ≤ (most : Int) := by omega
  go_enter Try.func14, Try.ntmps14
  go_wp2_with (at_builtin; refine Lib.wpList_append_run _ rfl _ _ _ _ rfl _ _ rfl rfl _ _ HR1.out ?_)
  go_ret
  exact ⟨_, rfl, HO1.out, hb1⟩
end Go.Proofs.Ytceeimolfalmpaa.S
namespace Go.Proofs.Ytceeimolfalmpaa
open Go.RowKit ObSets ObTree ObTree.Tree

set_option maxHeartbeats 8000000 in
set_option maxRecDepth 100000 in
theorem cut_few (A : Option Addr) (n c most : Nat) (L : List Nd) (w : World) (hN : Nr w A L) (hn : L.length = n) (hs6 : ∀ x ∈ L, x.set.length ≤ 6) (hnb : n ≤ maxLen) (hmb : most ≤ 1000) :
    Calls Try.prog 8 #[tr A n c, .int .i64 (most : Int)] w (RetTr w ((L.take most).map cutN)) := by
  have hnb' : n ≤ 9223372036854775807 := by unfold maxLen at hnb; omega
  have HN := Lib.hid hN; have HLN := Lib.hid hn; have HS6 := Lib.hid hs6
  clear hN hn hnb hs6
  have hb0 := (((Below.refl w.heap.size w).alloc (Nat.le_refl _) (.cells #[.slice A n c] 24)).alloc (by simp) (.cells #[.slice none 0 0] 24)).alloc (by simp; omega) (.cells #[.slice none 0 0] 24)
  have g0 := keepL (keepL (heap_new w (.cells #[.slice A n c] 24)) ((Below.refl _ _).alloc (Nat.le_refl _) (.cells #[.slice none 0 0] 24))) ((Below.refl _ _).alloc (Nat.le_refl _) (.cells #[.slice none 0 0] 24))
  have g1 := keepL (heap_new (w.alloc (.cells #[.slice A n c] 24)) (.cells #[.slice none 0 0] 24)) ((Below.refl _ _).alloc (Nat.le_refl _) (.cells #[.slice none 0 0] 24))
  have g2 := heap_new ((w.alloc (.cells #[.slice A n c] 24)).alloc (.cells #[.slice none 0 0] 24)) (.cells #[.slice none 0 0] 24)
  simp only [World.size_alloc] at g1 g2
  have hz : (((w.alloc (.cells #[.slice A n c] 24)).alloc (.cells #[.slice none 0 0] 24)).alloc (.cells #[.slice none 0 0] 24)).heap.size = w.heap.size + 3 := by simp
  have HG0 := Lib.hid g0; have HG1 := Lib.hid g1; have HG2 := Lib.hid g2; have HB0 := Lib.hid hb0
  clear hb0 g0 g1 g2
  go_enter Try.func8, Try.ntmps8
  go_upto_region 3 with fail
  generalize ((w.alloc (.cells #[.slice A n c] 24)).alloc (.cells #[.slice none 0 0] 24)).alloc (.cells #[.slice none 0 0] 24) = W0 at *
  go_loopw [6] (fun ti wr => ∃ (i : Nat) (Ao : Option Addr) (k : Nat), ti = .int .i64 (i : Int) ∧ i ≤ n ∧ i ≤ most ∧ Hid (Nq wr (.slice Ao i k) ((L.take i).map cutN)) ∧ Hid (∀ g, (Value.slice Ao i k).ownBlock = some g → w.heap.size + 3 ≤ g ∧ g < wr.heap.size) ∧ Hid (wr.heap[w.heap.size]? = some (.cells #[.slice A n c] 24)) ∧ Hid (wr.heap[w.heap.size + 1]? = some (.cells #[.slice none 0 0] 24)) ∧ Hid (wr.heap[w.heap.size + 1 + 1]? = some (.cells #[.slice Ao i k] 24)) ∧ Hid (Below w.heap.size w wr) ∧ w.heap.size + 3 ≤ wr.heap.size) (fun ti _ => n - (intOf ti).toNat)
  case atStart => exact ⟨0, none, 0, rfl, Nat.zero_le _, Nat.zero_le _, Lib.hid (Nq.nil _), Lib.hid (fun g hg => by cases hg), HG0, HG1, HG2, HB0, by omega⟩
  case round =>
    obtain ⟨i, Ao, k, rfl, hi, him, HQ, HO, K0, K1, K2, HB, hws⟩ := hrel
    obtain ⟨b0, _⟩ := obj29 K0.out
    obtain ⟨b2, f2⟩ := obj29 K2.out
    by_cases hin : i < n
    · have d1 : decide (i < n) = true := decide_eq_true hin
      have hin' : (i : Int) < (n : Int) := by omega
      by_cases hit : i < most
      · have d2 : decide (i < most) = true := decide_eq_true hit
        obtain ⟨x, hx⟩ : ∃ x, L[i]? = some x := ⟨_, List.getElem?_eq_getElem (by rw [HLN.out]; exact hin)⟩
        obtain ⟨bb, off, rfl, hbl, As, ks, ⟨c0, c1, c2, c3, c4, c5, c6⟩, hrg⟩ := nr_at (HN.out.below HB.out) hx
        have hk1 := HS6.out x (List.mem_of_getElem? hx)
        obtain ⟨sl, hsl⟩ : ∃ sl, x.set.length = sl := ⟨_, rfl⟩
        rw [hsl] at c3 hk1
        have hWX := (Below.refl wr.heap.size wr).alloc (Nat.le_refl _) (.cells (ndCells x As sl ks) 35)
        have HST := Lib.hid (S.set_few As sl ks 6 x.set (wr.alloc (.cells (ndCells x As sl ks) 35)) hsl hk1 (rgs_take (hrg.on hWX) 6) (by omega))
        have HX := Lib.hid hx
        have hNB := heap_new wr (.cells (ndCells x As sl ks) 35)
        have HNB := Lib.hid hNB; have HWX := Lib.hid hWX
        clear hx hrg hk1 hsl hWX hNB
        go_wp2_with fail
        refine HST.out.mono ?_
        rintro e w3 ⟨v3, rfl, ho3, hb3⟩
        obtain ⟨Bs, js, rfl, _, _, hr3, hf3⟩ := ho3.shape
        obtain ⟨m3, hm3⟩ : ∃ m3, (x.set.take 6).length = m3 := ⟨_, rfl⟩
        rw [hm3]
        have HM3 := Lib.hid hm3
        have hw3 := hb3.size
        simp only [World.size_alloc] at hw3
        have hB3 := HWX.out.trans (hb3.mono HWX.out.size)
        have hN3 := keepL HNB.out hb3
        obtain ⟨⟨n0, n1, n2, n3, n4, n5, n6⟩, nf⟩ := blk7 hN3
        have nf3 := nf 3
        have hN4 := set3 hN3 (.slice Bs m3 js)
        obtain ⟨⟨p0, p1, p2, p3, p4, p5, p6⟩, _⟩ := blk7 hN4
        have hz4 : (w3.setCell ⟨wr.heap.size, 3, none⟩ (.slice Bs m3 js)).heap.size = w3.heap.size := set_size _ _ _
        have hsame : ∀ r, r ≠ wr.heap.size → (w3.setCell ⟨wr.heap.size, 3, none⟩ (.slice Bs m3 js)).heap[r]? = w3.heap[r]? := fun r hr => Below.heap_setCell _ _ _ _ hr
        have hB4 : Below wr.heap.size wr (w3.setCell ⟨wr.heap.size, 3, none⟩ (.slice Bs m3 js)) := hB3.setCell (p := ⟨wr.heap.size, 3, none⟩) (Nat.le_refl _) _
        have hR4 : S.Rgs (w3.setCell ⟨wr.heap.size, 3, none⟩ (.slice Bs m3 js)) (w3.setCell ⟨wr.heap.size, 3, none⟩ (.slice Bs m3 js)).heap.size Bs (x.set.take 6) := (rgs_far (k := 3) (r := wr.heap.size) hr3 (hf3.imp id fun ⟨g, e, hg, _⟩ a ha => by
          rw [e] at ha; injection ha with ha; subst ha; rw [World.size_alloc] at hg; show g ≠ wr.heap.size; omega) (.slice Bs m3 js)).more (by rw [hz4]; exact Nat.le_refl _)
        have hK2' : (w3.setCell ⟨wr.heap.size, 3, none⟩ (.slice Bs m3 js)).heap[w.heap.size + 1 + 1]? = some (.cells #[.slice Ao i k] 24) := keepL K2.out hB4
        obtain ⟨e2, e2f⟩ := obj29 hK2'
        have hQ4 := HQ.out.below hB4
        have hA5 := (Below.refl (w3.setCell ⟨wr.heap.size, 3, none⟩ (.slice Bs m3 js)).heap.size (w3.setCell ⟨wr.heap.size, 3, none⟩ (.slice Bs m3 js))).alloc (Nat.le_refl _) (.cells (ndCells (cutN x) Bs m3 js) 35)
        have hNG := heap_new (w3.setCell ⟨wr.heap.size, 3, none⟩ (.slice Bs m3 js)) (.cells (ndCells (cutN x) Bs m3 js) 35)
        rw [hz4] at hNG
        have hown : ∀ g, (Value.slice Ao i k).ownBlock = some g → w.heap.size + 3 ≤ g ∧ g < wr.heap.size := HO.out
        obtain ⟨v6, w6, hrun, hq6, hg6, ho6⟩ := nq_append (hQ4.below hA5) (cutN x) Bs m3 js w3.heap.size hm3 hNG (hR4.on hA5) (hf3.imp id fun ⟨g, e, hg, _⟩ a ha h => by
          rw [e] at ha; injection ha with ha; subst ha
          have := (hown _ h).2
          rw [World.size_alloc] at hg
          have hg' : wr.heap.size + 1 ≤ g := hg
          have h' : g < wr.heap.size := this
          omega) (by simp; omega) 22
        obtain ⟨A6, k6, rfl, hA6⟩ := hq6.shape
        have hl6 : ((L.take i).map cutN ++ [cutN x]).length = i + 1 := by rw [List.length_append, List.length_map, List.length_take, HLN.out]; simp; omega
        rw [hl6] at hrun hq6 ho6
        have hz5 : ((w3.setCell ⟨wr.heap.size, 3, none⟩ (.slice Bs m3 js)).alloc (.cells (ndCells (cutN x) Bs m3 js) 35)).heap.size = w3.heap.size + 1 := by rw [World.size_alloc, hz4]
        have hs6 : w3.heap.size + 1 ≤ w6.heap.size := by have := hg6.size; omega
        have hB6 : Below w.heap.size w w6 := ((HB.out.trans (hB4.mono HB.out.size)).trans (hA5.mono (by rw [hz4]; omega))).grown hg6 (by rw [hz5]; omega) (fun g hg => by have := (hown g hg).1; omega)
        have tokeep : ∀ r (o : Obj), r < w.heap.size + 3 → wr.heap[r]? = some o → w6.heap[r]? = some o := fun r o hr ho => keepG (keepL (keepL ho hB4) hA5) hg6 (fun g hg => by have := (hown g hg).1; omega)
        have M0 := Lib.hid (tokeep w.heap.size _ (by omega) K0.out)
        have M1 := Lib.hid (tokeep (w.heap.size + 1) _ (by omega) K1.out)
        have M2 := tokeep (w.heap.size + 1 + 1) _ (by omega) K2.out
        obtain ⟨m2, m2f⟩ := obj29 M2
        have hO6 : ∀ g, (Value.slice A6 (i + 1) k6).ownBlock = some g → w.heap.size + 3 ≤ g ∧ g < w6.heap.size := fun g hg => by
          obtain ⟨Lx, _, hx2, _⟩ := hq6
          have hlt := (hx2.lt g hg).2
          rcases ho6 g hg with h | h
          · exact ⟨(hown g h).1, hlt⟩
          · rw [hz5] at h; exact ⟨by omega, hlt⟩
        have hQ7 := hq6.set1 M2 (fun e => by have := (hO6 _ e).1; omega) (.slice A6 (i + 1) k6)
        have HTK := Lib.hid (show (L.take (i + 1)).map cutN = (L.take i).map cutN ++ [cutN x] by rw [List.take_add_one, HX.out]; simp)
        have HQ7 := Lib.hid (show Nq (w6.setCell ⟨w.heap.size + 1 + 1, 0, none⟩ (.slice A6 (i + 1) k6)) (.slice A6 (i + 1) k6) ((L.take (i + 1)).map cutN) by rw [HTK.out]; exact hQ7)
        have HO7 := Lib.hid (show ∀ g, (Value.slice A6 (i + 1) k6).ownBlock = some g → w.heap.size + 3 ≤ g ∧ g < (w6.setCell ⟨w.heap.size + 1 + 1, 0, none⟩ (.slice A6 (i + 1) k6)).heap.size from fun g hg => by rw [set_size]; exact hO6 g hg)
        have P0 := Lib.hid ((Below.heap_setCell w6 ⟨w.heap.size + 1 + 1, 0, none⟩ (.slice A6 (i + 1) k6) w.heap.size (by show w.heap.size ≠ w.heap.size + 1 + 1; omega)).trans M0.out)
        have P1 := Lib.hid ((Below.heap_setCell w6 ⟨w.heap.size + 1 + 1, 0, none⟩ (.slice A6 (i + 1) k6) (w.heap.size + 1) (by show w.heap.size + 1 ≠ w.heap.size + 1 + 1; omega)).trans M1.out)
        have P2 := Lib.hid (set_same M2 (.slice A6 (i + 1) k6))
        have PB := Lib.hid (hB6.setCell (p := ⟨w.heap.size + 1 + 1, 0, none⟩) (by show w.heap.size ≤ w.heap.size + 1 + 1; omega) (.slice A6 (i + 1) k6))
        have PZ : w.heap.size + 3 ≤ (w6.setCell ⟨w.heap.size + 1 + 1, 0, none⟩ (.slice A6 (i + 1) k6)).heap.size := by rw [set_size]; omega
        have HRUN := Lib.hid hrun
        clear hrun hq6 hg6 ho6 hQ7 hO6 tokeep M2 hB6 hs6 hl6 hA6 hNG hA5 hQ4 hK2' hR4 hB4 hsame hN4 hN3 hB3 hr3 hf3 ho3 hb3 hm3 nf hown
        go_wp2_with (at_builtin; refine Lib.wpList_append_run _ rfl _ _ _ _ rfl _ _ rfl rfl _ _ HRUN.out ?_)
        go_roundw
        case rel => exact ⟨i + 1, A6, k6, congrArg (Value.int .i64) (by omega), hin, hit, HQ7, HO7, P0, P1, P2, PB, PZ⟩
        case measure => simp [intOf]; omega
      · have d2 : decide (i < most) = false := decide_eq_false hit
        have HQF := Lib.hid HQ.out
        have hmin : (L.take most).map cutN = (L.take i).map cutN := by
          congr 1
          rw [show most = i by omega]
        have hlen : ((L.take i).map cutN).length = i := by rw [List.length_map, List.length_take, HLN.out]; omega
        obtain ⟨b1, f1⟩ := obj29 K1.out
        have HNR := Lib.hid (nr_set1 K1.out HQ.out.reads (.slice Ao i k))
        have HBF := Lib.hid (HB.out.setCell (p := ⟨w.heap.size + 1, 0, none⟩) (by show w.heap.size ≤ w.heap.size + 1; omega) (.slice Ao i k))
        obtain ⟨A9, k9, e9, hA9⟩ := HQ.out.shape
        have HA9 := Lib.hid (show Ao = none → (L.take i).map cutN = [] ∧ k = 0 from fun h => by
          injection e9 with q1 q2 q3
          rw [q1] at h
          have := hA9 h
          exact ⟨this.1, by omega⟩)
        have HMIN := Lib.hid hmin
        clear e9 hA9 hmin
        go_wp2_with fail
        refine bodyPost_ret (v := tr Ao i k) ?_ rfl ?_
        · rw [S.results_cell1 rfl]
          go_simp
        · rw [HMIN.out]
          exact ⟨Ao, k, by rw [hlen], HNR.out, HA9.out, HBF.out⟩
    · have d1 : decide (i < n) = false := decide_eq_false hin
      have HQF := Lib.hid HQ.out
      have hmin : (L.take most).map cutN = (L.take i).map cutN := by
        congr 1
        rw [List.take_of_length_le (by rw [HLN.out]; omega), List.take_of_length_le (by rw [HLN.out]; omega)]
      have hlen : ((L.take i).map cutN).length = i := by rw [List.length_map, List.length_take, HLN.out]; omega
      obtain ⟨b1, f1⟩ := obj29 K1.out
      have HNR := Lib.hid (nr_set1 K1.out HQ.out.reads (.slice Ao i k))
      have HBF := Lib.hid (HB.out.setCell (p := ⟨w.heap.size + 1, 0, none⟩) (by show w.heap.size ≤ w.heap.size + 1; omega) (.slice Ao i k))
      obtain ⟨A9, k9, e9, hA9⟩ := HQ.out.shape
      have HA9 := Lib.hid (show Ao = none → (L.take i).map cutN = [] ∧ k = 0 from fun h => by
        injection e9 with q1 q2 q3
        rw [q1] at h
        have := hA9 h
        exact ⟨this.1, by omega⟩)
      have HMIN := Lib.hid hmin
      clear e9 hA9 hmin
      go_wp2_with fail
      refine bodyPost_ret (v := tr Ao i k) ?_ rfl ?_
      · rw [S.results_cell1 rfl]
        go_simp
      · rw [HMIN.out]
        exact ⟨Ao, k, by rw [hlen], HNR.out, HA9.out, HBF.out⟩
end Go.Proofs.Ytceeimolfalmpaa

namespace Go.Proofs.Ytceeimolfalmpaa
open Go.RowKit ObSets ObTree ObTree.Tree

set_option maxHeartbeats 8000000 in
set_option maxRecDepth 100000 in
theorem same_walk (A0 : Option Addr) (n0 c0 : Nat) (L0 : List Nd) (A1 : Option Addr) (n1 c1 : Nat) (L1 : List Nd) (A2 : Option Addr) (n2 c2 : Nat) (e1 e2 e3 e4 e5 e6 : Value) (Y : List Int) (A3 : Option Addr) (n3 c3 : Nat) (f1 f2 f3 f4 f5 f6 : Value) (Z : List Int) (w : World)
    (hN0 : NrA w A0 L0) (hn0 : L0.length = n0) (hm0 : n0 ≤ maxLen) (hN1 : NrA w A1 L1) (hn1 : L1.length = n1) (hm1 : n1 ≤ maxLen) (hY : IntsAt w (.slice A2 n2 c2) Y) (hn2 : Y.length = n2) (hm2 : n2 ≤ maxLen) (hZ : IntsAt w (.slice A3 n3 c3) Z) (hn3 : Z.length = n3) (hm3 : n3 ≤ maxLen) :
    Calls Try.prog 6 #[tr A0 n0 c0, tr A1 n1 c1, .agg #[.slice A2 n2 c2, e1, e2, e3, e4, e5, e6], .agg #[.slice A3 n3 c3, f1, f2, f3, f4, f5, f6]] w (RetD w true) := by
  have a0 := (Below.refl w.heap.size w).alloc (Nat.le_refl _) (.cells #[.slice A0 n0 c0] 24)
  have a1 := a0.alloc a0.size (.cells #[.slice A1 n1 c1] 24)
  have a2 := a1.alloc a1.size (.cells #[.slice A2 n2 c2, e1, e2, e3, e4, e5, e6] 32)
  have a3 := a2.alloc a2.size (.cells #[.slice A3 n3 c3, f1, f2, f3, f4, f5, f6] 32)
  have al := fun (W : World) (o : Obj) => (Below.refl W.heap.size W).alloc (Nat.le_refl _) o
  have g0 := keepL (keepL (keepL (heap_new w (.cells #[.slice A0 n0 c0] 24)) (al _ (.cells #[.slice A1 n1 c1] 24))) (al _ (.cells #[.slice A2 n2 c2, e1, e2, e3, e4, e5, e6] 32))) (al _ (.cells #[.slice A3 n3 c3, f1, f2, f3, f4, f5, f6] 32))
  have g1 := keepL (keepL (heap_new (w.alloc (.cells #[.slice A0 n0 c0] 24)) (.cells #[.slice A1 n1 c1] 24)) (al _ (.cells #[.slice A2 n2 c2, e1, e2, e3, e4, e5, e6] 32))) (al _ (.cells #[.slice A3 n3 c3, f1, f2, f3, f4, f5, f6] 32))
  have g2 := keepL (heap_new ((w.alloc (.cells #[.slice A0 n0 c0] 24)).alloc (.cells #[.slice A1 n1 c1] 24)) (.cells #[.slice A2 n2 c2, e1, e2, e3, e4, e5, e6] 32)) (al _ (.cells #[.slice A3 n3 c3, f1, f2, f3, f4, f5, f6] 32))
  have g3 := heap_new (((w.alloc (.cells #[.slice A0 n0 c0] 24)).alloc (.cells #[.slice A1 n1 c1] 24)).alloc (.cells #[.slice A2 n2 c2, e1, e2, e3, e4, e5, e6] 32)) (.cells #[.slice A3 n3 c3, f1, f2, f3, f4, f5, f6] 32)
  simp only [World.size_alloc] at g1 g2 g3
  have hz : ((((w.alloc (.cells #[.slice A0 n0 c0] 24)).alloc (.cells #[.slice A1 n1 c1] 24)).alloc (.cells #[.slice A2 n2 c2, e1, e2, e3, e4, e5, e6] 32)).alloc (.cells #[.slice A3 n3 c3, f1, f2, f3, f4, f5, f6] 32)).heap.size = w.heap.size + 4 := by simp
  have HC0 := cut_len L0 14; have HS0 := cut_small L0 14
  have HC1 := cut_len L1 14; have HS1 := cut_small L1 14
  have HCA := Lib.hid (fun (W : World) (hW : Below w.heap.size w W) => cut_any A0 n0 c0 14 L0 W (hN0.below hW) hn0 hm0 (by omega))
  have HCB := Lib.hid (fun (W : World) (hW : Below w.heap.size w W) => cut_any A1 n1 c1 14 L1 W (hN1.below hW) hn1 hm1 (by omega))
  generalize (L0.take 14).map cutN = M0 at *
  generalize (L1.take 14).map cutN = M1 at *
  obtain ⟨m0, hl0⟩ : ∃ m, M0.length = m := ⟨_, rfl⟩
  obtain ⟨m1, hl1⟩ : ∃ m, M1.length = m := ⟨_, rfl⟩
  have HCA' := Lib.hid (show ∀ W, Below w.heap.size w W → Calls Try.prog 8 #[tr A0 n0 c0, .int .i64 14] W (RetTm W M0 m0) from fun W hW => (HCA.out W hW).mono fun e w' h => RetTr.m h hl0)
  have HCB' := Lib.hid (show ∀ W, Below w.heap.size w W → Calls Try.prog 8 #[tr A1 n1 c1, .int .i64 14] W (RetTm W M1 m1) from fun W hW => (HCB.out W hW).mono fun e w' h => RetTr.m h hl1)
  have HTY := Lib.hid (fun (W : World) (hW : Below w.heap.size w W) => tree_any A2 n2 c2 Y W (hY.below hW) hn2 hm2)
  have HTZ := Lib.hid (fun (W : World) (hW : Below w.heap.size w W) => tree_any A3 n3 c3 Z W (hZ.below hW) hn3 hm3)
  clear HCA HCB hY hZ hN0 hN1 a0 a1 a2 al
  have HB0 := Lib.hid a3; have HG0 := Lib.hid g0; have HG1 := Lib.hid g1; have HG2 := Lib.hid g2; have HG3 := Lib.hid g3
  have HLL := Lib.hid (And.intro hl0 hl1); have HSS := Lib.hid (And.intro HS0 HS1)
  clear a3 g0 g1 g2 g3 HS0 HS1
  have hm014 : m0 ≤ 14 := by omega
  have hm114 : m1 ≤ 14 := by omega
  clear HC0 HC1 hl0 hl1 hn0 hm0 hn1 hm1 hn2 hm2 hn3 hm3
  go_enter Try.func6, Try.ntmps6
  go_upto_region 1 with fail
  generalize (((w.alloc (.cells #[.slice A0 n0 c0] 24)).alloc (.cells #[.slice A1 n1 c1] 24)).alloc (.cells #[.slice A2 n2 c2, e1, e2, e3, e4, e5, e6] 32)).alloc (.cells #[.slice A3 n3 c3, f1, f2, f3, f4, f5, f6] 32) = W0 at *
  go_cut [] from 11 to 14 (fun wc => ∃ (Aa : Option Addr) (ca : Nat) (Ab : Option Addr) (cb : Nat), Hid (Nr wc Aa M0) ∧ Hid (Nr wc Ab M1) ∧ Hid (wc.heap[w.heap.size]? = some (.cells #[.slice Aa m0 ca] 24)) ∧ Hid (wc.heap[w.heap.size + 1]? = some (.cells #[.slice Ab m1 cb] 24)) ∧ Hid (wc.heap[w.heap.size + 1 + 1]? = some (.cells #[.slice A2 n2 c2, e1, e2, e3, e4, e5, e6] 32)) ∧ Hid (wc.heap[w.heap.size + 1 + 1 + 1]? = some (.cells #[.slice A3 n3 c3, f1, f2, f3, f4, f5, f6] 32)) ∧ Hid (Below w.heap.size w wc))
  case first =>
    obtain ⟨r0, _⟩ := obj29 HG0.out
    obtain ⟨r1, _⟩ := obj29 HG1.out
    go_region_with (first
      | (go_at_call 8; (with_reducible refine (HCA'.out _ (HB0.out.drew)).mono ?_); rintro e w1 ⟨Aa, ca, rfl, hNa, hAa, hba0⟩; have hba := S.bel_trans (Below.refl W0.heap.size W0).drew hba0; have s1 := keepL HG1.out hba; obtain ⟨s1c, _⟩ := obj29 s1)
      | (go_at_call 8; (with_reducible refine (HCB'.out _ (HB0.out.trans (hba.mono HB0.out.size))).mono ?_); rintro e w2 ⟨Ab, cb, rfl, hNb, hAb, hbb⟩; obtain ⟨z0, zf0⟩ := obj29 (keepL (keepL HG0.out hba) hbb); obtain ⟨z1, zf1⟩ := obj29 (keepL (keepL HG1.out hba) hbb); have hlt := lt_of_heap (keepL (keepL HG1.out hba) hbb))
      | fail)
    all_goals
      have hT := two_sets (by omega) (keepL (keepL HG0.out hba) hbb) (keepL (keepL HG1.out hba) hbb) (.slice Aa m0 ca) (.slice Ab m1 cb)
      have hX2 := keepL (keepL HG2.out hba) hbb
      have hX3 := keepL (keepL HG3.out hba) hbb
      have hBV := hT.2.2.2.2 w.heap.size w (Nat.le_refl _) (by omega) (HB0.out.trans ((S.bel_trans hba hbb).mono HB0.out.size))
      have hNA := hT.2.2.2.1 _ _ (hNa.below hbb)
      have hNB := hT.2.2.2.1 _ _ hNb
      have h2 := (hT.2.2.1 (w.heap.size + 1 + 1) (by omega) (by omega)).trans hX2
      have h3 := (hT.2.2.1 (w.heap.size + 1 + 1 + 1) (by omega) (by omega)).trans hX3
      go_wp2_with fail
      go_meet
      exact ⟨Aa, ca, Ab, cb, Lib.hid hNA, Lib.hid hNB, Lib.hid hT.1, Lib.hid hT.2.1, Lib.hid h2, Lib.hid h3, Lib.hid hBV⟩
  case rest =>
    obtain ⟨Aa, ca, Ab, cb, HNA, HNB, K0, K1, K2, K3, HBA⟩ := hcut
    clear HG0 HG1 HG2 HG3 HB0 HCA' HCB' hz
    clear W0
    have HTYc := Lib.hid (show ∀ W, Below wc.heap.size wc W → Calls Try.prog 12 #[.slice A2 n2 c2] W (RetMs W) from fun W hW => (HTY.out W (HBA.out.trans (hW.mono HBA.out.size))).mono fun _ _ h => RetMk.s h)
    have HTZc := Lib.hid (show ∀ W, Below wc.heap.size wc W → Calls Try.prog 12 #[.slice A3 n3 c3] W (RetMs W) from fun W hW => (HTZ.out W (HBA.out.trans (hW.mono HBA.out.size))).mono fun _ _ h => RetMk.s h)
    clear HTY HTZ
    have hwc := HBA.out.size
    have hl3 := lt_of_heap K3.out
    go_upto_region 2 with fail
    go_cut [9, 10] from 15 to 20 (fun v9 v10 wd => ∃ (k9 k10 : Nat) (T1 T2 : Tree) (B1 : Option Addr) (d1 : Nat) (B2 : Option Addr) (d2 : Nat), v9 = .pointer (some ⟨k9, 0, none⟩) ∧ v10 = .pointer (some ⟨k10, 0, none⟩) ∧ Hid (Mk T1) ∧ Hid (Mk T2) ∧ size T1 ≤ 47 ∧ size T2 ≤ 47 ∧ Hid (Nr wd B1 (flat 0 (num 0 T1))) ∧ Hid (Nr wd B2 (flat 0 (num 0 T2))) ∧ Hid (wd.heap[k9]? = some (.cells #[.slice B1 (size T1) d1] 24)) ∧ Hid (wd.heap[k10]? = some (.cells #[.slice B2 (size T2) d2] 24)) ∧ Hid (Below wc.heap.size wc wd))
    case first =>
      rename_i JJ KK hJJ hKK
      have s2 : wc.cell? ⟨w.heap.size + 1 + 1, 0, none⟩ = some (.slice A2 n2 c2) := by rw [cell_of_row _ (w.heap.size + 1 + 1) 0 _ _ _ K2.out]; rfl
      have s3 : wc.cell? ⟨w.heap.size + 1 + 1 + 1, 0, none⟩ = some (.slice A3 n3 c3) := by rw [cell_of_row _ (w.heap.size + 1 + 1 + 1) 0 _ _ _ K3.out]; rfl
      have HSF := Lib.hid (show ∀ W, Below wc.heap.size wc W → ((W.cell? ⟨w.heap.size + 1 + 1, 0, none⟩ = some (.slice A2 n2 c2) ∧ W.cell? ⟨w.heap.size + 1 + 1 + 1, 0, none⟩ = some (.slice A3 n3 c3)) ∧ Below wc.heap.size wc W) from fun W hW => ⟨⟨(hW.cell (p := ⟨w.heap.size + 1 + 1, 0, none⟩) (by show w.heap.size + 1 + 1 < wc.heap.size; omega)).trans s2, (hW.cell (p := ⟨w.heap.size + 1 + 1 + 1, 0, none⟩) (by show w.heap.size + 1 + 1 + 1 < wc.heap.size; omega)).trans s3⟩, hW⟩)
      clear s2 s3
      have al := fun (W : World) (o : Obj) => (Below.refl W.heap.size W).alloc (Nat.le_refl _) o
      go_region_held3 (fun W => (W.cell? ⟨w.heap.size + 1 + 1, 0, none⟩ = some (.slice A2 n2 c2) ∧ W.cell? ⟨w.heap.size + 1 + 1 + 1, 0, none⟩ = some (.slice A3 n3 c3)) ∧ Below wc.heap.size wc W) (first
        | exact HSF.out _ (Below.refl _ _).drew
        | exact HSF.out _ (S.bel_trans (held3 (by assumption)) (by assumption))
        | exact HSF.out _ (bel_alloc (held3 (by assumption)) _)
        | exact HSF.out _ (bel_alloc (bel_alloc HQ2.out _) _)
        | exact HSF.out _ (bel_alloc HQ2.out _)
        | exact HSF.out _ (bel_set HQ2.out (by have := HQ1.out.size; have := HQ2.out.size; first | omega | (simp; omega)) _)
        | exact HSF.out _ (bel_set (bel_set HQ2.out (by have := HQ1.out.size; have := HQ2.out.size; first | omega | (simp; omega)) _) (by have := HQ1.out.size; have := HQ2.out.size; first | omega | (simp; omega)) _)
        | exact HSF.out _ (bel_set (bel_alloc HQ2.out _) (by have := HQ1.out.size; have := HQ2.out.size; first | omega | (simp; omega)) _)
        | exact HSF.out _ (bel_set (bel_set (bel_alloc HQ2.out _) (by have := HQ1.out.size; have := HQ2.out.size; first | omega | (simp; omega)) _) (by have := HQ1.out.size; have := HQ2.out.size; first | omega | (simp; omega)) _)
        | fail) (first
        | (go_at_call 12; (with_reducible refine (HTYc.out _ (held3 (by assumption))).mono ?_); rintro e w1 ⟨T1, hM1, hs1, B1, d1, rfl, hN1, hA1, hb1⟩; have HQ1 := Lib.hid (S.bel_trans (held3 (by assumption)) hb1); (try (have z1 : w1.heap[wc.heap.size]? = some (.cells #[.slice none 0 0] 24) := keepL (show (wc.alloc (.cells #[.slice none 0 0] 24)).drew.heap[wc.heap.size]? = some (.cells #[.slice none 0 0] 24) from heap_new _ _) hb1; have zn1 := Nat.ne_of_lt (lt_of_heap z1); have zm1 := Ne.symm zn1)); (try (have z2 : w1.heap[wc.heap.size]? = some (.cells #[.slice none 0 0] 24) := keepL (show ((wc.alloc (.cells #[.slice none 0 0] 24)).alloc (.cells #[.slice none 0 0] 24)).drew.heap[wc.heap.size]? = some (.cells #[.slice none 0 0] 24) from (show ((wc.alloc (.cells #[.slice none 0 0] 24)).alloc (.cells #[.slice none 0 0] 24)).heap[wc.heap.size]? = some (.cells #[.slice none 0 0] 24) from keepL (heap_new _ _) (al _ _))) hb1; have z3 : w1.heap[wc.heap.size + 1]? = some (.cells #[.slice none 0 0] 24) := keepL (show ((wc.alloc (.cells #[.slice none 0 0] 24)).alloc (.cells #[.slice none 0 0] 24)).drew.heap[wc.heap.size + 1]? = some (.cells #[.slice none 0 0] 24) from (show ((wc.alloc (.cells #[.slice none 0 0] 24)).alloc (.cells #[.slice none 0 0] 24)).heap[wc.heap.size + 1]? = some (.cells #[.slice none 0 0] 24) from (by have h := heap_new (wc.alloc (.cells #[.slice none 0 0] 24)) (.cells #[.slice none 0 0] 24); rw [World.size_alloc] at h; exact h))) hb1)))
        | (go_at_call 12; (with_reducible refine (HTZc.out _ (held3 (by assumption))).mono ?_); rintro e w2 ⟨T2, hM2, hs2, B2, d2, rfl, hN2, hA2, hb2⟩; have HQ2 := Lib.hid (S.bel_trans (held3 (by assumption)) hb2); have hw12 : Below w1.heap.size w1 w2 := (by first | exact hb2 | exact S.bel_trans (al _ _) hb2 | exact S.bel_trans (S.bel_trans (al _ _) (al _ _)) hb2); (try (have y1 : w2.heap[wc.heap.size]? = some (.cells #[.slice none 0 0] 24) := (by first | exact keepL z1 hb2 | exact keepL (keepL z1 (al _ _)) hb2); obtain ⟨y1c, y1f⟩ := obj29 y1; obtain ⟨y1d, y1g⟩ := obj29 (keepL y1 (al w2 (.cells #[.slice none 0 0] 24))); obtain ⟨y1e, y1h⟩ := obj29 (keepL y1 (al w2 (.cells #[.slice B1 (size T1) d1] 24))); have y1n := Nat.ne_of_lt (lt_of_heap y1); have y1m := Ne.symm y1n)); (try (have y2 : w2.heap[wc.heap.size]? = some (.cells #[.slice none 0 0] 24) := (by first | exact keepL z2 hb2 | exact keepL (keepL z2 (al _ _)) hb2); obtain ⟨y2c, y2f⟩ := obj29 y2; obtain ⟨y2d, y2g⟩ := obj29 (keepL y2 (al w2 (.cells #[.slice none 0 0] 24))); obtain ⟨y2e, y2h⟩ := obj29 (keepL y2 (al w2 (.cells #[.slice B1 (size T1) d1] 24))); have y2n := Nat.ne_of_lt (lt_of_heap y2); have y2m := Ne.symm y2n)); (try (have y3 : w2.heap[wc.heap.size + 1]? = some (.cells #[.slice none 0 0] 24) := (by first | exact keepL z3 hb2 | exact keepL (keepL z3 (al _ _)) hb2); obtain ⟨y3c, y3f⟩ := obj29 y3; obtain ⟨y3d, y3g⟩ := obj29 (keepL y3 (al w2 (.cells #[.slice none 0 0] 24))); obtain ⟨y3e, y3h⟩ := obj29 (keepL y3 (al w2 (.cells #[.slice B1 (size T1) d1] 24))); have y3n := Nat.ne_of_lt (lt_of_heap y3); have y3m := Ne.symm y3n)); (try (have x1 : w2.heap[w1.heap.size]? = some (.cells #[.slice none 0 0] 24) := keepL (heap_new _ _) hb2; obtain ⟨x1c, x1f⟩ := obj29 x1; obtain ⟨x1d, x1g⟩ := obj29 (keepL x1 (al w2 (.cells #[.slice none 0 0] 24))); obtain ⟨x1e, x1h⟩ := obj29 (keepL x1 (al w2 (.cells #[.slice B1 (size T1) d1] 24))); have x1n := Nat.ne_of_lt (lt_of_heap x1); have x1m := Ne.symm x1n)); (try (have x2 : w2.heap[w1.heap.size]? = some (.cells #[.slice none 0 0] 24) := keepL (keepL (heap_new _ _) (al _ _)) hb2; obtain ⟨x2c, x2f⟩ := obj29 x2; obtain ⟨x2d, x2g⟩ := obj29 (keepL x2 (al w2 (.cells #[.slice none 0 0] 24))); obtain ⟨x2e, x2h⟩ := obj29 (keepL x2 (al w2 (.cells #[.slice B1 (size T1) d1] 24))); have x2n := Nat.ne_of_lt (lt_of_heap x2); have x2m := Ne.symm x2n; have x3 : w2.heap[w1.heap.size + 1]? = some (.cells #[.slice none 0 0] 24) := (by have h := keepL (heap_new (World.alloc _ _) _) hb2; rw [World.size_alloc] at h; exact h); obtain ⟨x3c, x3f⟩ := obj29 x3; obtain ⟨x3d, x3g⟩ := obj29 (keepL x3 (al w2 (.cells #[.slice none 0 0] 24))); obtain ⟨x3e, x3h⟩ := obj29 (keepL x3 (al w2 (.cells #[.slice B1 (size T1) d1] 24))); have x3n := Nat.ne_of_lt (lt_of_heap x3); have x3m := Ne.symm x3n)); have ht1 := HQ1.out.size; have ht2 := hb2.size; have ht3 := HQ2.out.size)
        | fail)
      all_goals
        have hN1' := hN1.below hw12
        refine hKK _ _ (Met.intro (hJJ _ _ ⟨_, _, _, _, _, _, _, _, ⟨_, _, T1, T2, B1, d1, B2, d2, rfl, rfl, Lib.hid hM1, Lib.hid hM2, hs1, hs2, two_done ?_ ?_ ?_ HQ2.out hN1' hN2⟩, rfl⟩))
        · with_reducible first
          | exact two_f1 _ _ _
          | exact two_f2 _ _ _
          | exact two_f3 (by assumption) _ _
          | exact two_f5 (by assumption) _ _
          | exact two_f4 (by first | exact Nat.ne_of_lt (Nat.lt_add_one _) | exact Nat.ne_of_gt (Nat.lt_add_one _) | exact zn1 | exact zm1) (by assumption) (by assumption) _ _
        · with_reducible first | exact Nat.le_refl _ | exact Nat.le_add_right _ 1 | exact ht1 | exact Nat.le_trans ht1 (Nat.le_add_right _ 1) | exact ht3 | exact Nat.le_trans ht3 (Nat.le_add_right _ 1)
        · with_reducible first | exact Nat.le_refl _ | exact Nat.le_add_right _ 1 | exact ht1 | exact Nat.le_trans ht1 (Nat.le_add_right _ 1) | exact ht3 | exact Nat.le_trans ht3 (Nat.le_add_right _ 1)
    case rest =>
      obtain ⟨k9, k10, T1, T2, B1, d1, B2, d2, rfl, rfl, HM1, HM2, hs1, hs2, HN1, HN2, K9, K10, HBC⟩ := hcut
      have G0 := Lib.hid (keepL K0.out HBC.out)
      have G1 := Lib.hid (keepL K1.out HBC.out)
      have HMA := Lib.hid (HNA.out.below HBC.out)
      have HMB := Lib.hid (HNB.out.below HBC.out)
      have HBW := Lib.hid (HBA.out.trans (HBC.out.mono HBA.out.size))
      have HX1 := Lib.hid (flat_six (num 0 T1) 0 (num_mk T1 0 HM1.out))
      have HX2 := Lib.hid (flat_six (num 0 T2) 0 (num_mk T2 0 HM2.out))
      have HY1 := Lib.hid (show (flat 0 (num 0 T1)).length = size T1 by rw [flat_len, num_size])
      have HY2 := Lib.hid (show (flat 0 (num 0 T2)).length = size T2 by rw [flat_len, num_size])
      generalize flat 0 (num 0 T1) = P1 at *
      generalize flat 0 (num 0 T2) = P2 at *
      generalize size T1 = q1 at *
      generalize size T2 = q2 at *
      clear HTYc HTZc K0 K1 K2 K3 HNA HNB HBA HBC HM1 HM2 hwc hl3
      go_upto_region 3 with fail
      have HAB := Lib.hid (show ∀ W, Below wc.heap.size wc W → Calls Try.prog 15 #[tr Aa m0 ca, tr Ab m1 cb] W (RetD W (pb (M0 = M1))) from fun W hW => (tsame_any Aa Ab m0 ca m1 cb M0 M1 W (HMA.out.below hW) HLL.out.1 (HMB.out.below hW) HLL.out.2 (by omega) HSS.out.1 HSS.out.2).mono fun _ _ h => RetB.det h)
      have HEB := Lib.hid (show ∀ W, Below wc.heap.size wc W → Calls Try.prog 18 #[tr Aa m0 ca, tr Ab m1 cb] W (RetD W (pb (M0 = M1))) from fun W hW => (eqtree_any Aa Ab m0 ca m1 cb M0 M1 W (HMA.out.below hW) HLL.out.1 (HMB.out.below hW) HLL.out.2 (by omega) HSS.out.1 HSS.out.2).mono fun _ _ h => RetB.det h)
      have HAA := Lib.hid (show ∀ W, Below wc.heap.size wc W → Calls Try.prog 15 #[tr Aa m0 ca, tr Aa m0 ca] W (RetD W true) from fun W hW => (tsame_any Aa Aa m0 ca m0 ca M0 M0 W (HMA.out.below hW) HLL.out.1 (HMA.out.below hW) HLL.out.1 (by omega) HSS.out.1 HSS.out.1).mono fun _ _ h => RetB.yes h rfl)
      have HM6 := fun (L : List Nd) (h : ∀ x ∈ L, x.set.length ≤ 6) => (show ∀ x ∈ L, x.set.length ≤ 1000000 from fun x hx => Nat.le_trans (h x hx) (by decide))
      have HTU := Lib.hid (show ∀ W, Below wc.heap.size wc W → Calls Try.prog 15 #[tr B1 q1 d1, tr B2 q2 d2] W (RetD W (pb (P1 = P2))) from fun W hW => (tsame_any B1 B2 q1 d1 q2 d2 P1 P2 W (HN1.out.below hW) HY1.out (HN2.out.below hW) HY2.out (by omega) (HM6 _ HX1.out) (HM6 _ HX2.out)).mono fun _ _ h => RetB.det h)
      have HEU := Lib.hid (show ∀ W, Below wc.heap.size wc W → Calls Try.prog 18 #[tr B1 q1 d1, tr B2 q2 d2] W (RetD W (pb (P1 = P2))) from fun W hW => (eqtree_any B1 B2 q1 d1 q2 d2 P1 P2 W (HN1.out.below hW) HY1.out (HN2.out.below hW) HY2.out (by omega) (HM6 _ HX1.out) (HM6 _ HX2.out)).mono fun _ _ h => RetB.det h)
      have HCC := Lib.hid (show ∀ W, Below wc.heap.size wc W → Calls Try.prog 8 #[tr B1 q1 d1, .int .i64 200] W (RetTm W P1 q1) from fun W hW => (cut_few B1 q1 d1 200 P1 W (HN1.out.below hW) HY1.out HX1.out (by unfold maxLen; omega) (by omega)).mono fun _ _ h => by rw [cut_id (by rw [HY1.out]; omega) HX1.out] at h; exact RetTr.m h HY1.out)
      have HTC := Lib.hid (show ∀ (A8 : Option Addr) (c8 : Nat) W, Below wc.heap.size wc W → Nr W A8 P1 → Calls Try.prog 15 #[tr B1 q1 d1, tr A8 q1 c8] W (RetD W true) from fun A8 c8 W hW hN => (tsame_any B1 A8 q1 d1 q1 c8 P1 P1 W (HN1.out.below hW) HY1.out hN HY1.out (by omega) (HM6 _ HX1.out) (HM6 _ HX1.out)).mono fun _ _ h => RetB.yes h rfl)
      clear HM6
      have HWK := Lib.hid (fun (W : World) => wakes_any W)
      have h0 := lt_of_heap G0.out; have h1 := lt_of_heap G1.out; have h9 := lt_of_heap K9.out; have h10 := lt_of_heap K10.out
      have HSF := Lib.hid (show ∀ W, Below wc.heap.size wc W → ((W.cell? ⟨w.heap.size, 0, none⟩ = some (.slice Aa m0 ca) ∧ W.cell? ⟨w.heap.size + 1, 0, none⟩ = some (.slice Ab m1 cb) ∧ W.cell? ⟨k9, 0, none⟩ = some (.slice B1 q1 d1) ∧ W.cell? ⟨k10, 0, none⟩ = some (.slice B2 q2 d2)) ∧ Below wc.heap.size wc W) from fun W hW => ⟨⟨(hW.cell (p := ⟨w.heap.size, 0, none⟩) h0).trans (blk1 G0.out), (hW.cell (p := ⟨w.heap.size + 1, 0, none⟩) h1).trans (blk1 G1.out), (hW.cell (p := ⟨k9, 0, none⟩) h9).trans (blk1 K9.out), (hW.cell (p := ⟨k10, 0, none⟩) h10).trans (blk1 K10.out)⟩, hW⟩)
      generalize pb (M0 = M1) = b1 at *
      generalize pb (P1 = P2) = b2 at *
      clear G0 G1 K9 K10 HMA HMB HN1 HN2 HX1 HX2 HY1 HY2 HLL HSS h0 h1 h9 h10 hs1 hs2 hm014 hm114
      go_region_held3 (fun W => (W.cell? ⟨w.heap.size, 0, none⟩ = some (.slice Aa m0 ca) ∧ W.cell? ⟨w.heap.size + 1, 0, none⟩ = some (.slice Ab m1 cb) ∧ W.cell? ⟨k9, 0, none⟩ = some (.slice B1 q1 d1) ∧ W.cell? ⟨k10, 0, none⟩ = some (.slice B2 q2 d2)) ∧ Below wc.heap.size wc W) (first | exact HSF.out _ (Below.refl _ _).drew | exact HSF.out _ (S.bel_trans (held3 (by assumption)) (by assumption)) | assumption | fail) (first
        | (go_at_call 15; (with_reducible refine (HAB.out _ (held3 (by assumption))).mono ?_); rintro e w15 ⟨rfl, hb15⟩)
        | (go_at_call 18; (with_reducible refine (HEB.out _ (held3 (by assumption))).mono ?_); rintro e w18 ⟨rfl, hb18⟩)
        | (go_at_call 15; (with_reducible refine (HAA.out _ (held3 (by assumption))).mono ?_); rintro e w25 ⟨rfl, hb25⟩)
        | (go_at_call 15; (with_reducible refine (HTU.out _ (held3 (by assumption))).mono ?_); rintro e w35 ⟨rfl, hb35⟩)
        | (go_at_call 18; (with_reducible refine (HEU.out _ (held3 (by assumption))).mono ?_); rintro e w38 ⟨rfl, hb38⟩)
        | (go_at_call 8; (with_reducible refine (HCC.out _ (held3 (by assumption))).mono ?_); rintro e w8 ⟨A8, c8, rfl, hN8, hA8, hb8⟩; have HN8 := Lib.hid hN8; clear hN8 hA8)
        | (go_at_call 15; (with_reducible refine (HTC.out _ _ _ (held3 (by assumption)) HN8.out).mono ?_); rintro e w45 ⟨rfl, hb45⟩)
        | (go_at_call 11; (with_reducible refine (HWK.out _).mono ?_); rintro e w11 ⟨rfl, hb11⟩)
        | fail)
      go_wp2_with fail
      go_ret
      exact ⟨rfl, HBW.out.trans ((held3 (by assumption)).mono HBW.out.size)⟩
end Go.Proofs.Ytceeimolfalmpaa
