/-
  Trees as the statements make them: kinds and fields; what their rows of nodes are; whether one is small (small, small2). Conditions: at most 90 nodes.
  A node of a repeat as the statements make it (times): for a number below 10 one with right bounds. No other conditions.
  A stack of trees in memory, as the statements' Tree keeps it. No conditions.
-/
import Derived.Test.YtceeimolfalmpaaWA
import Derived.Test.YtceeimolfalmpaaVV
import Derived.Deep.RegionLawGrows
import Derived.Deep.RegionHeld3
import Derived.Deep.CutRange
import Derived.Deep.CutBlock
import Derived.Deep.AppendLies
namespace Go.Proofs.Ytceeimolfalmpaa
open Go.RowKit ObSets ObTree ObTree.Tree

/-- A node about one tree, as the statements make it. -/
def MkOne (x : Nd) : Prop := (x.kind = 7 ∧ Fine x) ∨ (x.kind = 8 ∧ x.mn = 0 ∧ x.mx = 0 ∧ x.set.length = 0 ∧ x.b = 0) ∨ (x.kind = 9 ∧ Fine x)
/-- A tree as the statements make it. -/
def Mk : Tree → Prop
  | .leaf x => LeafOk x
  | .one x t => MkOne x ∧ Mk t
  | .two x s t => ((x.kind = 5 ∨ x.kind = 6) ∧ Fine x) ∧ Mk s ∧ Mk t
theorem Mk.ok : ∀ t : Tree, Mk t → Ok t
  | .leaf _, h => h.1
  | .one _ t, h => ⟨by rcases h.1 with h | h | h <;> omega, Mk.ok t h.2⟩
  | .two _ s t, h => ⟨h.1.1, Mk.ok s h.2.1, Mk.ok t h.2.2⟩
theorem fine_a {x : Nd} (hk : x.kind = 7 ∨ x.kind = 9) (h : Fine x) (a : Int) : Fine { x with a := a } := by
  unfold Fine at h ⊢
  rcases hk with hk | hk <;> simp only [hk] at h ⊢ <;> exact h
theorem fine_c {x : Nd} (hk : x.kind = 8) (h : x.mn = 0 ∧ x.mx = 0 ∧ x.set.length = 0 ∧ x.b = 0) (a m : Int) (h1 : 1 ≤ m) (h2 : m ≤ 99) : Fine { x with n := m, a := a } := by
  unfold Fine
  simp only [hk]
  exact ⟨h.1, h.2.1, h.2.2.1, h.2.2.2, h1, h2⟩
theorem fine_ab {x : Nd} (hk : x.kind = 5 ∨ x.kind = 6) (h : Fine x) (a b : Int) : Fine { x with a := a, b := b } := by
  unfold Fine at h ⊢
  rcases hk with hk | hk <;> simp only [hk] at h ⊢ <;> exact h
theorem fine_set {x : Nd} (hk : kids x ≠ []) (h : Fine x) : x.set.length = 0 := by
  unfold kids at hk
  unfold Fine at h
  split at hk
  · rename_i h5
    rw [if_neg (by omega), if_neg (by omega), if_pos h5] at h
    exact h.2.2.1
  · split at hk
    · rename_i h5 h7
      rw [if_neg (by omega), if_neg (by omega), if_neg h5] at h
      split at h
      · exact h.1
      · split at h
        · exact h.2.2.1
        · split at h
          · exact h.2.2.1
          · exact h.elim
    · exact absurd rfl hk
theorem num_fine : ∀ (t : Tree) (n o : Nat), Mk t → n + ncap t ≤ 99 → ∀ x ∈ flat o (num n t), Fine x
  | .leaf x, n, o, h, _, y, hy => by
    simp only [num, flat, List.mem_singleton] at hy
    subst hy
    exact h.2.1
  | .one x t, n, o, h, hn, y, hy => by
    simp only [ncap] at hn
    simp only [num] at hy
    split at hy
    · rename_i hk
      rw [if_pos hk] at hn
      simp only [flat, List.mem_append, List.mem_singleton] at hy
      rcases hy with hy | rfl
      · exact num_fine t (n + 1) o h.2 (by omega) y hy
      · rcases h.1 with h7 | h8 | h9
        · omega
        · exact fine_c hk h8.2 _ _ (by omega) (by omega)
        · omega
    · rename_i hk
      rw [if_neg hk] at hn
      simp only [flat, List.mem_append, List.mem_singleton] at hy
      rcases hy with hy | rfl
      · exact num_fine t n o h.2 (by omega) y hy
      · rcases h.1 with h7 | h8 | h9
        · exact fine_a (.inl h7.1) h7.2 _
        · exact absurd h8.1 hk
        · exact fine_a (.inr h9.1) h9.2 _
  | .two x s t, n, o, h, hn, y, hy => by
    simp only [ncap] at hn
    simp only [num, flat, List.mem_append, List.mem_singleton] at hy
    rcases hy with hy | hy | rfl
    · exact num_fine s n o h.2.1 (by omega) y hy
    · exact num_fine t (n + ncap s) _ h.2.2 (by omega) y hy
    · exact fine_ab h.1.1 h.1.2 _ _
theorem flat_small : ∀ (t : Tree) (o : Nat), Mk t → ∀ x ∈ flat o t, x.set.length ≤ 1000000
  | .leaf x, o, h, y, hy => by
    simp only [flat, List.mem_singleton] at hy
    subst hy
    have := h.2.2; omega
  | .one x t, o, h, y, hy => by
    simp only [flat, List.mem_append, List.mem_singleton] at hy
    rcases hy with hy | rfl
    · exact flat_small t o h.2 y hy
    · show x.set.length ≤ _
      rcases h.1 with h7 | h8 | h9
      · have := fine_set (by rw [kids_one (.inl h7.1)]; simp) h7.2; omega
      · have := h8.2.2.2.1; omega
      · have := fine_set (by rw [kids_one (.inr (.inr h9.1))]; simp) h9.2; omega
  | .two x s t, o, h, y, hy => by
    simp only [flat, List.mem_append, List.mem_singleton] at hy
    rcases hy with hy | hy | rfl
    · exact flat_small s o h.2.1 y hy
    · exact flat_small t _ h.2.2 y hy
    · show x.set.length ≤ _
      have := fine_set (by rw [kids_two h.1.1]; simp) h.1.2; omega
theorem num_mk : ∀ (t : Tree) (n : Nat), Mk t → Mk (num n t)
  | .leaf _, _, h => h
  | .one x t, n, h => by
    simp only [num]
    split
    · rename_i hk
      refine ⟨?_, num_mk t _ h.2⟩
      rcases h.1 with h7 | h8 | h9
      · omega
      · exact .inr (.inl h8)
      · omega
    · exact ⟨h.1, num_mk t _ h.2⟩
  | .two x s t, n, h => ⟨h.1, num_mk s _ h.2.1, num_mk t _ h.2.2⟩
/-- Such a tree, numbered anew, is good. -/
theorem mk_good {t : Tree} (h : Mk t) (hn : size t ≤ 90) : GoodL (flat 0 (num 0 t)) :=
  good_num (Mk.ok t h) (by omega) (num_fine t 0 0 h (by have := ncap_le t; omega))
/-- What a call hands back: yes or no; nothing else is touched. -/
def RetQ (w : World) (e : Ending) (w' : World) : Prop := ∃ q : Bool, e = .returned (.bool q) ∧ Below w.heap.size w w'
set_option maxHeartbeats 4000000 in
set_option maxRecDepth 100000 in
theorem small_any (A : Option Addr) (n c : Nat) (L : List Nd) (w : World) (hN : Nr w A L) (hn : L.length = n) (hnb : n ≤ 20000) (hs : ∀ x ∈ L, x.set.length ≤ 1000000) :
    Calls Try.prog 49 #[tr A n c] w (RetQ w) := by
  have HN := Lib.hid hN; have HLN := Lib.hid hn; have HS := Lib.hid hs
  clear hN hn hs
  have ha0 := (Below.refl w.heap.size w).alloc (Nat.le_refl _) (.cells #[.slice A n c] 24)
  have hGA := heap_new w (.cells #[.slice A n c] 24)
  have hz : (w.alloc (.cells #[.slice A n c] 24)).heap.size = w.heap.size + 1 := by simp
  go_enter Try.func49, Try.ntmps49
  go_upto_region 1 with fail
  generalize w.alloc (.cells #[.slice A n c] 24) = W0 at *
  have HST := Lib.hid (states_any A n c L W0 (HN.out.below ha0) HLN.out hnb HS.out)
  have HA0 := Lib.hid ha0
  have HO0 := Lib.hid hGA
  obtain ⟨a0, _⟩ := obj29 hGA
  clear hGA ha0
  go_wp2_with fail
  refine HST.out.mono ?_
  rintro e w1 ⟨v, rfl, hb1⟩
  have HB0 := Lib.hid (HA0.out.trans (hb1.mono HA0.out.size))
  have hO0 := keepL HO0.out hb1
  obtain ⟨o1, _⟩ := obj29 hO0
  have HPR := Lib.hid (product_any A n c L w1 ((HN.out.below HA0.out).below hb1) HLN.out hnb HS.out)
  have hw1 := hb1.size
  clear hb1 a0 hO0
  by_cases hv : v ≤ 36
  · have d1 : decide (v ≤ 36) = true := decide_eq_true hv
    go_wp2_with fail
    refine HPR.out.mono ?_
    rintro e w2 ⟨u, rfl, hb2⟩
    have HB2 := Lib.hid (HB0.out.trans (hb2.mono HB0.out.size))
    by_cases hu : u ≤ 30
    · have d2 : decide (u ≤ 30) = true := decide_eq_true hu
      go_wp2_with fail
      go_ret
      exact ⟨_, rfl, HB2.out⟩
    · have d2 : decide (u ≤ 30) = false := decide_eq_false hu
      go_wp2_with fail
      go_ret
      exact ⟨_, rfl, HB2.out⟩
  · have d1 : decide (v ≤ 36) = false := decide_eq_false hv
    go_wp2_with fail
    go_ret
    exact ⟨_, rfl, HB0.out⟩
set_option maxHeartbeats 4000000 in
set_option maxRecDepth 100000 in
theorem small2_any (t : Tree) (A : Option Addr) (n c : Nat) (w : World) (ht : Mk t) (hN : Nr w A (flat 0 t)) (hA : A = none → flat 0 t = [] ∧ c = 0) (hn : size t = n) (hnb : n ≤ 20000) :
    Calls Try.prog 34 #[tr A n c] w (RetQ w) := by
  have ha0 := (Below.refl w.heap.size w).alloc (Nat.le_refl _) (.cells #[.slice A n c] 24)
  have hGA := heap_new w (.cells #[.slice A n c] 24)
  have HSM := Lib.hid (flat_small _ 0 (num_mk t 0 ht))
  have HLE := Lib.hid (show (flat 0 (num 0 t)).length = n by rw [flat_len, num_size]; exact hn)
  have HNU := Lib.hid (number_any t A n c (w.alloc (.cells #[.slice A n c] 24)) (Mk.ok t ht) (hN.below ha0) hA hn hnb)
  clear hN hA ht
  go_enter Try.func34, Try.ntmps34
  go_upto_region 1 with fail
  generalize w.alloc (.cells #[.slice A n c] 24) = W0 at *
  have HA0 := Lib.hid ha0
  obtain ⟨a0, _⟩ := obj29 hGA
  clear hGA ha0
  go_wp2_with fail
  refine HNU.out.mono ?_
  rintro e w1 ⟨A1, c1, rfl, hN1, hA1, hb1⟩
  rw [HLE.out]
  have HB0 := Lib.hid (HA0.out.trans (hb1.mono HA0.out.size))
  have HSL := Lib.hid (small_any A1 n c1 _ w1 hN1 HLE.out hnb HSM.out)
  clear hN1 hA1 hb1 a0
  go_wp2_with fail
  refine HSL.out.mono ?_
  rintro e w2 ⟨q, rfl, hb2⟩
  have HB2 := Lib.hid (HB0.out.trans (hb2.mono HB0.out.size))
  go_wp2_with fail
  go_ret
  exact ⟨_, rfl, HB2.out⟩
end Go.Proofs.Ytceeimolfalmpaa

namespace Go.Proofs.Ytceeimolfalmpaa
open Go.RowKit ObSets ObTree ObTree.Tree

theorem alloc_at {w : World} {o : Obj} {b : Nat} (h : b = w.heap.size) : (w.alloc o).heap[b]? = some o := by subst h; exact heap_new w o
theorem alloc_old {w : World} {o o' : Obj} {b : Nat} (h : w.heap[b]? = some o') : (w.alloc o).heap[b]? = some o' := keepL h ((Below.refl _ _).alloc (Nat.le_refl _) o)
theorem two_at {W : World} {b : Nat} {x y : Value} {t : TypeId} (h : W.heap[b]? = some (.cells #[x, y] t (0, 0))) : W.cell? ⟨b, 0, none⟩ = some x ∧ W.cell? ⟨b, 1, none⟩ = some y := by simp [World.cell?, h]
/-- What hands back a repeat's node. -/
def RetRep (w : World) (e : Ending) (w' : World) : Prop := ∃ mn mx : Int, e = .returned (nv ⟨7, 0, 0, [], mn, mx, 0⟩ (.slice none 0 0)) ∧ (0 ≤ mn ∧ mn ≤ 255 ∧ (mx = -1 ∨ mn ≤ mx ∧ mx ≤ 255)) ∧ Below w.heap.size w w'
set_option maxHeartbeats 4000000 in
set_option maxRecDepth 100000 in
theorem times_c (k : Nat) (hk : k < 10) (w : World) : Calls Try.prog 33 #[.int .i64 (k : Int)] w (RetRep w) := by
  have F0 : ((((((((((((w.alloc (.cells #[.int .i64 0, .int .i64 0, .int .i64 0, .slice none 0 0, .int .i64 0, .int .i64 0, .int .i64 0] 35)).alloc (.cells #[.int .i64 0, .int .i64 (-1)] 3)).alloc (.cells #[.int .i64 1, .int .i64 (-1)] 3)).alloc (.cells #[.int .i64 0, .int .i64 1] 3)).alloc (.cells #[.int .i64 2, .int .i64 2] 3)).alloc (.cells #[.int .i64 1, .int .i64 3] 3)).alloc (.cells #[.int .i64 0, .int .i64 0] 3)).alloc (.cells #[.int .i64 0, .int .i64 2] 3)).alloc (.cells #[.int .i64 2, .int .i64 (-1)] 3)).alloc (.cells #[.int .i64 3, .int .i64 3] 3)).alloc (.cells #[.int .i64 1, .int .i64 1] 3)).alloc (.cells #[.slice (some ⟨w.heap.size + 1, 0, none⟩) 2 2, .slice (some ⟨w.heap.size + 1 + 1, 0, none⟩) 2 2, .slice (some ⟨w.heap.size + 1 + 1 + 1, 0, none⟩) 2 2, .slice (some ⟨w.heap.size + 1 + 1 + 1 + 1, 0, none⟩) 2 2, .slice (some ⟨w.heap.size + 1 + 1 + 1 + 1 + 1, 0, none⟩) 2 2, .slice (some ⟨w.heap.size + 1 + 1 + 1 + 1 + 1 + 1, 0, none⟩) 2 2, .slice (some ⟨w.heap.size + 1 + 1 + 1 + 1 + 1 + 1 + 1, 0, none⟩) 2 2, .slice (some ⟨w.heap.size + 1 + 1 + 1 + 1 + 1 + 1 + 1 + 1, 0, none⟩) 2 2, .slice (some ⟨w.heap.size + 1 + 1 + 1 + 1 + 1 + 1 + 1 + 1 + 1, 0, none⟩) 2 2, .slice (some ⟨w.heap.size + 1 + 1 + 1 + 1 + 1 + 1 + 1 + 1 + 1 + 1, 0, none⟩) 2 2] 29)).heap[w.heap.size]? = some (.cells #[.int .i64 0, .int .i64 0, .int .i64 0, .slice none 0 0, .int .i64 0, .int .i64 0, .int .i64 0] 35) := by
    repeat (first | exact alloc_at (by first | with_reducible rfl | simp only [World.size_alloc]) | refine alloc_old ?_)
  have F1 : ((((((((((((w.alloc (.cells #[.int .i64 0, .int .i64 0, .int .i64 0, .slice none 0 0, .int .i64 0, .int .i64 0, .int .i64 0] 35)).alloc (.cells #[.int .i64 0, .int .i64 (-1)] 3)).alloc (.cells #[.int .i64 1, .int .i64 (-1)] 3)).alloc (.cells #[.int .i64 0, .int .i64 1] 3)).alloc (.cells #[.int .i64 2, .int .i64 2] 3)).alloc (.cells #[.int .i64 1, .int .i64 3] 3)).alloc (.cells #[.int .i64 0, .int .i64 0] 3)).alloc (.cells #[.int .i64 0, .int .i64 2] 3)).alloc (.cells #[.int .i64 2, .int .i64 (-1)] 3)).alloc (.cells #[.int .i64 3, .int .i64 3] 3)).alloc (.cells #[.int .i64 1, .int .i64 1] 3)).alloc (.cells #[.slice (some ⟨w.heap.size + 1, 0, none⟩) 2 2, .slice (some ⟨w.heap.size + 1 + 1, 0, none⟩) 2 2, .slice (some ⟨w.heap.size + 1 + 1 + 1, 0, none⟩) 2 2, .slice (some ⟨w.heap.size + 1 + 1 + 1 + 1, 0, none⟩) 2 2, .slice (some ⟨w.heap.size + 1 + 1 + 1 + 1 + 1, 0, none⟩) 2 2, .slice (some ⟨w.heap.size + 1 + 1 + 1 + 1 + 1 + 1, 0, none⟩) 2 2, .slice (some ⟨w.heap.size + 1 + 1 + 1 + 1 + 1 + 1 + 1, 0, none⟩) 2 2, .slice (some ⟨w.heap.size + 1 + 1 + 1 + 1 + 1 + 1 + 1 + 1, 0, none⟩) 2 2, .slice (some ⟨w.heap.size + 1 + 1 + 1 + 1 + 1 + 1 + 1 + 1 + 1, 0, none⟩) 2 2, .slice (some ⟨w.heap.size + 1 + 1 + 1 + 1 + 1 + 1 + 1 + 1 + 1 + 1, 0, none⟩) 2 2] 29)).heap[w.heap.size + 1]? = some (.cells #[.int .i64 0, .int .i64 (-1)] 3) := by
    repeat (first | exact alloc_at (by first | with_reducible rfl | simp only [World.size_alloc]) | refine alloc_old ?_)
  have F2 : ((((((((((((w.alloc (.cells #[.int .i64 0, .int .i64 0, .int .i64 0, .slice none 0 0, .int .i64 0, .int .i64 0, .int .i64 0] 35)).alloc (.cells #[.int .i64 0, .int .i64 (-1)] 3)).alloc (.cells #[.int .i64 1, .int .i64 (-1)] 3)).alloc (.cells #[.int .i64 0, .int .i64 1] 3)).alloc (.cells #[.int .i64 2, .int .i64 2] 3)).alloc (.cells #[.int .i64 1, .int .i64 3] 3)).alloc (.cells #[.int .i64 0, .int .i64 0] 3)).alloc (.cells #[.int .i64 0, .int .i64 2] 3)).alloc (.cells #[.int .i64 2, .int .i64 (-1)] 3)).alloc (.cells #[.int .i64 3, .int .i64 3] 3)).alloc (.cells #[.int .i64 1, .int .i64 1] 3)).alloc (.cells #[.slice (some ⟨w.heap.size + 1, 0, none⟩) 2 2, .slice (some ⟨w.heap.size + 1 + 1, 0, none⟩) 2 2, .slice (some ⟨w.heap.size + 1 + 1 + 1, 0, none⟩) 2 2, .slice (some ⟨w.heap.size + 1 + 1 + 1 + 1, 0, none⟩) 2 2, .slice (some ⟨w.heap.size + 1 + 1 + 1 + 1 + 1, 0, none⟩) 2 2, .slice (some ⟨w.heap.size + 1 + 1 + 1 + 1 + 1 + 1, 0, none⟩) 2 2, .slice (some ⟨w.heap.size + 1 + 1 + 1 + 1 + 1 + 1 + 1, 0, none⟩) 2 2, .slice (some ⟨w.heap.size + 1 + 1 + 1 + 1 + 1 + 1 + 1 + 1, 0, none⟩) 2 2, .slice (some ⟨w.heap.size + 1 + 1 + 1 + 1 + 1 + 1 + 1 + 1 + 1, 0, none⟩) 2 2, .slice (some ⟨w.heap.size + 1 + 1 + 1 + 1 + 1 + 1 + 1 + 1 + 1 + 1, 0, none⟩) 2 2] 29)).heap[w.heap.size + 1 + 1]? = some (.cells #[.int .i64 1, .int .i64 (-1)] 3) := by
    repeat (first | exact alloc_at (by first | with_reducible rfl | simp only [World.size_alloc]) | refine alloc_old ?_)
  have F3 : ((((((((((((w.alloc (.cells #[.int .i64 0, .int .i64 0, .int .i64 0, .slice none 0 0, .int .i64 0, .int .i64 0, .int .i64 0] 35)).alloc (.cells #[.int .i64 0, .int .i64 (-1)] 3)).alloc (.cells #[.int .i64 1, .int .i64 (-1)] 3)).alloc (.cells #[.int .i64 0, .int .i64 1] 3)).alloc (.cells #[.int .i64 2, .int .i64 2] 3)).alloc (.cells #[.int .i64 1, .int .i64 3] 3)).alloc (.cells #[.int .i64 0, .int .i64 0] 3)).alloc (.cells #[.int .i64 0, .int .i64 2] 3)).alloc (.cells #[.int .i64 2, .int .i64 (-1)] 3)).alloc (.cells #[.int .i64 3, .int .i64 3] 3)).alloc (.cells #[.int .i64 1, .int .i64 1] 3)).alloc (.cells #[.slice (some ⟨w.heap.size + 1, 0, none⟩) 2 2, .slice (some ⟨w.heap.size + 1 + 1, 0, none⟩) 2 2, .slice (some ⟨w.heap.size + 1 + 1 + 1, 0, none⟩) 2 2, .slice (some ⟨w.heap.size + 1 + 1 + 1 + 1, 0, none⟩) 2 2, .slice (some ⟨w.heap.size + 1 + 1 + 1 + 1 + 1, 0, none⟩) 2 2, .slice (some ⟨w.heap.size + 1 + 1 + 1 + 1 + 1 + 1, 0, none⟩) 2 2, .slice (some ⟨w.heap.size + 1 + 1 + 1 + 1 + 1 + 1 + 1, 0, none⟩) 2 2, .slice (some ⟨w.heap.size + 1 + 1 + 1 + 1 + 1 + 1 + 1 + 1, 0, none⟩) 2 2, .slice (some ⟨w.heap.size + 1 + 1 + 1 + 1 + 1 + 1 + 1 + 1 + 1, 0, none⟩) 2 2, .slice (some ⟨w.heap.size + 1 + 1 + 1 + 1 + 1 + 1 + 1 + 1 + 1 + 1, 0, none⟩) 2 2] 29)).heap[w.heap.size + 1 + 1 + 1]? = some (.cells #[.int .i64 0, .int .i64 1] 3) := by
    repeat (first | exact alloc_at (by first | with_reducible rfl | simp only [World.size_alloc]) | refine alloc_old ?_)
  have F4 : ((((((((((((w.alloc (.cells #[.int .i64 0, .int .i64 0, .int .i64 0, .slice none 0 0, .int .i64 0, .int .i64 0, .int .i64 0] 35)).alloc (.cells #[.int .i64 0, .int .i64 (-1)] 3)).alloc (.cells #[.int .i64 1, .int .i64 (-1)] 3)).alloc (.cells #[.int .i64 0, .int .i64 1] 3)).alloc (.cells #[.int .i64 2, .int .i64 2] 3)).alloc (.cells #[.int .i64 1, .int .i64 3] 3)).alloc (.cells #[.int .i64 0, .int .i64 0] 3)).alloc (.cells #[.int .i64 0, .int .i64 2] 3)).alloc (.cells #[.int .i64 2, .int .i64 (-1)] 3)).alloc (.cells #[.int .i64 3, .int .i64 3] 3)).alloc (.cells #[.int .i64 1, .int .i64 1] 3)).alloc (.cells #[.slice (some ⟨w.heap.size + 1, 0, none⟩) 2 2, .slice (some ⟨w.heap.size + 1 + 1, 0, none⟩) 2 2, .slice (some ⟨w.heap.size + 1 + 1 + 1, 0, none⟩) 2 2, .slice (some ⟨w.heap.size + 1 + 1 + 1 + 1, 0, none⟩) 2 2, .slice (some ⟨w.heap.size + 1 + 1 + 1 + 1 + 1, 0, none⟩) 2 2, .slice (some ⟨w.heap.size + 1 + 1 + 1 + 1 + 1 + 1, 0, none⟩) 2 2, .slice (some ⟨w.heap.size + 1 + 1 + 1 + 1 + 1 + 1 + 1, 0, none⟩) 2 2, .slice (some ⟨w.heap.size + 1 + 1 + 1 + 1 + 1 + 1 + 1 + 1, 0, none⟩) 2 2, .slice (some ⟨w.heap.size + 1 + 1 + 1 + 1 + 1 + 1 + 1 + 1 + 1, 0, none⟩) 2 2, .slice (some ⟨w.heap.size + 1 + 1 + 1 + 1 + 1 + 1 + 1 + 1 + 1 + 1, 0, none⟩) 2 2] 29)).heap[w.heap.size + 1 + 1 + 1 + 1]? = some (.cells #[.int .i64 2, .int .i64 2] 3) := by
    repeat (first | exact alloc_at (by first | with_reducible rfl | simp only [World.size_alloc]) | refine alloc_old ?_)
  have F5 : ((((((((((((w.alloc (.cells #[.int .i64 0, .int .i64 0, .int .i64 0, .slice none 0 0, .int .i64 0, .int .i64 0, .int .i64 0] 35)).alloc (.cells #[.int .i64 0, .int .i64 (-1)] 3)).alloc (.cells #[.int .i64 1, .int .i64 (-1)] 3)).alloc (.cells #[.int .i64 0, .int .i64 1] 3)).alloc (.cells #[.int .i64 2, .int .i64 2] 3)).alloc (.cells #[.int .i64 1, .int .i64 3] 3)).alloc (.cells #[.int .i64 0, .int .i64 0] 3)).alloc (.cells #[.int .i64 0, .int .i64 2] 3)).alloc (.cells #[.int .i64 2, .int .i64 (-1)] 3)).alloc (.cells #[.int .i64 3, .int .i64 3] 3)).alloc (.cells #[.int .i64 1, .int .i64 1] 3)).alloc (.cells #[.slice (some ⟨w.heap.size + 1, 0, none⟩) 2 2, .slice (some ⟨w.heap.size + 1 + 1, 0, none⟩) 2 2, .slice (some ⟨w.heap.size + 1 + 1 + 1, 0, none⟩) 2 2, .slice (some ⟨w.heap.size + 1 + 1 + 1 + 1, 0, none⟩) 2 2, .slice (some ⟨w.heap.size + 1 + 1 + 1 + 1 + 1, 0, none⟩) 2 2, .slice (some ⟨w.heap.size + 1 + 1 + 1 + 1 + 1 + 1, 0, none⟩) 2 2, .slice (some ⟨w.heap.size + 1 + 1 + 1 + 1 + 1 + 1 + 1, 0, none⟩) 2 2, .slice (some ⟨w.heap.size + 1 + 1 + 1 + 1 + 1 + 1 + 1 + 1, 0, none⟩) 2 2, .slice (some ⟨w.heap.size + 1 + 1 + 1 + 1 + 1 + 1 + 1 + 1 + 1, 0, none⟩) 2 2, .slice (some ⟨w.heap.size + 1 + 1 + 1 + 1 + 1 + 1 + 1 + 1 + 1 + 1, 0, none⟩) 2 2] 29)).heap[w.heap.size + 1 + 1 + 1 + 1 + 1]? = some (.cells #[.int .i64 1, .int .i64 3] 3) := by
    repeat (first | exact alloc_at (by first | with_reducible rfl | simp only [World.size_alloc]) | refine alloc_old ?_)
  have F6 : ((((((((((((w.alloc (.cells #[.int .i64 0, .int .i64 0, .int .i64 0, .slice none 0 0, .int .i64 0, .int .i64 0, .int .i64 0] 35)).alloc (.cells #[.int .i64 0, .int .i64 (-1)] 3)).alloc (.cells #[.int .i64 1, .int .i64 (-1)] 3)).alloc (.cells #[.int .i64 0, .int .i64 1] 3)).alloc (.cells #[.int .i64 2, .int .i64 2] 3)).alloc (.cells #[.int .i64 1, .int .i64 3] 3)).alloc (.cells #[.int .i64 0, .int .i64 0] 3)).alloc (.cells #[.int .i64 0, .int .i64 2] 3)).alloc (.cells #[.int .i64 2, .int .i64 (-1)] 3)).alloc (.cells #[.int .i64 3, .int .i64 3] 3)).alloc (.cells #[.int .i64 1, .int .i64 1] 3)).alloc (.cells #[.slice (some ⟨w.heap.size + 1, 0, none⟩) 2 2, .slice (some ⟨w.heap.size + 1 + 1, 0, none⟩) 2 2, .slice (some ⟨w.heap.size + 1 + 1 + 1, 0, none⟩) 2 2, .slice (some ⟨w.heap.size + 1 + 1 + 1 + 1, 0, none⟩) 2 2, .slice (some ⟨w.heap.size + 1 + 1 + 1 + 1 + 1, 0, none⟩) 2 2, .slice (some ⟨w.heap.size + 1 + 1 + 1 + 1 + 1 + 1, 0, none⟩) 2 2, .slice (some ⟨w.heap.size + 1 + 1 + 1 + 1 + 1 + 1 + 1, 0, none⟩) 2 2, .slice (some ⟨w.heap.size + 1 + 1 + 1 + 1 + 1 + 1 + 1 + 1, 0, none⟩) 2 2, .slice (some ⟨w.heap.size + 1 + 1 + 1 + 1 + 1 + 1 + 1 + 1 + 1, 0, none⟩) 2 2, .slice (some ⟨w.heap.size + 1 + 1 + 1 + 1 + 1 + 1 + 1 + 1 + 1 + 1, 0, none⟩) 2 2] 29)).heap[w.heap.size + 1 + 1 + 1 + 1 + 1 + 1]? = some (.cells #[.int .i64 0, .int .i64 0] 3) := by
    repeat (first | exact alloc_at (by first | with_reducible rfl | simp only [World.size_alloc]) | refine alloc_old ?_)
  have F7 : ((((((((((((w.alloc (.cells #[.int .i64 0, .int .i64 0, .int .i64 0, .slice none 0 0, .int .i64 0, .int .i64 0, .int .i64 0] 35)).alloc (.cells #[.int .i64 0, .int .i64 (-1)] 3)).alloc (.cells #[.int .i64 1, .int .i64 (-1)] 3)).alloc (.cells #[.int .i64 0, .int .i64 1] 3)).alloc (.cells #[.int .i64 2, .int .i64 2] 3)).alloc (.cells #[.int .i64 1, .int .i64 3] 3)).alloc (.cells #[.int .i64 0, .int .i64 0] 3)).alloc (.cells #[.int .i64 0, .int .i64 2] 3)).alloc (.cells #[.int .i64 2, .int .i64 (-1)] 3)).alloc (.cells #[.int .i64 3, .int .i64 3] 3)).alloc (.cells #[.int .i64 1, .int .i64 1] 3)).alloc (.cells #[.slice (some ⟨w.heap.size + 1, 0, none⟩) 2 2, .slice (some ⟨w.heap.size + 1 + 1, 0, none⟩) 2 2, .slice (some ⟨w.heap.size + 1 + 1 + 1, 0, none⟩) 2 2, .slice (some ⟨w.heap.size + 1 + 1 + 1 + 1, 0, none⟩) 2 2, .slice (some ⟨w.heap.size + 1 + 1 + 1 + 1 + 1, 0, none⟩) 2 2, .slice (some ⟨w.heap.size + 1 + 1 + 1 + 1 + 1 + 1, 0, none⟩) 2 2, .slice (some ⟨w.heap.size + 1 + 1 + 1 + 1 + 1 + 1 + 1, 0, none⟩) 2 2, .slice (some ⟨w.heap.size + 1 + 1 + 1 + 1 + 1 + 1 + 1 + 1, 0, none⟩) 2 2, .slice (some ⟨w.heap.size + 1 + 1 + 1 + 1 + 1 + 1 + 1 + 1 + 1, 0, none⟩) 2 2, .slice (some ⟨w.heap.size + 1 + 1 + 1 + 1 + 1 + 1 + 1 + 1 + 1 + 1, 0, none⟩) 2 2] 29)).heap[w.heap.size + 1 + 1 + 1 + 1 + 1 + 1 + 1]? = some (.cells #[.int .i64 0, .int .i64 2] 3) := by
    repeat (first | exact alloc_at (by first | with_reducible rfl | simp only [World.size_alloc]) | refine alloc_old ?_)
  have F8 : ((((((((((((w.alloc (.cells #[.int .i64 0, .int .i64 0, .int .i64 0, .slice none 0 0, .int .i64 0, .int .i64 0, .int .i64 0] 35)).alloc (.cells #[.int .i64 0, .int .i64 (-1)] 3)).alloc (.cells #[.int .i64 1, .int .i64 (-1)] 3)).alloc (.cells #[.int .i64 0, .int .i64 1] 3)).alloc (.cells #[.int .i64 2, .int .i64 2] 3)).alloc (.cells #[.int .i64 1, .int .i64 3] 3)).alloc (.cells #[.int .i64 0, .int .i64 0] 3)).alloc (.cells #[.int .i64 0, .int .i64 2] 3)).alloc (.cells #[.int .i64 2, .int .i64 (-1)] 3)).alloc (.cells #[.int .i64 3, .int .i64 3] 3)).alloc (.cells #[.int .i64 1, .int .i64 1] 3)).alloc (.cells #[.slice (some ⟨w.heap.size + 1, 0, none⟩) 2 2, .slice (some ⟨w.heap.size + 1 + 1, 0, none⟩) 2 2, .slice (some ⟨w.heap.size + 1 + 1 + 1, 0, none⟩) 2 2, .slice (some ⟨w.heap.size + 1 + 1 + 1 + 1, 0, none⟩) 2 2, .slice (some ⟨w.heap.size + 1 + 1 + 1 + 1 + 1, 0, none⟩) 2 2, .slice (some ⟨w.heap.size + 1 + 1 + 1 + 1 + 1 + 1, 0, none⟩) 2 2, .slice (some ⟨w.heap.size + 1 + 1 + 1 + 1 + 1 + 1 + 1, 0, none⟩) 2 2, .slice (some ⟨w.heap.size + 1 + 1 + 1 + 1 + 1 + 1 + 1 + 1, 0, none⟩) 2 2, .slice (some ⟨w.heap.size + 1 + 1 + 1 + 1 + 1 + 1 + 1 + 1 + 1, 0, none⟩) 2 2, .slice (some ⟨w.heap.size + 1 + 1 + 1 + 1 + 1 + 1 + 1 + 1 + 1 + 1, 0, none⟩) 2 2] 29)).heap[w.heap.size + 1 + 1 + 1 + 1 + 1 + 1 + 1 + 1]? = some (.cells #[.int .i64 2, .int .i64 (-1)] 3) := by
    repeat (first | exact alloc_at (by first | with_reducible rfl | simp only [World.size_alloc]) | refine alloc_old ?_)
  have F9 : ((((((((((((w.alloc (.cells #[.int .i64 0, .int .i64 0, .int .i64 0, .slice none 0 0, .int .i64 0, .int .i64 0, .int .i64 0] 35)).alloc (.cells #[.int .i64 0, .int .i64 (-1)] 3)).alloc (.cells #[.int .i64 1, .int .i64 (-1)] 3)).alloc (.cells #[.int .i64 0, .int .i64 1] 3)).alloc (.cells #[.int .i64 2, .int .i64 2] 3)).alloc (.cells #[.int .i64 1, .int .i64 3] 3)).alloc (.cells #[.int .i64 0, .int .i64 0] 3)).alloc (.cells #[.int .i64 0, .int .i64 2] 3)).alloc (.cells #[.int .i64 2, .int .i64 (-1)] 3)).alloc (.cells #[.int .i64 3, .int .i64 3] 3)).alloc (.cells #[.int .i64 1, .int .i64 1] 3)).alloc (.cells #[.slice (some ⟨w.heap.size + 1, 0, none⟩) 2 2, .slice (some ⟨w.heap.size + 1 + 1, 0, none⟩) 2 2, .slice (some ⟨w.heap.size + 1 + 1 + 1, 0, none⟩) 2 2, .slice (some ⟨w.heap.size + 1 + 1 + 1 + 1, 0, none⟩) 2 2, .slice (some ⟨w.heap.size + 1 + 1 + 1 + 1 + 1, 0, none⟩) 2 2, .slice (some ⟨w.heap.size + 1 + 1 + 1 + 1 + 1 + 1, 0, none⟩) 2 2, .slice (some ⟨w.heap.size + 1 + 1 + 1 + 1 + 1 + 1 + 1, 0, none⟩) 2 2, .slice (some ⟨w.heap.size + 1 + 1 + 1 + 1 + 1 + 1 + 1 + 1, 0, none⟩) 2 2, .slice (some ⟨w.heap.size + 1 + 1 + 1 + 1 + 1 + 1 + 1 + 1 + 1, 0, none⟩) 2 2, .slice (some ⟨w.heap.size + 1 + 1 + 1 + 1 + 1 + 1 + 1 + 1 + 1 + 1, 0, none⟩) 2 2] 29)).heap[w.heap.size + 1 + 1 + 1 + 1 + 1 + 1 + 1 + 1 + 1]? = some (.cells #[.int .i64 3, .int .i64 3] 3) := by
    repeat (first | exact alloc_at (by first | with_reducible rfl | simp only [World.size_alloc]) | refine alloc_old ?_)
  have F10 : ((((((((((((w.alloc (.cells #[.int .i64 0, .int .i64 0, .int .i64 0, .slice none 0 0, .int .i64 0, .int .i64 0, .int .i64 0] 35)).alloc (.cells #[.int .i64 0, .int .i64 (-1)] 3)).alloc (.cells #[.int .i64 1, .int .i64 (-1)] 3)).alloc (.cells #[.int .i64 0, .int .i64 1] 3)).alloc (.cells #[.int .i64 2, .int .i64 2] 3)).alloc (.cells #[.int .i64 1, .int .i64 3] 3)).alloc (.cells #[.int .i64 0, .int .i64 0] 3)).alloc (.cells #[.int .i64 0, .int .i64 2] 3)).alloc (.cells #[.int .i64 2, .int .i64 (-1)] 3)).alloc (.cells #[.int .i64 3, .int .i64 3] 3)).alloc (.cells #[.int .i64 1, .int .i64 1] 3)).alloc (.cells #[.slice (some ⟨w.heap.size + 1, 0, none⟩) 2 2, .slice (some ⟨w.heap.size + 1 + 1, 0, none⟩) 2 2, .slice (some ⟨w.heap.size + 1 + 1 + 1, 0, none⟩) 2 2, .slice (some ⟨w.heap.size + 1 + 1 + 1 + 1, 0, none⟩) 2 2, .slice (some ⟨w.heap.size + 1 + 1 + 1 + 1 + 1, 0, none⟩) 2 2, .slice (some ⟨w.heap.size + 1 + 1 + 1 + 1 + 1 + 1, 0, none⟩) 2 2, .slice (some ⟨w.heap.size + 1 + 1 + 1 + 1 + 1 + 1 + 1, 0, none⟩) 2 2, .slice (some ⟨w.heap.size + 1 + 1 + 1 + 1 + 1 + 1 + 1 + 1, 0, none⟩) 2 2, .slice (some ⟨w.heap.size + 1 + 1 + 1 + 1 + 1 + 1 + 1 + 1 + 1, 0, none⟩) 2 2, .slice (some ⟨w.heap.size + 1 + 1 + 1 + 1 + 1 + 1 + 1 + 1 + 1 + 1, 0, none⟩) 2 2] 29)).heap[w.heap.size + 1 + 1 + 1 + 1 + 1 + 1 + 1 + 1 + 1 + 1]? = some (.cells #[.int .i64 1, .int .i64 1] 3) := by
    repeat (first | exact alloc_at (by first | with_reducible rfl | simp only [World.size_alloc]) | refine alloc_old ?_)
  have F11 : ((((((((((((w.alloc (.cells #[.int .i64 0, .int .i64 0, .int .i64 0, .slice none 0 0, .int .i64 0, .int .i64 0, .int .i64 0] 35)).alloc (.cells #[.int .i64 0, .int .i64 (-1)] 3)).alloc (.cells #[.int .i64 1, .int .i64 (-1)] 3)).alloc (.cells #[.int .i64 0, .int .i64 1] 3)).alloc (.cells #[.int .i64 2, .int .i64 2] 3)).alloc (.cells #[.int .i64 1, .int .i64 3] 3)).alloc (.cells #[.int .i64 0, .int .i64 0] 3)).alloc (.cells #[.int .i64 0, .int .i64 2] 3)).alloc (.cells #[.int .i64 2, .int .i64 (-1)] 3)).alloc (.cells #[.int .i64 3, .int .i64 3] 3)).alloc (.cells #[.int .i64 1, .int .i64 1] 3)).alloc (.cells #[.slice (some ⟨w.heap.size + 1, 0, none⟩) 2 2, .slice (some ⟨w.heap.size + 1 + 1, 0, none⟩) 2 2, .slice (some ⟨w.heap.size + 1 + 1 + 1, 0, none⟩) 2 2, .slice (some ⟨w.heap.size + 1 + 1 + 1 + 1, 0, none⟩) 2 2, .slice (some ⟨w.heap.size + 1 + 1 + 1 + 1 + 1, 0, none⟩) 2 2, .slice (some ⟨w.heap.size + 1 + 1 + 1 + 1 + 1 + 1, 0, none⟩) 2 2, .slice (some ⟨w.heap.size + 1 + 1 + 1 + 1 + 1 + 1 + 1, 0, none⟩) 2 2, .slice (some ⟨w.heap.size + 1 + 1 + 1 + 1 + 1 + 1 + 1 + 1, 0, none⟩) 2 2, .slice (some ⟨w.heap.size + 1 + 1 + 1 + 1 + 1 + 1 + 1 + 1 + 1, 0, none⟩) 2 2, .slice (some ⟨w.heap.size + 1 + 1 + 1 + 1 + 1 + 1 + 1 + 1 + 1 + 1, 0, none⟩) 2 2] 29)).heap[w.heap.size + 1 + 1 + 1 + 1 + 1 + 1 + 1 + 1 + 1 + 1 + 1]? = some (.cells #[.slice (some ⟨w.heap.size + 1, 0, none⟩) 2 2, .slice (some ⟨w.heap.size + 1 + 1, 0, none⟩) 2 2, .slice (some ⟨w.heap.size + 1 + 1 + 1, 0, none⟩) 2 2, .slice (some ⟨w.heap.size + 1 + 1 + 1 + 1, 0, none⟩) 2 2, .slice (some ⟨w.heap.size + 1 + 1 + 1 + 1 + 1, 0, none⟩) 2 2, .slice (some ⟨w.heap.size + 1 + 1 + 1 + 1 + 1 + 1, 0, none⟩) 2 2, .slice (some ⟨w.heap.size + 1 + 1 + 1 + 1 + 1 + 1 + 1, 0, none⟩) 2 2, .slice (some ⟨w.heap.size + 1 + 1 + 1 + 1 + 1 + 1 + 1 + 1, 0, none⟩) 2 2, .slice (some ⟨w.heap.size + 1 + 1 + 1 + 1 + 1 + 1 + 1 + 1 + 1, 0, none⟩) 2 2, .slice (some ⟨w.heap.size + 1 + 1 + 1 + 1 + 1 + 1 + 1 + 1 + 1 + 1, 0, none⟩) 2 2] 29) := by
    repeat (first | exact alloc_at (by first | with_reducible rfl | simp only [World.size_alloc]) | refine alloc_old ?_)
  have hsz : ((((((((((((w.alloc (.cells #[.int .i64 0, .int .i64 0, .int .i64 0, .slice none 0 0, .int .i64 0, .int .i64 0, .int .i64 0] 35)).alloc (.cells #[.int .i64 0, .int .i64 (-1)] 3)).alloc (.cells #[.int .i64 1, .int .i64 (-1)] 3)).alloc (.cells #[.int .i64 0, .int .i64 1] 3)).alloc (.cells #[.int .i64 2, .int .i64 2] 3)).alloc (.cells #[.int .i64 1, .int .i64 3] 3)).alloc (.cells #[.int .i64 0, .int .i64 0] 3)).alloc (.cells #[.int .i64 0, .int .i64 2] 3)).alloc (.cells #[.int .i64 2, .int .i64 (-1)] 3)).alloc (.cells #[.int .i64 3, .int .i64 3] 3)).alloc (.cells #[.int .i64 1, .int .i64 1] 3)).alloc (.cells #[.slice (some ⟨w.heap.size + 1, 0, none⟩) 2 2, .slice (some ⟨w.heap.size + 1 + 1, 0, none⟩) 2 2, .slice (some ⟨w.heap.size + 1 + 1 + 1, 0, none⟩) 2 2, .slice (some ⟨w.heap.size + 1 + 1 + 1 + 1, 0, none⟩) 2 2, .slice (some ⟨w.heap.size + 1 + 1 + 1 + 1 + 1, 0, none⟩) 2 2, .slice (some ⟨w.heap.size + 1 + 1 + 1 + 1 + 1 + 1, 0, none⟩) 2 2, .slice (some ⟨w.heap.size + 1 + 1 + 1 + 1 + 1 + 1 + 1, 0, none⟩) 2 2, .slice (some ⟨w.heap.size + 1 + 1 + 1 + 1 + 1 + 1 + 1 + 1, 0, none⟩) 2 2, .slice (some ⟨w.heap.size + 1 + 1 + 1 + 1 + 1 + 1 + 1 + 1 + 1, 0, none⟩) 2 2, .slice (some ⟨w.heap.size + 1 + 1 + 1 + 1 + 1 + 1 + 1 + 1 + 1 + 1, 0, none⟩) 2 2] 29)).heap.size = w.heap.size + 1 + 1 + 1 + 1 + 1 + 1 + 1 + 1 + 1 + 1 + 1 + 1 := by simp only [World.size_alloc]
  have HB := Lib.hid (((((((((((((Below.refl w.heap.size w).alloc (by first | exact Nat.le_refl _ | (simp only [World.size_alloc]; omega)) (.cells #[.int .i64 0, .int .i64 0, .int .i64 0, .slice none 0 0, .int .i64 0, .int .i64 0, .int .i64 0] 35)).alloc (by first | exact Nat.le_refl _ | (simp only [World.size_alloc]; omega)) (.cells #[.int .i64 0, .int .i64 (-1)] 3)).alloc (by first | exact Nat.le_refl _ | (simp only [World.size_alloc]; omega)) (.cells #[.int .i64 1, .int .i64 (-1)] 3)).alloc (by first | exact Nat.le_refl _ | (simp only [World.size_alloc]; omega)) (.cells #[.int .i64 0, .int .i64 1] 3)).alloc (by first | exact Nat.le_refl _ | (simp only [World.size_alloc]; omega)) (.cells #[.int .i64 2, .int .i64 2] 3)).alloc (by first | exact Nat.le_refl _ | (simp only [World.size_alloc]; omega)) (.cells #[.int .i64 1, .int .i64 3] 3)).alloc (by first | exact Nat.le_refl _ | (simp only [World.size_alloc]; omega)) (.cells #[.int .i64 0, .int .i64 0] 3)).alloc (by first | exact Nat.le_refl _ | (simp only [World.size_alloc]; omega)) (.cells #[.int .i64 0, .int .i64 2] 3)).alloc (by first | exact Nat.le_refl _ | (simp only [World.size_alloc]; omega)) (.cells #[.int .i64 2, .int .i64 (-1)] 3)).alloc (by first | exact Nat.le_refl _ | (simp only [World.size_alloc]; omega)) (.cells #[.int .i64 3, .int .i64 3] 3)).alloc (by first | exact Nat.le_refl _ | (simp only [World.size_alloc]; omega)) (.cells #[.int .i64 1, .int .i64 1] 3)).alloc (by first | exact Nat.le_refl _ | (simp only [World.size_alloc]; omega)) (.cells #[.slice (some ⟨w.heap.size + 1, 0, none⟩) 2 2, .slice (some ⟨w.heap.size + 1 + 1, 0, none⟩) 2 2, .slice (some ⟨w.heap.size + 1 + 1 + 1, 0, none⟩) 2 2, .slice (some ⟨w.heap.size + 1 + 1 + 1 + 1, 0, none⟩) 2 2, .slice (some ⟨w.heap.size + 1 + 1 + 1 + 1 + 1, 0, none⟩) 2 2, .slice (some ⟨w.heap.size + 1 + 1 + 1 + 1 + 1 + 1, 0, none⟩) 2 2, .slice (some ⟨w.heap.size + 1 + 1 + 1 + 1 + 1 + 1 + 1, 0, none⟩) 2 2, .slice (some ⟨w.heap.size + 1 + 1 + 1 + 1 + 1 + 1 + 1 + 1, 0, none⟩) 2 2, .slice (some ⟨w.heap.size + 1 + 1 + 1 + 1 + 1 + 1 + 1 + 1 + 1, 0, none⟩) 2 2, .slice (some ⟨w.heap.size + 1 + 1 + 1 + 1 + 1 + 1 + 1 + 1 + 1 + 1, 0, none⟩) 2 2] 29))
  go_enter Try.func33, Try.ntmps33
  go_upto_region 2 with fail
  generalize ((((((((((((w.alloc (.cells #[.int .i64 0, .int .i64 0, .int .i64 0, .slice none 0 0, .int .i64 0, .int .i64 0, .int .i64 0] 35)).alloc (.cells #[.int .i64 0, .int .i64 (-1)] 3)).alloc (.cells #[.int .i64 1, .int .i64 (-1)] 3)).alloc (.cells #[.int .i64 0, .int .i64 1] 3)).alloc (.cells #[.int .i64 2, .int .i64 2] 3)).alloc (.cells #[.int .i64 1, .int .i64 3] 3)).alloc (.cells #[.int .i64 0, .int .i64 0] 3)).alloc (.cells #[.int .i64 0, .int .i64 2] 3)).alloc (.cells #[.int .i64 2, .int .i64 (-1)] 3)).alloc (.cells #[.int .i64 3, .int .i64 3] 3)).alloc (.cells #[.int .i64 1, .int .i64 1] 3)).alloc (.cells #[.slice (some ⟨w.heap.size + 1, 0, none⟩) 2 2, .slice (some ⟨w.heap.size + 1 + 1, 0, none⟩) 2 2, .slice (some ⟨w.heap.size + 1 + 1 + 1, 0, none⟩) 2 2, .slice (some ⟨w.heap.size + 1 + 1 + 1 + 1, 0, none⟩) 2 2, .slice (some ⟨w.heap.size + 1 + 1 + 1 + 1 + 1, 0, none⟩) 2 2, .slice (some ⟨w.heap.size + 1 + 1 + 1 + 1 + 1 + 1, 0, none⟩) 2 2, .slice (some ⟨w.heap.size + 1 + 1 + 1 + 1 + 1 + 1 + 1, 0, none⟩) 2 2, .slice (some ⟨w.heap.size + 1 + 1 + 1 + 1 + 1 + 1 + 1 + 1, 0, none⟩) 2 2, .slice (some ⟨w.heap.size + 1 + 1 + 1 + 1 + 1 + 1 + 1 + 1 + 1, 0, none⟩) 2 2, .slice (some ⟨w.heap.size + 1 + 1 + 1 + 1 + 1 + 1 + 1 + 1 + 1 + 1, 0, none⟩) 2 2] 29)) = W1 at *
  obtain ⟨rw, hrw⟩ : ∃ rw, w.heap.size + 1 + 1 + 1 + 1 + 1 + 1 + 1 + 1 + 1 + 1 + 1 = rw := ⟨_, rfl⟩
  rw [hrw] at F11 ⊢
  have hx : ∃ (b : Nat) (mn mx : Int), W1.cell? ⟨rw, k, none⟩ = some (.slice (some ⟨b, 0, none⟩) 2 2) ∧ W1.cell? ⟨b, 0, none⟩ = some (.int .i64 mn) ∧ W1.cell? ⟨b, 1, none⟩ = some (.int .i64 mx) ∧ (0 ≤ mn ∧ mn ≤ 255 ∧ (mx = -1 ∨ mn ≤ mx ∧ mx ≤ 255)) := by
    match k, hk with
    | 0, _ => exact ⟨_, _, _, by simp [World.cell?, F11], (two_at F1).1, (two_at F1).2, by decide⟩
    | 1, _ => exact ⟨_, _, _, by simp [World.cell?, F11], (two_at F2).1, (two_at F2).2, by decide⟩
    | 2, _ => exact ⟨_, _, _, by simp [World.cell?, F11], (two_at F3).1, (two_at F3).2, by decide⟩
    | 3, _ => exact ⟨_, _, _, by simp [World.cell?, F11], (two_at F4).1, (two_at F4).2, by decide⟩
    | 4, _ => exact ⟨_, _, _, by simp [World.cell?, F11], (two_at F5).1, (two_at F5).2, by decide⟩
    | 5, _ => exact ⟨_, _, _, by simp [World.cell?, F11], (two_at F6).1, (two_at F6).2, by decide⟩
    | 6, _ => exact ⟨_, _, _, by simp [World.cell?, F11], (two_at F7).1, (two_at F7).2, by decide⟩
    | 7, _ => exact ⟨_, _, _, by simp [World.cell?, F11], (two_at F8).1, (two_at F8).2, by decide⟩
    | 8, _ => exact ⟨_, _, _, by simp [World.cell?, F11], (two_at F9).1, (two_at F9).2, by decide⟩
    | 9, _ => exact ⟨_, _, _, by simp [World.cell?, F11], (two_at F10).1, (two_at F10).2, by decide⟩
  obtain ⟨b, mn, mx, c0, c1, c2, hok⟩ := hx
  have hk' : (k : Int) < 10 := by omega
  have hk0 : (0 : Int) ≤ (k : Int) := by omega
  clear F1 F2 F3 F4 F5 F6 F7 F8 F9 F10 F11 hrw
  obtain ⟨⟨r0, r1, r2, r3, r4, r5, r6⟩, rf⟩ := blk7 F0
  go_still_tail 13, (by kernel_rfl)
  change wpList _ _ _ _ _ W1.drew
  have HB2 := Lib.hid (HB.out.drew)
  have F0' : W1.drew.heap[w.heap.size]? = some (.cells #[.int .i64 0, .int .i64 0, .int .i64 0, .slice none 0 0, .int .i64 0, .int .i64 0, .int .i64 0] 35) := F0
  clear r0 r1 r2 r3 r4 r5 r6 rf F0
  generalize W1.drew = wd at *
  obtain ⟨⟨r0, r1, r2, r3, r4, r5, r6⟩, rf⟩ := blk7 F0'
  have f0 := rf 0; have f1 := rf 1; have f2 := rf 2; have f3 := rf 3; have f4 := rf 4; have f5 := rf 5; have f6 := rf 6
  go_wp2_with fail
  have FZ : (((((((wd.setCell ⟨w.heap.size, 0, none⟩ (.int .i64 7)).setCell ⟨w.heap.size, 1, none⟩ (.int .i64 0)).setCell ⟨w.heap.size, 2, none⟩ (.int .i64 0)).setCell ⟨w.heap.size, 3, none⟩ (.slice none 0 0)).setCell ⟨w.heap.size, 4, none⟩ (.int .i64 mn)).setCell ⟨w.heap.size, 5, none⟩ (.int .i64 mx)).setCell ⟨w.heap.size, 6, none⟩ (.int .i64 0)).heap[w.heap.size]? = some (.cells #[.int .i64 7, .int .i64 0, .int .i64 0, .slice none 0 0, .int .i64 mn, .int .i64 mx, .int .i64 0] 35 (0, 0)) := (heap_set 6 (.int .i64 0) (heap_set 5 (.int .i64 mx) (heap_set 4 (.int .i64 mn) (heap_set 3 (.slice none 0 0) (heap_set 2 (.int .i64 0) (heap_set 1 (.int .i64 0) (heap_set 0 (.int .i64 7) F0')))))))
  have HZ := Lib.hid (((((((HB2.out.setCell (p := ⟨w.heap.size, 0, none⟩) (Nat.le_refl _) (.int .i64 7)).setCell (p := ⟨w.heap.size, 1, none⟩) (Nat.le_refl _) (.int .i64 0)).setCell (p := ⟨w.heap.size, 2, none⟩) (Nat.le_refl _) (.int .i64 0)).setCell (p := ⟨w.heap.size, 3, none⟩) (Nat.le_refl _) (.slice none 0 0)).setCell (p := ⟨w.heap.size, 4, none⟩) (Nat.le_refl _) (.int .i64 mn)).setCell (p := ⟨w.heap.size, 5, none⟩) (Nat.le_refl _) (.int .i64 mx)).setCell (p := ⟨w.heap.size, 6, none⟩) (Nat.le_refl _) (.int .i64 0))
  clear r0 r1 r2 r3 r4 r5 r6 f0 f1 f2 f3 f4 f5 f6 rf
  generalize (((((((wd.setCell ⟨w.heap.size, 0, none⟩ (.int .i64 7)).setCell ⟨w.heap.size, 1, none⟩ (.int .i64 0)).setCell ⟨w.heap.size, 2, none⟩ (.int .i64 0)).setCell ⟨w.heap.size, 3, none⟩ (.slice none 0 0)).setCell ⟨w.heap.size, 4, none⟩ (.int .i64 mn)).setCell ⟨w.heap.size, 5, none⟩ (.int .i64 mx)).setCell ⟨w.heap.size, 6, none⟩ (.int .i64 0)) = wz at *
  obtain ⟨⟨r0, r1, r2, r3, r4, r5, r6⟩, _⟩ := blk7 FZ
  refine bodyPost_ret (v := nv ⟨7, 0, 0, [], mn, mx, 0⟩ (.slice none 0 0)) ?_ rfl ?_
  · rw [S.results_cell1 rfl]
    go_simp
  · exact ⟨mn, mx, rfl, hok, HZ.out⟩
end Go.Proofs.Ytceeimolfalmpaa

namespace Go.Proofs.Ytceeimolfalmpaa
open Go.RowKit ObSets ObTree ObTree.Tree
theorem held4 {w W : World} {A : Prop} (h : A ∧ Below w.heap.size w W) : Below w.heap.size w W := h.2
/-- A stack of trees. -/
def Stk (w : World) (A : Option Addr) (c : Nat) (Ts : List Tree) : Prop :=
  Ts.length ≤ c ∧ (Ts = [] → A = none ∧ c = 0) ∧
  ∀ (j : Nat) T, Ts[j]? = some T → ∃ b At ct, A = some ⟨b, 0, none⟩ ∧ b < w.heap.size ∧ w.cell? ⟨b, j, none⟩ = some (.slice At (size T) ct) ∧ Nr w At (flat 0 T) ∧ (At = none → flat 0 T = [] ∧ ct = 0) ∧ Mk T
theorem Stk.below {w w' : World} {A : Option Addr} {c : Nat} {Ts : List Tree} (h : Stk w A c Ts) (hb : Below w.heap.size w w') : Stk w' A c Ts :=
  ⟨h.1, h.2.1, fun j T hj => by
    obtain ⟨b, At, ct, e, hl, hc, hN, h1, h2⟩ := h.2.2 j T hj
    exact ⟨b, At, ct, e, Nat.lt_of_lt_of_le hl hb.size, (hb.cell (p := ⟨b, j, none⟩) hl).trans hc, hN.below hb, h1, h2⟩⟩
/-- How many nodes. -/
def tot (Ts : List Tree) : Nat := (Ts.map size).sum
/-- What Tree hands back. -/
def RetMk (w : World) (e : Ending) (w' : World) : Prop := ∃ T : Tree, Mk T ∧ size T ≤ 47 ∧ RetTr w (flat 0 (num 0 T)) e w'
/-- Behind the storing of a tree just made. -/
theorem fin_cut {k8 : Nat} {w1 w2 w3 : World} {A1 : Option Addr} {m c1 : Nat} {L : List Nd} {T : Tree} {u : Value} (hA1 : Below k8 w1 w2) (hb : Below k8 w2 w3) (hG : w3.heap[k8]? = some (.cells #[u] 24)) (hN : Nr w3 A1 L) (hA : A1 = none → L = [] ∧ c1 = 0) (hL : L = flat 0 T) (hm : m = size T) :
    Hid (Nr (w3.setCell ⟨k8, 0, none⟩ (.slice A1 m c1)) A1 (flat 0 T)) ∧ Hid (A1 = none → flat 0 T = [] ∧ c1 = 0) ∧ Hid ((w3.setCell ⟨k8, 0, none⟩ (.slice A1 m c1)).heap[k8]? = some (.cells #[.slice A1 (size T) c1] 24)) ∧ Hid (Below k8 w1 (w3.setCell ⟨k8, 0, none⟩ (.slice A1 m c1))) := by
  subst hL hm
  exact ⟨Lib.hid (nr_set1 hG hN _), Lib.hid hA, Lib.hid (set_same hG _), Lib.hid ((hA1.trans hb).setCell (p := ⟨k8, 0, none⟩) (Nat.le_refl _) _)⟩
theorem tot_take_le (Ts : List Tree) (k : Nat) : tot (Ts.take k) ≤ tot Ts := by
  unfold tot
  conv => rhs; rw [← List.take_append_drop k Ts]
  rw [List.map_append, List.sum_append]; omega
theorem tot_one {Ts : List Tree} {m : Nat} {T : Tree} (h : Ts[m]? = some T) : tot (Ts.take (m + 1)) = tot (Ts.take m) + size T := by
  unfold tot
  rw [List.take_add_one, h]; simp
theorem tot_push (Ts : List Tree) (T : Tree) : tot (Ts ++ [T]) = tot Ts + size T := by unfold tot; simp
theorem info24 : (Try.prog.info? 24).map (fun i => (i.zero, i.size, i.bytes)) = some (some (.agg #[.slice none 0 0]), 1, 24) := by kernel_rfl
theorem stk_none {w : World} {A : Option Addr} {c : Nat} {Ts : List Tree} (h : Stk w A c Ts) (hA : A = none) : Ts.length = 0 ∧ c = 0 := by
  cases Ts with
  | nil => exact ⟨rfl, (h.2.1 rfl).2⟩
  | cons T l =>
    obtain ⟨b, _, _, e, _⟩ := h.2.2 0 T rfl
    rw [hA] at e; cases e
theorem stk_olds {w : World} {A : Option Addr} {c tp : Nat} {Ts : List Tree} (h : Stk w A c Ts) (ht : tp ≤ Ts.length) : ∃ olds : List Value, olds.length = tp ∧ (∀ b, A = some b → ∀ (j : Nat) u, olds[j]? = some u → (b.add j).block < w.heap.size ∧ w.cell? (b.add j) = some u) ∧
    ∀ (j : Nat) T, j < tp → Ts[j]? = some T → ∃ At ct, olds[j]? = some (.slice At (size T) ct) ∧ Nr w At (flat 0 T) ∧ (At = none → flat 0 T = [] ∧ ct = 0) ∧ Mk T := by
  induction tp with
  | zero => exact ⟨[], rfl, fun b _ j u hu => by simp at hu, fun j T hj => absurd hj (Nat.not_lt_zero _)⟩
  | succ k ih =>
    obtain ⟨olds, h1, h2, h3⟩ := ih (by omega)
    obtain ⟨T, hT⟩ : ∃ T, Ts[k]? = some T := ⟨_, List.getElem?_eq_getElem (by omega)⟩
    obtain ⟨b, At, ct, e, hl, hc, hN, hA, hM⟩ := h.2.2 k T hT
    refine ⟨olds ++ [.slice At (size T) ct], by rw [List.length_append, h1]; rfl, fun b' hb j u hu => ?_, fun j T' hj hT' => ?_⟩
    · rw [List.getElem?_append] at hu
      split at hu
      · exact h2 b' hb j u hu
      · rename_i hj
        have hlt := (List.getElem?_eq_some_iff.1 hu).1
        have hj0 : j = k := by simp at hlt; omega
        subst hj0
        rw [h1, Nat.sub_self] at hu
        simp at hu
        subst hu
        rw [e] at hb; injection hb with hb; subst hb
        have ea : (⟨b, 0, none⟩ : Addr).add j = ⟨b, j, none⟩ := by unfold Addr.add; split <;> simp_all
        rw [ea]
        exact ⟨hl, hc⟩
    · by_cases hj0 : j = k
      · subst hj0
        rw [hT] at hT'; injection hT' with hT'; subst hT'
        exact ⟨At, ct, by rw [List.getElem?_append_right (by omega), h1, Nat.sub_self]; rfl, hN, hA, hM⟩
      · obtain ⟨At', ct', e1, e2⟩ := h3 j T' (by omega) hT'
        exact ⟨At', ct', by rw [List.getElem?_append_left (by omega)]; exact e1, e2⟩
theorem stk_push {w5 w6 : World} {tp B : Nat} {Ts : List Tree} {T : Tree} {At : Option Addr} {ct : Nat} {v6 : Value} {olds : List Value} (ht : tp ≤ Ts.length) (hol : olds.length = tp)
    (hold : ∀ (j : Nat) T, j < tp → Ts[j]? = some T → ∃ At ct, olds[j]? = some (.slice At (size T) ct) ∧ Nr w5 At (flat 0 T) ∧ (At = none → flat 0 T = [] ∧ ct = 0) ∧ Mk T)
    (hN : Nr w5 At (flat 0 T)) (hA : At = none → flat 0 T = [] ∧ ct = 0) (hM : Mk T) (hb : Below w5.heap.size w5 w6) (hown : w6.ownsRow B 24 1 v6 (tp + 1) (olds ++ [.slice At (size T) ct])) :
    ∃ g cap, v6 = .slice (some ⟨g, 0, none⟩) (tp + 1) cap ∧ Stk w6 (some ⟨g, 0, none⟩) cap (Ts.take tp ++ [T]) := by
  rcases hown.2 with ⟨_, h0⟩ | ⟨g, cap, cur, rfl, hbg, hh, hnc, hcm, hcs, htk⟩
  · omega
  · refine ⟨g, cap, rfl, by rw [List.length_append, List.length_take]; simp; omega, fun h => by simp at h, fun j T' hj => ?_⟩
    have hlt : g < w6.heap.size := lt_of_heap hh
    have hcell : ∀ (j : Nat) u, (olds ++ [.slice At (size T) ct])[j]? = some u → w6.cell? ⟨g, j, none⟩ = some u := fun j u hu => by
      have := hown.cells (g := g) rfl j u hu
      rwa [show (⟨g, 0, none⟩ : Addr).add j = ⟨g, j, none⟩ by unfold Addr.add; split <;> simp_all] at this
    have htl : (Ts.take tp).length = tp := by rw [List.length_take]; omega
    by_cases hjt : j < tp
    · rw [List.getElem?_append_left (by omega), List.getElem?_take, if_pos hjt] at hj
      obtain ⟨At', ct', e1, e2, e3, e4⟩ := hold j T' hjt hj
      exact ⟨g, At', ct', rfl, hlt, hcell j _ (by rw [List.getElem?_append_left (by omega)]; exact e1), e2.below hb, e3, e4⟩
    · rw [List.getElem?_append_right (by omega), htl] at hj
      have hj0 : j = tp := by
        have := (List.getElem?_eq_some_iff.1 hj).1
        simp at this; omega
      subst hj0
      rw [Nat.sub_self] at hj
      simp at hj; subst hj
      exact ⟨g, At, ct, rfl, hlt, hcell _ _ (by rw [List.getElem?_append_right (by omega), hol, Nat.sub_self]; rfl), hN.below hb, hA, hM⟩
theorem held3k {k8 : Nat} {w2 W : World} {A : Prop} (h : A ∧ Below k8 w2 W) : Below k8 w2 W := h.2
theorem keep_mono {k8 : Nat} {w2 W W' : World} {A : Prop} (hb : Below W.heap.size W W') (hz : k8 < w2.heap.size) (h : A ∧ Below k8 w2 W) : Below k8 w2 W' := h.2.trans (hb.mono (Nat.le_trans (Nat.le_of_lt hz) h.2.size))
/-- What hands back a tree with a node about it. -/
def RetAb (w : World) (T : Tree) (e : Ending) (w' : World) : Prop := ∃ A c, e = .returned (tr A (size T) c) ∧ Nr w' A (flat 0 T) ∧ (A = none → flat 0 T = [] ∧ c = 0) ∧ Below w.heap.size w w'
theorem RetTr.ab {w w' : World} {T : Tree} {L : List Nd} {e : Ending} (hL : L = flat 0 T) (h : RetTr w L e w') : RetAb w T e w' := by
  subst hL
  obtain ⟨A, c, rfl, h1, h2, h3⟩ := h
  exact ⟨A, c, by rw [flat_len], h1, h2, h3⟩
theorem two_ab (kd : Int) (S T : Tree) (hT : Mk T) (hs : size S ≤ 100) (ht : size T ≤ 100) (A A' : Option Addr) (c d : Nat) (w : World) (hN : Nr w A (flat 0 S)) (hA : A = none → flat 0 S = [] ∧ c = 0) (hM : Nr w A' (flat 0 T)) (hA' : A' = none → flat 0 T = [] ∧ d = 0) :
    Calls Try.prog 20 #[.int .i64 kd, tr A (size S) c, tr A' (size T) d] w (RetAb w (.two ⟨kd, 0, 0, [], 0, 0, 0⟩ S T)) :=
  (two_any kd A A' (size S) c (size T) d (flat 0 S) (flat 0 T) w hN hA (flat_len _ _) hM hA' (flat_len _ _) (size_pos _) (size_pos _) (by omega) (by omega) (fun j x hx k hk => by
    have h2 := (List.getElem?_eq_some_iff.1 hx).1
    rw [flat_len] at h2
    have := kids_in T 0 (At.whole T) (Mk.ok _ hT) j x (Nat.zero_le _) (by omega) hx k hk
    omega)).mono fun e w' h => RetTr.ab (by simp [flat, sh_flat _ T 0 (Mk.ok _ hT)]) h
theorem one_ab (x : Nd) (hx : x.set = []) (T : Tree) (ht : size T ≤ 100) (A : Option Addr) (c : Nat) (w : World) (hN : Nr w A (flat 0 T)) (hA : A = none → flat 0 T = [] ∧ c = 0) :
    Calls Try.prog 21 #[nv x (.slice none 0 0), tr A (size T) c] w (RetAb w (.one x T)) := by
  have h := about_any x none 0 A (size T) c (flat 0 T) w (by rw [hx]; exact S.Rgs.nil) hN hA (flat_len _ _) (size_pos _) (by omega)
  rw [hx] at h
  exact h.mono fun e w' h => RetTr.ab (by simp [flat, hx]) h
end Go.Proofs.Ytceeimolfalmpaa
