/-
  Trees as the statements make them: kinds and fields; what their rows of nodes are; whether one is small (small, small2). Conditions: at most 90 nodes.
-/
import Derived.Test.YtbapdckokphmbaaWA
import Derived.Test.YtbapdckokphmbaaVV
namespace Go.Proofs.Ytbapdckokphmbaa
open Go.RowKit ObSets ObTree ObTree.Tree

/-- A node about one tree, as the statements make it. -/
def MkOne (x : Nd) : Prop := (x.kind = 7 ∧ Fine x) ∨ (x.kind = 8 ∧ x.mn = 0 ∧ x.mx = 0 ∧ x.set.length = 0 ∧ x.b = 0) ∨ (x.kind = 9 ∧ Fine x)
/-- A tree as the statements make it. -/
def Mk : Tree → Prop
  | .leaf x => LeafOk x
  | .one x t => MkOne x ∧ Mk t
  | .two x s t => ((x.kind = 5 ∨ x.kind = 6) ∧ Fine x) ∧ Mk s ∧ Mk t
theorem Mk.ok : ∀ t : Tree, Mk t → Ok t
  | .leaf _, h => h.1
  | .one _ t, h => ⟨by rcases h.1 with h | h | h <;> omega, Mk.ok t h.2⟩
  | .two _ s t, h => ⟨h.1.1, Mk.ok s h.2.1, Mk.ok t h.2.2⟩
theorem fine_a {x : Nd} (hk : x.kind = 7 ∨ x.kind = 9) (h : Fine x) (a : Int) : Fine { x with a := a } := by
  unfold Fine at h ⊢
  rcases hk with hk | hk <;> simp only [hk] at h ⊢ <;> exact h
theorem fine_c {x : Nd} (hk : x.kind = 8) (h : x.mn = 0 ∧ x.mx = 0 ∧ x.set.length = 0 ∧ x.b = 0) (a m : Int) (h1 : 1 ≤ m) (h2 : m ≤ 99) : Fine { x with n := m, a := a } := by
  unfold Fine
  simp only [hk]
  exact ⟨h.1, h.2.1, h.2.2.1, h.2.2.2, h1, h2⟩
theorem fine_ab {x : Nd} (hk : x.kind = 5 ∨ x.kind = 6) (h : Fine x) (a b : Int) : Fine { x with a := a, b := b } := by
  unfold Fine at h ⊢
  rcases hk with hk | hk <;> simp only [hk] at h ⊢ <;> exact h
theorem fine_set {x : Nd} (hk : kids x ≠ []) (h : Fine x) : x.set.length = 0 := by
  unfold kids at hk
  unfold Fine at h
  split at hk
  · rename_i h5
    rw [if_neg (by omega), if_neg (by omega), if_pos h5] at h
    exact h.2.2.1
  · split at hk
    · rename_i h5 h7
      rw [if_neg (by omega), if_neg (by omega), if_neg h5] at h
      split at h
      · exact h.1
      · split at h
        · exact h.2.2.1
        · split at h
          · exact h.2.2.1
          · exact h.elim
    · exact absurd rfl hk
theorem num_fine : ∀ (t : Tree) (n o : Nat), Mk t → n + ncap t ≤ 99 → ∀ x ∈ flat o (num n t), Fine x
  | .leaf x, n, o, h, _, y, hy => by
    simp only [num, flat, List.mem_singleton] at hy
    subst hy
    exact h.2.1
  | .one x t, n, o, h, hn, y, hy => by
    simp only [ncap] at hn
    simp only [num] at hy
    split at hy
    · rename_i hk
      rw [if_pos hk] at hn
      simp only [flat, List.mem_append, List.mem_singleton] at hy
      rcases hy with hy | rfl
      · exact num_fine t (n + 1) o h.2 (by omega) y hy
      · rcases h.1 with h7 | h8 | h9
        · omega
        · exact fine_c hk h8.2 _ _ (by omega) (by omega)
        · omega
    · rename_i hk
      rw [if_neg hk] at hn
      simp only [flat, List.mem_append, List.mem_singleton] at hy
      rcases hy with hy | rfl
      · exact num_fine t n o h.2 (by omega) y hy
      · rcases h.1 with h7 | h8 | h9
        · exact fine_a (.inl h7.1) h7.2 _
        · exact absurd h8.1 hk
        · exact fine_a (.inr h9.1) h9.2 _
  | .two x s t, n, o, h, hn, y, hy => by
    simp only [ncap] at hn
    simp only [num, flat, List.mem_append, List.mem_singleton] at hy
    rcases hy with hy | hy | rfl
    · exact num_fine s n o h.2.1 (by omega) y hy
    · exact num_fine t (n + ncap s) _ h.2.2 (by omega) y hy
    · exact fine_ab h.1.1 h.1.2 _ _
theorem flat_small : ∀ (t : Tree) (o : Nat), Mk t → ∀ x ∈ flat o t, x.set.length ≤ 1000000
  | .leaf x, o, h, y, hy => by
    simp only [flat, List.mem_singleton] at hy
    subst hy
    have := h.2.2; omega
  | .one x t, o, h, y, hy => by
    simp only [flat, List.mem_append, List.mem_singleton] at hy
    rcases hy with hy | rfl
    · exact flat_small t o h.2 y hy
    · show x.set.length ≤ _
      rcases h.1 with h7 | h8 | h9
      · have := fine_set (by rw [kids_one (.inl h7.1)]; simp) h7.2; omega
      · have := h8.2.2.2.1; omega
      · have := fine_set (by rw [kids_one (.inr (.inr h9.1))]; simp) h9.2; omega
  | .two x s t, o, h, y, hy => by
    simp only [flat, List.mem_append, List.mem_singleton] at hy
    rcases hy with hy | hy | rfl
    · exact flat_small s o h.2.1 y hy
    · exact flat_small t _ h.2.2 y hy
    · show x.set.length ≤ _
      have := fine_set (by rw [kids_two h.1.1]; simp) h.1.2; omega
theorem num_mk : ∀ (t : Tree) (n : Nat), Mk t → Mk (num n t)
  | .leaf _, _, h => h
  | .one x t, n, h => by
    simp only [num]
    split
    · rename_i hk
      refine ⟨?_, num_mk t _ h.2⟩
      rcases h.1 with h7 | h8 | h9
      · omega
      · exact .inr (.inl h8)
      · omega
    · exact ⟨h.1, num_mk t _ h.2⟩
  | .two x s t, n, h => ⟨h.1, num_mk s _ h.2.1, num_mk t _ h.2.2⟩
/-- Such a tree, numbered anew, is good. -/
theorem mk_good {t : Tree} (h : Mk t) (hn : size t ≤ 90) : GoodL (flat 0 (num 0 t)) :=
  good_num (Mk.ok t h) (by omega) (num_fine t 0 0 h (by have := ncap_le t; omega))
/-- What a call hands back: yes or no; nothing else is touched. -/
def RetQ (w : World) (e : Ending) (w' : World) : Prop := ∃ q : Bool, e = .returned (.bool q) ∧ Below w.heap.size w w'
set_option maxHeartbeats 4000000 in
set_option maxRecDepth 100000 in
theorem small_any (A : Option Addr) (n c : Nat) (L : List Nd) (w : World) (hN : Nr w A L) (hn : L.length = n) (hnb : n ≤ 20000) (hs : ∀ x ∈ L, x.set.length ≤ 1000000) :
    Calls Try.prog 49 #[tr A n c] w (RetQ w) := by
  have HN := Lib.hid hN; have HLN := Lib.hid hn; have HS := Lib.hid hs
  clear hN hn hs
  have ha0 := (Below.refl w.heap.size w).alloc (Nat.le_refl _) (.cells #[.slice A n c] 24)
  have hGA := heap_new w (.cells #[.slice A n c] 24)
  have hz : (w.alloc (.cells #[.slice A n c] 24)).heap.size = w.heap.size + 1 := by simp
  go_enter Try.func49, Try.ntmps49
  go_upto_region 1 with fail
  generalize w.alloc (.cells #[.slice A n c] 24) = W0 at *
  have HST := Lib.hid (states_any A n c L W0 (HN.out.below ha0) HLN.out hnb HS.out)
  have HA0 := Lib.hid ha0
  have HO0 := Lib.hid hGA
  obtain ⟨a0, _⟩ := obj29 hGA
  clear hGA ha0
  go_wp2_with fail
  refine HST.out.mono ?_
  rintro e w1 ⟨v, rfl, hb1⟩
  have HB0 := Lib.hid (HA0.out.trans (hb1.mono HA0.out.size))
  have hO0 := keepL HO0.out hb1
  obtain ⟨o1, _⟩ := obj29 hO0
  have HPR := Lib.hid (product_any A n c L w1 ((HN.out.below HA0.out).below hb1) HLN.out hnb HS.out)
  have hw1 := hb1.size
  clear hb1 a0 hO0
  by_cases hv : v ≤ 36
  · have d1 : decide (v ≤ 36) = true := decide_eq_true hv
    go_wp2_with fail
    refine HPR.out.mono ?_
    rintro e w2 ⟨u, rfl, hb2⟩
    have HB2 := Lib.hid (HB0.out.trans (hb2.mono HB0.out.size))
    by_cases hu : u ≤ 30
    · have d2 : decide (u ≤ 30) = true := decide_eq_true hu
      go_wp2_with fail
      go_ret
      exact ⟨_, rfl, HB2.out⟩
    · have d2 : decide (u ≤ 30) = false := decide_eq_false hu
      go_wp2_with fail
      go_ret
      exact ⟨_, rfl, HB2.out⟩
  · have d1 : decide (v ≤ 36) = false := decide_eq_false hv
    go_wp2_with fail
    go_ret
    exact ⟨_, rfl, HB0.out⟩
set_option maxHeartbeats 4000000 in
set_option maxRecDepth 100000 in
theorem small2_any (t : Tree) (A : Option Addr) (n c : Nat) (w : World) (ht : Mk t) (hN : Nr w A (flat 0 t)) (hA : A = none → flat 0 t = [] ∧ c = 0) (hn : size t = n) (hnb : n ≤ 20000) :
    Calls Try.prog 34 #[tr A n c] w (RetQ w) := by
  have ha0 := (Below.refl w.heap.size w).alloc (Nat.le_refl _) (.cells #[.slice A n c] 24)
  have hGA := heap_new w (.cells #[.slice A n c] 24)
  have HSM := Lib.hid (flat_small _ 0 (num_mk t 0 ht))
  have HLE := Lib.hid (show (flat 0 (num 0 t)).length = n by rw [flat_len, num_size]; exact hn)
  have HNU := Lib.hid (number_any t A n c (w.alloc (.cells #[.slice A n c] 24)) (Mk.ok t ht) (hN.below ha0) hA hn hnb)
  clear hN hA ht
  go_enter Try.func34, Try.ntmps34
  go_upto_region 1 with fail
  generalize w.alloc (.cells #[.slice A n c] 24) = W0 at *
  have HA0 := Lib.hid ha0
  obtain ⟨a0, _⟩ := obj29 hGA
  clear hGA ha0
  go_wp2_with fail
  refine HNU.out.mono ?_
  rintro e w1 ⟨A1, c1, rfl, hN1, hA1, hb1⟩
  rw [HLE.out]
  have HB0 := Lib.hid (HA0.out.trans (hb1.mono HA0.out.size))
  have HSL := Lib.hid (small_any A1 n c1 _ w1 hN1 HLE.out hnb HSM.out)
  clear hN1 hA1 hb1 a0
  go_wp2_with fail
  refine HSL.out.mono ?_
  rintro e w2 ⟨q, rfl, hb2⟩
  have HB2 := Lib.hid (HB0.out.trans (hb2.mono HB0.out.size))
  go_wp2_with fail
  go_ret
  exact ⟨_, rfl, HB2.out⟩
end Go.Proofs.Ytbapdckokphmbaa
