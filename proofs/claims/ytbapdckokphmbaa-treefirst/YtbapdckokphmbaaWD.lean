/-
  A stack of trees in memory, as the statements' Tree keeps it. No conditions.
-/
import Derived.Test.YtbapdckokphmbaaWC
import Derived.Test.YtbapdckokphmbaaTells
import Derived.Deep.RegionLawGrows
import Derived.Deep.RegionHeld3
import Derived.Deep.CutRange
import Derived.Deep.CutBlock
import Derived.Deep.AppendLies
namespace Go.Proofs.Ytbapdckokphmbaa
open Go.RowKit ObSets ObTree ObTree.Tree
/-- A stack of trees. -/
def Stk (w : World) (A : Option Addr) (c : Nat) (Ts : List Tree) : Prop :=
  Ts.length ≤ c ∧ (Ts = [] → A = none ∧ c = 0) ∧
  ∀ (j : Nat) T, Ts[j]? = some T → ∃ b At ct, A = some ⟨b, 0, none⟩ ∧ b < w.heap.size ∧ w.cell? ⟨b, j, none⟩ = some (.slice At (size T) ct) ∧ Nr w At (flat 0 T) ∧ (At = none → flat 0 T = [] ∧ ct = 0) ∧ Mk T
theorem Stk.below {w w' : World} {A : Option Addr} {c : Nat} {Ts : List Tree} (h : Stk w A c Ts) (hb : Below w.heap.size w w') : Stk w' A c Ts :=
  ⟨h.1, h.2.1, fun j T hj => by
    obtain ⟨b, At, ct, e, hl, hc, hN, h1, h2⟩ := h.2.2 j T hj
    exact ⟨b, At, ct, e, Nat.lt_of_lt_of_le hl hb.size, (hb.cell (p := ⟨b, j, none⟩) hl).trans hc, hN.below hb, h1, h2⟩⟩
/-- How many nodes. -/
def tot (Ts : List Tree) : Nat := (Ts.map size).sum
/-- What Tree hands back. -/
def RetMk (w : World) (e : Ending) (w' : World) : Prop := ∃ T : Tree, Mk T ∧ size T ≤ 47 ∧ RetTr w (flat 0 (num 0 T)) e w'
/-- Behind the storing of a tree just made. -/
theorem fin_cut {k8 : Nat} {w1 w2 w3 : World} {A1 : Option Addr} {m c1 : Nat} {L : List Nd} {T : Tree} {u : Value} (hA1 : Below k8 w1 w2) (hb : Below k8 w2 w3) (hG : w3.heap[k8]? = some (.cells #[u] 24)) (hN : Nr w3 A1 L) (hA : A1 = none → L = [] ∧ c1 = 0) (hL : L = flat 0 T) (hm : m = size T) :
    Hid (Nr (w3.setCell ⟨k8, 0, none⟩ (.slice A1 m c1)) A1 (flat 0 T)) ∧ Hid (A1 = none → flat 0 T = [] ∧ c1 = 0) ∧ Hid ((w3.setCell ⟨k8, 0, none⟩ (.slice A1 m c1)).heap[k8]? = some (.cells #[.slice A1 (size T) c1] 24)) ∧ Hid (Below k8 w1 (w3.setCell ⟨k8, 0, none⟩ (.slice A1 m c1))) := by
  subst hL hm
  exact ⟨Lib.hid (nr_set1 hG hN _), Lib.hid hA, Lib.hid (set_same hG _), Lib.hid ((hA1.trans hb).setCell (p := ⟨k8, 0, none⟩) (Nat.le_refl _) _)⟩
theorem tot_take_le (Ts : List Tree) (k : Nat) : tot (Ts.take k) ≤ tot Ts := by
  unfold tot
  conv => rhs; rw [← List.take_append_drop k Ts]
  rw [List.map_append, List.sum_append]; omega
theorem tot_one {Ts : List Tree} {m : Nat} {T : Tree} (h : Ts[m]? = some T) : tot (Ts.take (m + 1)) = tot (Ts.take m) + size T := by
  unfold tot
  rw [List.take_add_one, h]; simp
theorem tot_push (Ts : List Tree) (T : Tree) : tot (Ts ++ [T]) = tot Ts + size T := by unfold tot; simp
theorem info24 : (Try.prog.info? 24).map (fun i => (i.zero, i.size, i.bytes)) = some (some (.agg #[.slice none 0 0]), 1, 24) := by kernel_rfl
theorem stk_none {w : World} {A : Option Addr} {c : Nat} {Ts : List Tree} (h : Stk w A c Ts) (hA : A = none) : Ts.length = 0 ∧ c = 0 := by
  cases Ts with
  | nil => exact ⟨rfl, (h.2.1 rfl).2⟩
  | cons T l =>
    obtain ⟨b, _, _, e, _⟩ := h.2.2 0 T rfl
    rw [hA] at e; cases e
theorem stk_olds {w : World} {A : Option Addr} {c tp : Nat} {Ts : List Tree} (h : Stk w A c Ts) (ht : tp ≤ Ts.length) : ∃ olds : List Value, olds.length = tp ∧ (∀ b, A = some b → ∀ (j : Nat) u, olds[j]? = some u → (b.add j).block < w.heap.size ∧ w.cell? (b.add j) = some u) ∧
    ∀ (j : Nat) T, j < tp → Ts[j]? = some T → ∃ At ct, olds[j]? = some (.slice At (size T) ct) ∧ Nr w At (flat 0 T) ∧ (At = none → flat 0 T = [] ∧ ct = 0) ∧ Mk T := by
  induction tp with
  | zero => exact ⟨[], rfl, fun b _ j u hu => by simp at hu, fun j T hj => absurd hj (Nat.not_lt_zero _)⟩
  | succ k ih =>
    obtain ⟨olds, h1, h2, h3⟩ := ih (by omega)
    obtain ⟨T, hT⟩ : ∃ T, Ts[k]? = some T := ⟨_, List.getElem?_eq_getElem (by omega)⟩
    obtain ⟨b, At, ct, e, hl, hc, hN, hA, hM⟩ := h.2.2 k T hT
    refine ⟨olds ++ [.slice At (size T) ct], by rw [List.length_append, h1]; rfl, fun b' hb j u hu => ?_, fun j T' hj hT' => ?_⟩
    · rw [List.getElem?_append] at hu
      split at hu
      · exact h2 b' hb j u hu
      · rename_i hj
        have hlt := (List.getElem?_eq_some_iff.1 hu).1
        have hj0 : j = k := by simp at hlt; omega
        subst hj0
        rw [h1, Nat.sub_self] at hu
        simp at hu
        subst hu
        rw [e] at hb; injection hb with hb; subst hb
        have ea : (⟨b, 0, none⟩ : Addr).add j = ⟨b, j, none⟩ := by unfold Addr.add; split <;> simp_all
        rw [ea]
        exact ⟨hl, hc⟩
    · by_cases hj0 : j = k
      · subst hj0
        rw [hT] at hT'; injection hT' with hT'; subst hT'
        exact ⟨At, ct, by rw [List.getElem?_append_right (by omega), h1, Nat.sub_self]; rfl, hN, hA, hM⟩
      · obtain ⟨At', ct', e1, e2⟩ := h3 j T' (by omega) hT'
        exact ⟨At', ct', by rw [List.getElem?_append_left (by omega)]; exact e1, e2⟩
theorem stk_push {w5 w6 : World} {tp B : Nat} {Ts : List Tree} {T : Tree} {At : Option Addr} {ct : Nat} {v6 : Value} {olds : List Value} (ht : tp ≤ Ts.length) (hol : olds.length = tp)
    (hold : ∀ (j : Nat) T, j < tp → Ts[j]? = some T → ∃ At ct, olds[j]? = some (.slice At (size T) ct) ∧ Nr w5 At (flat 0 T) ∧ (At = none → flat 0 T = [] ∧ ct = 0) ∧ Mk T)
    (hN : Nr w5 At (flat 0 T)) (hA : At = none → flat 0 T = [] ∧ ct = 0) (hM : Mk T) (hb : Below w5.heap.size w5 w6) (hown : w6.ownsRow B 24 1 v6 (tp + 1) (olds ++ [.slice At (size T) ct])) :
    ∃ g cap, v6 = .slice (some ⟨g, 0, none⟩) (tp + 1) cap ∧ Stk w6 (some ⟨g, 0, none⟩) cap (Ts.take tp ++ [T]) := by
  rcases hown.2 with ⟨_, h0⟩ | ⟨g, cap, cur, rfl, hbg, hh, hnc, hcm, hcs, htk⟩
  · omega
  · refine ⟨g, cap, rfl, by rw [List.length_append, List.length_take]; simp; omega, fun h => by simp at h, fun j T' hj => ?_⟩
    have hlt : g < w6.heap.size := lt_of_heap hh
    have hcell : ∀ (j : Nat) u, (olds ++ [.slice At (size T) ct])[j]? = some u → w6.cell? ⟨g, j, none⟩ = some u := fun j u hu => by
      have := hown.cells (g := g) rfl j u hu
      rwa [show (⟨g, 0, none⟩ : Addr).add j = ⟨g, j, none⟩ by unfold Addr.add; split <;> simp_all] at this
    have htl : (Ts.take tp).length = tp := by rw [List.length_take]; omega
    by_cases hjt : j < tp
    · rw [List.getElem?_append_left (by omega), List.getElem?_take, if_pos hjt] at hj
      obtain ⟨At', ct', e1, e2, e3, e4⟩ := hold j T' hjt hj
      exact ⟨g, At', ct', rfl, hlt, hcell j _ (by rw [List.getElem?_append_left (by omega)]; exact e1), e2.below hb, e3, e4⟩
    · rw [List.getElem?_append_right (by omega), htl] at hj
      have hj0 : j = tp := by
        have := (List.getElem?_eq_some_iff.1 hj).1
        simp at this; omega
      subst hj0
      rw [Nat.sub_self] at hj
      simp at hj; subst hj
      exact ⟨g, At, ct, rfl, hlt, hcell _ _ (by rw [List.getElem?_append_right (by omega), hol, Nat.sub_self]; rfl), hN.below hb, hA, hM⟩
theorem held3k {k8 : Nat} {w2 W : World} {A : Prop} (h : A ∧ Below k8 w2 W) : Below k8 w2 W := h.2
theorem keep_mono {k8 : Nat} {w2 W W' : World} {A : Prop} (hb : Below W.heap.size W W') (hz : k8 < w2.heap.size) (h : A ∧ Below k8 w2 W) : Below k8 w2 W' := h.2.trans (hb.mono (Nat.le_trans (Nat.le_of_lt hz) h.2.size))
/-- What hands back a tree with a node about it. -/
def RetAb (w : World) (T : Tree) (e : Ending) (w' : World) : Prop := ∃ A c, e = .returned (tr A (size T) c) ∧ Nr w' A (flat 0 T) ∧ (A = none → flat 0 T = [] ∧ c = 0) ∧ Below w.heap.size w w'
theorem RetTr.ab {w w' : World} {T : Tree} {L : List Nd} {e : Ending} (hL : L = flat 0 T) (h : RetTr w L e w') : RetAb w T e w' := by
  subst hL
  obtain ⟨A, c, rfl, h1, h2, h3⟩ := h
  exact ⟨A, c, by rw [flat_len], h1, h2, h3⟩
theorem two_ab (kd : Int) (S T : Tree) (hT : Mk T) (hs : size S ≤ 100) (ht : size T ≤ 100) (A A' : Option Addr) (c d : Nat) (w : World) (hN : Nr w A (flat 0 S)) (hA : A = none → flat 0 S = [] ∧ c = 0) (hM : Nr w A' (flat 0 T)) (hA' : A' = none → flat 0 T = [] ∧ d = 0) :
    Calls Try.prog 20 #[.int .i64 kd, tr A (size S) c, tr A' (size T) d] w (RetAb w (.two ⟨kd, 0, 0, [], 0, 0, 0⟩ S T)) :=
  (two_any kd A A' (size S) c (size T) d (flat 0 S) (flat 0 T) w hN hA (flat_len _ _) hM hA' (flat_len _ _) (size_pos _) (size_pos _) (by omega) (by omega) (fun j x hx k hk => by
    have h2 := (List.getElem?_eq_some_iff.1 hx).1
    rw [flat_len] at h2
    have := kids_in T 0 (At.whole T) (Mk.ok _ hT) j x (Nat.zero_le _) (by omega) hx k hk
    omega)).mono fun e w' h => RetTr.ab (by simp [flat, sh_flat _ T 0 (Mk.ok _ hT)]) h
theorem one_ab (x : Nd) (hx : x.set = []) (T : Tree) (ht : size T ≤ 100) (A : Option Addr) (c : Nat) (w : World) (hN : Nr w A (flat 0 T)) (hA : A = none → flat 0 T = [] ∧ c = 0) :
    Calls Try.prog 21 #[nv x (.slice none 0 0), tr A (size T) c] w (RetAb w (.one x T)) := by
  have h := about_any x none 0 A (size T) c (flat 0 T) w (by rw [hx]; exact S.Rgs.nil) hN hA (flat_len _ _) (size_pos _) (by omega)
  rw [hx] at h
  exact h.mono fun e w' h => RetTr.ab (by simp [flat, hx]) h
end Go.Proofs.Ytbapdckokphmbaa
