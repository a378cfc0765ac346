/-
  Plain: a tree's groups, numbered as they begin: what going through its nodes in that order makes of a row. No program, no conditions but those written.
-/
import Derived.Test.YtceeimolfalmpaaTA
namespace ObTree
open ObSets Tree

/-- How many groups a tree has. -/
def ncap : Tree → Nat
  | leaf _ => 0
  | one x t => (if x.kind = 8 then 1 else 0) + ncap t
  | two _ s t => ncap s + ncap t
theorem ncap_le : ∀ t, ncap t ≤ size t
  | leaf _ => Nat.zero_le _
  | one x t => by have := ncap_le t; simp only [ncap, size]; split <;> omega
  | two _ s t => by have := ncap_le s; have := ncap_le t; simp only [ncap, size]; omega
/-- Its groups numbered anew, behind so many. -/
def num : Nat → Tree → Tree
  | _, leaf x => leaf x
  | n, one x t => if x.kind = 8 then one { x with n := (n : Int) + 1 } (num (n + 1) t) else one x (num n t)
  | n, two x s t => two x (num n s) (num (n + ncap s) t)
theorem num_size : ∀ (t : Tree) (n : Nat), size (num n t) = size t
  | leaf _, _ => rfl
  | one x t, n => by simp only [num]; split <;> simp [size, num_size t]
  | two x s t, n => by simp [num, size, num_size s, num_size t]
theorem num_ok : ∀ (t : Tree) (n : Nat), Ok t → Ok (num n t)
  | leaf _, _, h => h
  | one x t, n, h => by
    simp only [num]
    split
    · exact ⟨h.1, num_ok t _ h.2⟩
    · exact ⟨h.1, num_ok t _ h.2⟩
  | two x s t, n, h => ⟨h.1, num_ok s _ h.2.1, num_ok t _ h.2.2⟩
/-- One step of the numbering. -/
def stepN (p : List Nd × Nat) (i : Int) : List Nd × Nat :=
  match p.1[i.toNat]? with
  | none => p
  | some x => if x.kind = 8 then (p.1.set i.toNat { x with n := (p.2 : Int) + 1 }, p.2 + 1) else p
theorem stepN_cap {L : List Nd} {n : Nat} {i : Int} {x : Nd} (h : L[i.toNat]? = some x) (hk : x.kind = 8) : stepN (L, n) i = (L.set i.toNat { x with n := (n : Int) + 1 }, n + 1) := by
  unfold stepN; rw [h]; dsimp only; rw [if_pos hk]
theorem stepN_no {L : List Nd} {n : Nat} {i : Int} {x : Nd} (h : L[i.toNat]? = some x) (hk : x.kind ≠ 8) : stepN (L, n) i = (L, n) := by
  unfold stepN; rw [h]; dsimp only; rw [if_neg hk]
/-- The row behind the numbering of a tree that lies in it. -/
def Done (L : List Nd) (n o : Nat) (t : Tree) (p : List Nd × Nat) : Prop :=
  At p.1 o (num n t) ∧ p.2 = n + ncap t ∧ p.1.length = L.length ∧ ∀ j, j < o ∨ o + size t ≤ j → p.1[j]? = L[j]?
theorem At.same {L M : List Nd} {o : Nat} {t : Tree} (h : At L o t) (hs : ∀ j, o ≤ j → j < o + size t → M[j]? = L[j]?) : At M o t := At.mk fun j hj => by
  rw [hs (o + j) (by omega) (by omega)]; exact h.get hj
theorem num_done : ∀ (t : Tree) (L : List Nd) (n o : Nat), Ok t → At L o t → Done L n o t ((ord o t).foldl stepN (L, n))
  | leaf x, L, n, o, hok, h => by
    have hx := at_leaf h
    have h0 : kids x = [] := hok
    have hk : x.kind ≠ 8 := fun e => by rw [kids_one (by omega)] at h0; cases h0
    simp only [ord, List.foldl_cons, List.foldl_nil]
    rw [stepN_no (x := x) (by rw [Int.toNat_natCast]; exact hx) hk]
    exact ⟨h, rfl, rfl, fun _ _ => rfl⟩
  | one x t, L, n, o, hok, h => by
    obtain ⟨g1, g2⟩ := at_one h
    obtain ⟨k1, k2⟩ := hok
    have hp := size_pos t
    have ei : ((o : Int) + size t).toNat = o + size t := by omega
    simp only [ord, List.foldl_cons]
    by_cases hk : x.kind = 8
    · rw [stepN_cap (x := { x with a := (o : Int) + size t - 1 }) (by rw [ei]; exact g2) hk, ei]
      have hlt : o + size t < L.length := (List.getElem?_eq_some_iff.1 g2).1
      have hset : ∀ j, j ≠ o + size t → (L.set (o + size t) { ({ x with a := (o : Int) + size t - 1 } : Nd) with n := (n : Int) + 1 })[j]? = L[j]? := fun j hj => List.getElem?_set_ne (by omega)
      obtain ⟨d1, d2, d3, d4⟩ := num_done t (L.set (o + size t) { ({ x with a := (o : Int) + size t - 1 } : Nd) with n := (n : Int) + 1 }) (n + 1) o k2 (g1.same fun j _ hj => hset j (by omega))
      have en : num n (one x t) = one { x with n := (n : Int) + 1 } (num (n + 1) t) := by simp only [num]; rw [if_pos hk]
      refine ⟨?_, ?_, by rw [d3, List.length_set], fun j hj => ?_⟩
      · rw [en]
        refine at_mk_one (x := { ({ x with a := (o : Int) + size t - 1 } : Nd) with n := (n : Int) + 1 }) d1 ?_ (by rw [num_size]) |>.trans ?_
        · rw [num_size, d4 _ (.inr (Nat.le_refl _)), List.getElem?_set_self hlt]
        · simp only [flat]
      · rw [d2]; simp only [ncap]; rw [if_pos hk]; omega
      · have hj' : j < o ∨ o + (size t + 1) ≤ j := hj
        rw [d4 j (by omega), hset j (by omega)]
    · rw [stepN_no (x := { x with a := (o : Int) + size t - 1 }) (by rw [ei]; exact g2) hk]
      obtain ⟨d1, d2, d3, d4⟩ := num_done t L n o k2 g1
      have en : num n (one x t) = one x (num n t) := by simp only [num]; rw [if_neg hk]
      refine ⟨?_, ?_, d3, fun j hj => ?_⟩
      · rw [en]
        refine at_mk_one (x := { x with a := (o : Int) + size t - 1 }) d1 ?_ (by rw [num_size]) |>.trans ?_
        · rw [num_size, d4 _ (.inr (Nat.le_refl _))]; exact g2
        · simp only [flat]
      · rw [d2]; simp only [ncap]; rw [if_neg hk]; omega
      · have hj' : j < o ∨ o + (size t + 1) ≤ j := hj
        rw [d4 j (by omega)]
  | two x s t, L, n, o, hok, h => by
    obtain ⟨g1, g2, g3⟩ := at_two h
    obtain ⟨k1, k2, k3⟩ := hok
    have hp := size_pos t
    have hp2 := size_pos s
    have ei : ((o : Int) + size s + size t).toNat = o + size s + size t := by omega
    simp only [ord, List.foldl_cons, List.foldl_append]
    rw [stepN_no (x := { x with a := (o : Int) + size s - 1, b := (o : Int) + size s + size t - 1 }) (by rw [ei]; exact g3) (by show x.kind ≠ 8; omega)]
    obtain ⟨d1, d2, d3, d4⟩ := num_done s L n o k2 g1
    generalize (ord o s).foldl stepN (L, n) = p at *
    obtain ⟨M, m⟩ := p
    dsimp only at d1 d2 d3 d4
    obtain ⟨f1, f2, f3, f4⟩ := num_done t M m (o + size s) k3 (g2.same fun j hj _ => d4 j (by omega))
    refine ⟨?_, ?_, by rw [f3, d3], fun j hj => ?_⟩
    · have en : num n (two x s t) = two x (num n s) (num (n + ncap s) t) := rfl
      rw [en]
      refine at_mk_two (x := { x with a := (o : Int) + size s - 1, b := (o : Int) + size s + size t - 1 }) (d1.same fun j _ hj => ?_) ?_ ?_ (by rw [num_size]) (by rw [num_size, num_size]) |>.trans ?_
      · rw [num_size] at hj; exact f4 j (by omega)
      · rw [num_size, ← d2]; exact f1
      · rw [num_size, num_size, f4 _ (.inr (Nat.le_refl _)), d4 _ (by omega)]; exact g3
      · simp only [flat]
    · rw [f2, d2]; simp only [ncap]; omega
    · have hj' : j < o ∨ o + (size s + size t + 1) ≤ j := hj
      rw [f4 j (by omega), d4 j (by omega)]
theorem num_flat (t : Tree) (h : Ok t) : (ord 0 t).foldl stepN (flat 0 t, 0) = (flat 0 (num 0 t), ncap t) := by
  obtain ⟨d1, d2, d3, _⟩ := num_done t (flat 0 t) 0 0 h (At.whole t)
  generalize (ord 0 t).foldl stepN (flat 0 t, 0) = p at *
  obtain ⟨M, m⟩ := p
  dsimp only at d1 d2 d3
  unfold At at d1
  rw [flat_len] at d3
  rw [List.drop_zero, num_size, ← d3, List.take_length] at d1
  rw [d1, d2, Nat.zero_add]
end ObTree
