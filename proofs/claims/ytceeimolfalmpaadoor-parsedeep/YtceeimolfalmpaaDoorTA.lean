/-
  Plain: trees as rows of nodes (chapter 8): what hangs on a node, how many nodes, the order in which they begin, when a row is a tree. No program, no conditions but those written.
-/
import Derived.Test.YtceeimolfalmpaaDoorSA
namespace ObTree
open ObSets

/-- A node of a row. -/
structure Nd where
  kind : Int
  a : Int
  b : Int
  set : List R
  mn : Int
  mx : Int
  n : Int
def kids (x : Nd) : List Int :=
  if x.kind = 5 ∨ x.kind = 6 then [x.a, x.b] else if x.kind = 7 ∨ x.kind = 8 ∨ x.kind = 9 then [x.a] else []
theorem kids_len (x : Nd) : (kids x).length ≤ 2 := by unfold kids; (repeat' split) <;> simp
/-- A tree: a leaf, a node about one tree, a node about two. -/
inductive Tree
  | leaf (x : Nd)
  | one (x : Nd) (t : Tree)
  | two (x : Nd) (s t : Tree)
namespace Tree
def size : Tree → Nat
  | leaf _ => 1
  | one _ t => size t + 1
  | two _ s t => size s + size t + 1
theorem size_pos : ∀ t : Tree, 1 ≤ size t
  | leaf _ => Nat.le_refl _
  | one _ t => by show 1 ≤ size t + 1; omega
  | two _ s t => by show 1 ≤ size s + size t + 1; omega
/-- Its nodes in a row, from a place on. -/
def flat : Nat → Tree → List Nd
  | _, leaf x => [x]
  | o, one x t => flat o t ++ [{ x with a := (o : Int) + size t - 1 }]
  | o, two x s t => flat o s ++ (flat (o + size s) t ++ [{ x with a := (o : Int) + size s - 1, b := (o : Int) + size s + size t - 1 }])
theorem flat_len : ∀ (t : Tree) (o : Nat), (flat o t).length = size t
  | leaf _, _ => rfl
  | one x t, o => by simp [flat, size, flat_len t]
  | two x s t, o => by simp [flat, size, flat_len s, flat_len t]; omega
/-- The kinds fit. -/
def Ok : Tree → Prop
  | leaf x => kids x = []
  | one x t => (x.kind = 7 ∨ x.kind = 8 ∨ x.kind = 9) ∧ Ok t
  | two x s t => (x.kind = 5 ∨ x.kind = 6) ∧ Ok s ∧ Ok t
end Tree
open Tree
theorem kids_one {x : Nd} (h : x.kind = 7 ∨ x.kind = 8 ∨ x.kind = 9) : kids x = [x.a] := by
  unfold kids; rw [if_neg (by omega), if_pos h]
theorem kids_two {x : Nd} (h : x.kind = 5 ∨ x.kind = 6) : kids x = [x.a, x.b] := by
  unfold kids; rw [if_pos h]
/-- A node whose kids stand so much further. -/
def sh (n : Nat) (x : Nd) : Nd :=
  if x.kind = 5 ∨ x.kind = 6 then { x with a := x.a + n, b := x.b + n } else if x.kind = 7 ∨ x.kind = 8 ∨ x.kind = 9 then { x with a := x.a + n } else x
theorem sh_none {n : Nat} {x : Nd} (h : kids x = []) : sh n x = x := by
  unfold kids at h
  unfold sh
  split at h
  · cases h
  · rename_i h1
    rw [if_neg h1]
    split at h
    · cases h
    · rename_i h2; rw [if_neg h2]
theorem sh_one {n : Nat} {x : Nd} (h : x.kind = 7 ∨ x.kind = 8 ∨ x.kind = 9) : sh n x = { x with a := x.a + n } := by
  unfold sh; rw [if_neg (by omega), if_pos h]
theorem sh_two {n : Nat} {x : Nd} (h : x.kind = 5 ∨ x.kind = 6) : sh n x = { x with a := x.a + n, b := x.b + n } := by
  unfold sh; rw [if_pos h]
theorem sh_flat (n : Nat) : ∀ (t : Tree) (o : Nat), Ok t → (flat o t).map (sh n) = flat (o + n) t
  | leaf x, o, h => by simp [flat, sh_none h]
  | one x t, o, h => by
    obtain ⟨h1, h2⟩ := h
    simp only [flat, List.map_append, List.map_cons, List.map_nil]
    rw [sh_flat n t o h2, sh_one (x := { x with a := (o : Int) + size t - 1 }) h1]
    congr 3
    dsimp only
    omega
  | two x s t, o, h => by
    obtain ⟨h1, h2, h3⟩ := h
    simp only [flat, List.map_append, List.map_cons, List.map_nil]
    rw [sh_flat n s o h2, sh_flat n t _ h3, sh_two (x := { x with a := (o : Int) + size s - 1, b := (o : Int) + size s + size t - 1 }) h1]
    rw [show o + size s + n = o + n + size s by omega]
    congr 4 <;> (dsimp only; omega)
/-- Within a row there lies a tree from a place on. -/
def At (L : List Nd) (o : Nat) (t : Tree) : Prop := (L.drop o).take (size t) = flat o t
theorem At.get {L : List Nd} {o : Nat} {t : Tree} (h : At L o t) {j : Nat} (hj : j < size t) : L[o + j]? = (flat o t)[j]? := by
  unfold At at h
  rw [← h, List.getElem?_take_of_lt hj, List.getElem?_drop]
theorem At.len {L : List Nd} {o : Nat} {t : Tree} (h : At L o t) : o + size t ≤ L.length := by
  have := congrArg List.length h
  rw [flat_len, List.length_take, List.length_drop] at this
  have := size_pos t
  omega
theorem At.mk {L : List Nd} {o : Nat} {t : Tree} (h : ∀ j, j < size t → L[o + j]? = (flat o t)[j]?) : At L o t := by
  unfold At
  apply List.ext_getElem?
  intro j
  by_cases hj : j < size t
  · rw [List.getElem?_take_of_lt hj, List.getElem?_drop, h j hj]
  · rw [List.getElem?_eq_none (by rw [List.length_take]; omega), List.getElem?_eq_none (by rw [flat_len]; omega)]
theorem At.whole (t : Tree) : At (flat 0 t) 0 t := by
  unfold At
  rw [List.drop_zero, ← flat_len t 0, List.take_length]
theorem at_leaf {L : List Nd} {o : Nat} {x : Nd} (h : At L o (leaf x)) : L[o]? = some x := by
  have := h.get (j := 0) (Nat.lt_succ_self 0)
  exact this
theorem at_one {L : List Nd} {o : Nat} {x : Nd} {t : Tree} (h : At L o (one x t)) : At L o t ∧ L[o + size t]? = some { x with a := (o : Int) + size t - 1 } := by
  refine ⟨At.mk fun j hj => ?_, ?_⟩
  · rw [h.get (show j < size (one x t) by show j < size t + 1; omega)]
    show (flat o t ++ _)[j]? = _
    rw [List.getElem?_append_left (by rw [flat_len]; exact hj)]
  · rw [h.get (show size t < size (one x t) from Nat.lt_succ_self _)]
    show (flat o t ++ _)[size t]? = _
    rw [List.getElem?_append_right (by rw [flat_len]; exact Nat.le_refl _), flat_len, Nat.sub_self]; rfl
theorem at_two {L : List Nd} {o : Nat} {x : Nd} {s t : Tree} (h : At L o (two x s t)) : At L o s ∧ At L (o + size s) t ∧ L[o + size s + size t]? = some { x with a := (o : Int) + size s - 1, b := (o : Int) + size s + size t - 1 } := by
  have e : size (two x s t) = size s + size t + 1 := rfl
  refine ⟨At.mk fun j hj => ?_, At.mk fun j hj => ?_, ?_⟩
  · rw [h.get (by omega)]
    show (flat o s ++ _)[j]? = _
    rw [List.getElem?_append_left (by rw [flat_len]; exact hj)]
  · rw [Nat.add_assoc, h.get (by omega)]
    show (flat o s ++ (flat (o + size s) t ++ _))[size s + j]? = _
    rw [List.getElem?_append_right (by rw [flat_len]; omega), flat_len, show size s + j - size s = j by omega, List.getElem?_append_left (by rw [flat_len]; exact hj)]
  · rw [Nat.add_assoc, h.get (by omega)]
    show (flat o s ++ (flat (o + size s) t ++ _))[size s + size t]? = _
    rw [List.getElem?_append_right (by rw [flat_len]; omega), flat_len, show size s + size t - size s = size t by omega, List.getElem?_append_right (by rw [flat_len]; exact Nat.le_refl _), flat_len, Nat.sub_self]; rfl
/-- The order in which a tree's nodes begin: each ahead of those that hang on it. -/
def ord : Nat → Tree → List Int
  | o, leaf _ => [(o : Int)]
  | o, one _ t => ((o : Int) + size t) :: ord o t
  | o, two _ s t => ((o : Int) + size s + size t) :: (ord o s ++ ord (o + size s) t)
theorem ord_len : ∀ (t : Tree) (o : Nat), (ord o t).length = size t
  | leaf _, _ => rfl
  | one _ t, o => by simp [ord, size, ord_len t]
  | two _ s t, o => by simp [ord, size, ord_len s, ord_len t]
theorem ord_in : ∀ (t : Tree) (o : Nat), ∀ i ∈ ord o t, (o : Int) ≤ i ∧ i < (o : Int) + size t
  | leaf _, o, i, h => by simp [ord] at h; subst h; simp [size]; omega
  | one _ t, o, i, h => by
    simp only [ord, List.mem_cons] at h
    simp only [size]
    rcases h with rfl | h
    · omega
    · have := ord_in t o i h; omega
  | two _ s t, o, i, h => by
    simp only [ord, List.mem_cons, List.mem_append] at h
    simp only [size]
    rcases h with rfl | h | h
    · omega
    · have := ord_in s o i h; omega
    · have := ord_in t _ i h; omega
/-- How great a node's tree is, as the nodes ahead say. -/
def sz (L : List Nd) (i : Nat) : Int :=
  match L[i]? with
  | none => 1
  | some x =>
    if x.kind = 5 ∨ x.kind = 6 then 1 + (if _h : 0 ≤ x.a ∧ x.a.toNat < i then sz L x.a.toNat else 0) + (if _h : 0 ≤ x.b ∧ x.b.toNat < i then sz L x.b.toNat else 0)
    else if x.kind = 7 ∨ x.kind = 8 ∨ x.kind = 9 then 1 + (if _h : 0 ≤ x.a ∧ x.a.toNat < i then sz L x.a.toNat else 0)
    else 1
termination_by i
theorem sz_leaf {L : List Nd} {i : Nat} {x : Nd} (h : L[i]? = some x) (hk : kids x = []) : sz L i = 1 := by
  rw [sz, h]
  dsimp only
  unfold kids at hk
  split at hk
  · cases hk
  · rename_i h1
    rw [if_neg h1]
    split at hk
    · cases hk
    · rename_i h2; rw [if_neg h2]
theorem sz_one {L : List Nd} {i : Nat} {x : Nd} (h : L[i]? = some x) (hk : x.kind = 7 ∨ x.kind = 8 ∨ x.kind = 9) (ha : 0 ≤ x.a ∧ x.a < i) : sz L i = 1 + sz L x.a.toNat := by
  conv => lhs; rw [sz, h]
  dsimp only
  rw [if_neg (by omega), if_pos hk, dif_pos ⟨ha.1, by omega⟩]
theorem sz_two {L : List Nd} {i : Nat} {x : Nd} (h : L[i]? = some x) (hk : x.kind = 5 ∨ x.kind = 6) (ha : 0 ≤ x.a ∧ x.a < i) (hb : 0 ≤ x.b ∧ x.b < i) : sz L i = 1 + sz L x.a.toNat + sz L x.b.toNat := by
  conv => lhs; rw [sz, h]
  dsimp only
  rw [if_pos hk, dif_pos ⟨ha.1, by omega⟩, dif_pos ⟨hb.1, by omega⟩]
/-- Does a node stand right behind all that hangs on it? -/
def beh (L : List Nd) (i : Nat) (x : Nd) : Prop :=
  if x.kind = 5 ∨ x.kind = 6 then x.b = (i : Int) - 1 ∧ x.a = (i : Int) - sz L x.b.toNat - 1
  else if x.kind = 7 ∨ x.kind = 8 ∨ x.kind = 9 then x.a = (i : Int) - 1 else True
theorem at_mk_one {L : List Nd} {o : Nat} {x : Nd} {t : Tree} (h : At L o t) (hx : L[o + size t]? = some x) (ha : x.a = (o : Int) + size t - 1) : At L o (one x t) := At.mk fun j hj => by
  have e : flat o (one x t) = flat o t ++ [x] := by
    show flat o t ++ [{ x with a := (o : Int) + size t - 1 }] = _
    rw [← ha]
  rw [e]
  have hj' : j < size t + 1 := hj
  by_cases h1 : j < size t
  · rw [List.getElem?_append_left (by rw [flat_len]; exact h1)]; exact h.get h1
  · obtain rfl : j = size t := by omega
    rw [List.getElem?_append_right (by rw [flat_len]; exact Nat.le_refl _), flat_len, Nat.sub_self, hx]; rfl
theorem at_mk_two {L : List Nd} {o : Nat} {x : Nd} {s t : Tree} (h1 : At L o s) (h2 : At L (o + size s) t) (hx : L[o + size s + size t]? = some x) (ha : x.a = (o : Int) + size s - 1) (hb : x.b = (o : Int) + size s + size t - 1) : At L o (two x s t) := At.mk fun j hj => by
  have e : flat o (two x s t) = flat o s ++ (flat (o + size s) t ++ [x]) := by
    show flat o s ++ (flat (o + size s) t ++ [{ x with a := (o : Int) + size s - 1, b := (o : Int) + size s + size t - 1 }]) = _
    rw [← ha, ← hb]
  rw [e]
  have hj' : j < size s + size t + 1 := hj
  by_cases h3 : j < size s
  · rw [List.getElem?_append_left (by rw [flat_len]; exact h3)]; exact h1.get h3
  · rw [List.getElem?_append_right (by rw [flat_len]; omega), flat_len]
    by_cases h4 : j < size s + size t
    · rw [List.getElem?_append_left (by rw [flat_len]; omega), ← h2.get (by omega)]
      congr 1; omega
    · obtain rfl : j = size s + size t := by omega
      rw [List.getElem?_append_right (by rw [flat_len]; omega), flat_len, show size s + size t - size s - size t = 0 by omega, ← Nat.add_assoc, hx]; rfl
/-- A node's tree, where all nodes up to it have their kids ahead and right ahead. -/
theorem build {L : List Nd} : ∀ (n i : Nat), i < n → i < L.length → (∀ j x, j ≤ i → L[j]? = some x → (∀ k ∈ kids x, 0 ≤ k ∧ k < (j : Int)) ∧ beh L j x) →
    ∃ t, Ok t ∧ size t ≤ i + 1 ∧ sz L i = (size t : Int) ∧ At L (i + 1 - size t) t
  | 0, i, hn, _, _ => by omega
  | n + 1, i, hn, hi, hall => by
    obtain ⟨x, hx⟩ : ∃ x, L[i]? = some x := ⟨_, List.getElem?_eq_getElem hi⟩
    obtain ⟨hk, hb⟩ := hall i x (Nat.le_refl _) hx
    by_cases h2 : x.kind = 5 ∨ x.kind = 6
    · unfold beh at hb
      rw [if_pos h2] at hb
      rw [kids_two h2] at hk
      have ka := hk x.a (by simp)
      have kb := hk x.b (by simp)
      have eb : x.b.toNat = i - 1 := by omega
      obtain ⟨t2, ok2, sz2, e2, at2⟩ := build n (i - 1) (by omega) (by omega) (fun j y hj hy => hall j y (by omega) hy)
      rw [eb, e2] at hb
      have ea : x.a.toNat = i - size t2 - 1 := by omega
      obtain ⟨t1, ok1, sz1, e1, at1⟩ := build n (i - size t2 - 1) (by omega) (by omega) (fun j y hj hy => hall j y (by omega) hy)
      have p2 := size_pos t2
      have e3 : size (two x t1 t2) = size t1 + size t2 + 1 := rfl
      refine ⟨two x t1 t2, ⟨h2, ok1, ok2⟩, by omega, ?_, ?_⟩
      · rw [sz_two hx h2 ka kb, ea, eb, e1, e2, e3]; omega
      · refine at_mk_two ?_ ?_ ?_ ?_ ?_
        · rw [e3, show i + 1 - (size t1 + size t2 + 1) = i - size t2 - 1 + 1 - size t1 by omega]; exact at1
        · rw [e3, show i + 1 - (size t1 + size t2 + 1) + size t1 = i - 1 + 1 - size t2 by omega]; exact at2
        · rw [e3, show i + 1 - (size t1 + size t2 + 1) + size t1 + size t2 = i by omega]; exact hx
        · rw [e3]; omega
        · rw [e3]; omega
    · by_cases h1 : x.kind = 7 ∨ x.kind = 8 ∨ x.kind = 9
      · unfold beh at hb
        rw [if_neg h2, if_pos h1] at hb
        rw [kids_one h1] at hk
        have ka := hk x.a (by simp)
        have ea : x.a.toNat = i - 1 := by omega
        obtain ⟨t1, ok1, sz1, e1, at1⟩ := build n (i - 1) (by omega) (by omega) (fun j y hj hy => hall j y (by omega) hy)
        have e3 : size (one x t1) = size t1 + 1 := rfl
        refine ⟨one x t1, ⟨h1, ok1⟩, by omega, ?_, ?_⟩
        · rw [sz_one hx h1 ka, ea, e1, e3]; omega
        · refine at_mk_one ?_ ?_ ?_
          · rw [e3, show i + 1 - (size t1 + 1) = i - 1 + 1 - size t1 by omega]; exact at1
          · rw [e3, show i + 1 - (size t1 + 1) + size t1 = i by omega]; exact hx
          · rw [e3]; omega
      · have h0 : kids x = [] := by unfold kids; rw [if_neg h2, if_neg h1]
        refine ⟨leaf x, h0, by show 1 ≤ i + 1; omega, by rw [sz_leaf hx h0]; rfl, At.mk fun j hj => ?_⟩
        have hj' : j < 1 := hj
        obtain rfl : j = 0 := by omega
        exact hx
/-- The kids of a tree's nodes stand within it, ahead. -/
theorem kids_in {L : List Nd} : ∀ (t : Tree) (o : Nat), At L o t → Ok t → ∀ j x, o ≤ j → j < o + size t → L[j]? = some x → ∀ k ∈ kids x, (o : Int) ≤ k ∧ k < (j : Int)
  | leaf y, o, h, hok, j, x, h1, h2, hx, k, hk => by
    have h2' : j < o + 1 := h2
    obtain rfl : j = o := by omega
    rw [at_leaf h] at hx
    injection hx with hx
    subst hx
    have : kids y = [] := hok
    rw [this] at hk; cases hk
  | one y t, o, h, hok, j, x, h1, h2, hx, k, hk => by
    obtain ⟨g1, g2⟩ := at_one h
    obtain ⟨k1, k2⟩ := hok
    have h2' : j < o + (size t + 1) := h2
    by_cases hj : j < o + size t
    · exact kids_in t o g1 k2 j x h1 hj hx k hk
    · obtain rfl : j = o + size t := by omega
      rw [g2] at hx
      injection hx with hx
      subst hx
      rw [kids_one (x := { y with a := (o : Int) + size t - 1 }) k1] at hk
      simp at hk
      have := size_pos t
      omega
  | two y s t, o, h, hok, j, x, h1, h2, hx, k, hk => by
    obtain ⟨g1, g2, g3⟩ := at_two h
    obtain ⟨k1, k2, k3⟩ := hok
    have h2' : j < o + (size s + size t + 1) := h2
    by_cases hj : j < o + size s
    · exact kids_in s o g1 k2 j x h1 hj hx k hk
    · by_cases hj2 : j < o + size s + size t
      · have := kids_in t _ g2 k3 j x (by omega) hj2 hx k hk
        omega
      · obtain rfl : j = o + size s + size t := by omega
        rw [g3] at hx
        injection hx with hx
        subst hx
        rw [kids_two (x := { y with a := (o : Int) + size s - 1, b := (o : Int) + size s + size t - 1 }) k1] at hk
        simp at hk
        have := size_pos t
        have := size_pos s
        omega
/-- How often a number stands among the kids of a row's nodes. -/
def uses (L : List Nd) (m : Int) : Nat := (L.flatMap kids).count m
theorem uses_append (A B : List Nd) (m : Int) : uses (A ++ B) m = uses A m + uses B m := by simp [uses, List.flatMap_append, List.count_append]
theorem uses_one (x : Nd) (m : Int) : uses [x] m = (kids x).count m := by simp [uses]
theorem uses_pos {L : List Nd} {m : Int} (h : 0 < uses L m) : ∃ (j : Nat) (x : Nd), L[j]? = some x ∧ m ∈ kids x := by
  unfold uses at h
  have hm := List.count_pos_iff.1 h
  obtain ⟨x, hx, hk⟩ := List.mem_flatMap.1 hm
  obtain ⟨j, hj⟩ := List.getElem?_of_mem hx
  exact ⟨j, x, hj, hk⟩
theorem uses_flat : ∀ (t : Tree) (o : Nat) (m : Int), Ok t → uses (flat o t) m = if (o : Int) ≤ m ∧ m + 1 < (o : Int) + size t then 1 else 0
  | leaf x, o, m, h => by
    have h' : kids x = [] := h
    show uses [x] m = _
    rw [uses_one, h', if_neg (by show ¬ (_ ∧ m + 1 < (o : Int) + ((1 : Nat) : Int)); omega)]; rfl
  | one x t, o, m, h => by
    obtain ⟨h1, h2⟩ := h
    have e : (size (one x t) : Int) = size t + 1 := rfl
    have hp := size_pos t
    show uses (flat o t ++ [_]) m = _
    rw [uses_append, uses_flat t o m h2, uses_one, kids_one (x := { x with a := (o : Int) + size t - 1 }) h1, e]
    dsimp only
    by_cases hm : m = (o : Int) + size t - 1
    · rw [if_neg (by omega), if_pos (by omega), hm]; simp
    · rw [List.count_cons_of_ne (by simpa using fun h => hm h.symm), List.count_nil]
      by_cases h3 : (o : Int) ≤ m ∧ m + 1 < (o : Int) + size t
      · rw [if_pos h3, if_pos (by omega)]
      · rw [if_neg h3, if_neg (by omega)]
  | two x s t, o, m, h => by
    obtain ⟨h1, h2, h3⟩ := h
    have e : (size (two x s t) : Int) = size s + size t + 1 := rfl
    have hp := size_pos t
    have hp2 := size_pos s
    show uses (flat o s ++ (flat (o + size s) t ++ [_])) m = _
    rw [uses_append, uses_append, uses_flat s o m h2, uses_flat t _ m h3, uses_one, kids_two (x := { x with a := (o : Int) + size s - 1, b := (o : Int) + size s + size t - 1 }) h1, e]
    dsimp only
    by_cases hm : m = (o : Int) + size s - 1
    · rw [if_neg (by omega), if_neg (by omega), if_pos (by omega), hm, List.count_cons_self, List.count_cons_of_ne (by simp; omega), List.count_nil]
    · rw [List.count_cons_of_ne (by simpa using fun h => hm h.symm)]
      by_cases hm2 : m = (o : Int) + size s + size t - 1
      · rw [if_neg (by omega), if_neg (by omega), if_pos (by omega), hm2, List.count_cons_self, List.count_nil]
      · rw [List.count_cons_of_ne (by simpa using fun h => hm2 h.symm), List.count_nil]
        by_cases h3 : (o : Int) ≤ m ∧ m + 1 < (o : Int) + size s
        · rw [if_pos h3, if_neg (by omega), if_pos (by omega)]
        · rw [if_neg h3]
          by_cases h4 : ((o + size s : Nat) : Int) ≤ m ∧ m + 1 < ((o + size s : Nat) : Int) + size t
          · rw [if_pos h4, if_pos (by omega)]
          · rw [if_neg h4, if_neg (by omega)]
/-- A row whose nodes have their kids ahead, right ahead, and each node but the last one once: a tree's. -/
theorem is_flat {L : List Nd} (h0 : 0 < L.length) (hk : ∀ (j : Nat) x, L[j]? = some x → (∀ k ∈ kids x, 0 ≤ k ∧ k < (j : Int)) ∧ beh L j x) (hu : ∀ m : Nat, m + 1 < L.length → uses L (m : Int) = 1) : ∃ t, Ok t ∧ L = flat 0 t := by
  obtain ⟨t, ok, sz1, _, hat⟩ := build (L := L) L.length (L.length - 1) (by omega) (by omega) (fun j x _ hx => hk j x hx)
  have hp := size_pos t
  have hz : L.length - 1 + 1 - size t = 0 := by
    rcases Nat.eq_zero_or_pos (L.length - 1 + 1 - size t) with h | h
    · exact h
    · exfalso
      have hu1 := hu (L.length - 1 + 1 - size t - 1) (by omega)
      obtain ⟨j, x, hx, hm⟩ := uses_pos (L := L) (m := ((L.length - 1 + 1 - size t - 1 : Nat) : Int)) (by omega)
      have h1 := (hk j x hx).1 _ hm
      have hj : j < L.length := (List.getElem?_eq_some_iff.1 hx).1
      have := kids_in t _ hat ok j x (by omega) (by omega) hx _ hm
      omega
  rw [hz] at hat
  refine ⟨t, ok, ?_⟩
  have := hat.len
  unfold At at hat
  rw [List.drop_zero, List.take_of_length_le (by omega)] at hat
  exact hat
end ObTree
