/-
  What the document fixes of trees (wakes), as the statements ask it. No conditions.
-/
import Derived.Test.YtceeimolfalmpaaVT
namespace Go.Proofs.Ytceeimolfalmpaa
open Go.RowKit ObSets ObTree ObTree.Tree

/-- The groups of a tree that is numbered anew have their numbers in order. -/
theorem num_caps (L : List Nd) : ∀ (t : Tree) (n o : Nat), Ok t → At L o (num n t) → ∀ (p : Nat) v, (capsOf L (ord o (num n t)))[p]? = some v → v = (n : Int) + p + 1 ∧ p < ncap t
  | .leaf x, n, o, hok, h, p, v, hv => by
    exfalso
    have hx := at_leaf h
    have h0 : kids x = [] := hok
    have hk : x.kind ≠ 8 := fun e => by rw [kids_one (by omega)] at h0; cases h0
    have e : capAt L (o : Int) = none := by unfold capAt; rw [Int.toNat_natCast, hx]; dsimp only; rw [if_neg hk]
    have : capsOf L (ord o (num n (.leaf x))) = [] := by
      show capsOf L [(o : Int)] = []
      unfold capsOf
      rw [List.filterMap_cons, e]; rfl
    rw [this] at hv; simp at hv
  | .one x t, n, o, hok, h, p, v, hv => by
    obtain ⟨k1, k2⟩ := hok
    by_cases hk : x.kind = 8
    · have en : num n (.one x t) = .one { x with n := (n : Int) + 1 } (num (n + 1) t) := by simp only [num]; rw [if_pos hk]
      rw [en] at h hv
      obtain ⟨g1, g2⟩ := at_one h
      have ih := num_caps L t (n + 1) o k2 g1
      have e : capAt L ((o : Int) + (size (num (n + 1) t) : Int)) = some ((n : Int) + 1) := by
        unfold capAt
        rw [show ((o : Int) + (size (num (n + 1) t) : Int)).toNat = o + size (num (n + 1) t) by omega, g2]
        dsimp only; rw [if_pos hk]
      have ec : capsOf L (ord o (.one { x with n := (n : Int) + 1 } (num (n + 1) t))) = ((n : Int) + 1) :: capsOf L (ord o (num (n + 1) t)) := by
        simp only [ord]
        unfold capsOf
        rw [List.filterMap_cons, e]
      rw [ec] at hv
      have enc : ncap (.one x t) = 1 + ncap t := by simp only [ncap]; rw [if_pos hk]
      rw [enc]
      cases p with
      | zero => simp at hv; omega
      | succ p =>
        have := ih p v (by simpa using hv)
        omega
    · have en : num n (.one x t) = .one x (num n t) := by simp only [num]; rw [if_neg hk]
      rw [en] at h hv
      obtain ⟨g1, g2⟩ := at_one h
      have ih := num_caps L t n o k2 g1
      have e : capAt L ((o : Int) + (size (num n t) : Int)) = none := by
        unfold capAt
        rw [show ((o : Int) + (size (num n t) : Int)).toNat = o + size (num n t) by omega, g2]
        dsimp only; rw [if_neg hk]
      have ec : capsOf L (ord o (.one x (num n t))) = capsOf L (ord o (num n t)) := by
        simp only [ord]
        unfold capsOf
        rw [List.filterMap_cons, e]
      rw [ec] at hv
      have enc : ncap (.one x t) = ncap t := by simp only [ncap]; rw [if_neg hk, Nat.zero_add]
      rw [enc]
      exact ih p v hv
  | .two x s t, n, o, hok, h, p, v, hv => by
    obtain ⟨k1, k2, k3⟩ := hok
    have en : num n (.two x s t) = .two x (num n s) (num (n + ncap s) t) := rfl
    rw [en] at h hv
    obtain ⟨g1, g2, g3⟩ := at_two h
    have i1 := num_caps L s n o k2 g1
    have i2 := num_caps L t (n + ncap s) (o + size (num n s)) k3 g2
    have hlen := num_capsLen L s n o k2 g1
    have e : capAt L ((o : Int) + (size (num n s) : Int) + (size (num (n + ncap s) t) : Int)) = none := by
      unfold capAt
      rw [show ((o : Int) + (size (num n s) : Int) + (size (num (n + ncap s) t) : Int)).toNat = o + size (num n s) + size (num (n + ncap s) t) by omega, g3]
      dsimp only; rw [if_neg (by omega)]
    have ec : capsOf L (ord o (.two x (num n s) (num (n + ncap s) t))) = capsOf L (ord o (num n s)) ++ capsOf L (ord (o + size (num n s)) (num (n + ncap s) t)) := by
      simp only [ord]
      unfold capsOf
      rw [List.filterMap_cons, e, List.filterMap_append]
    rw [ec] at hv
    have enc : ncap (.two x s t) = ncap s + ncap t := rfl
    rw [enc]
    by_cases hp : p < ncap s
    · rw [List.getElem?_append_left (by omega)] at hv
      have := i1 p v hv
      omega
    · rw [List.getElem?_append_right (by omega), hlen] at hv
      have := i2 (p - ncap s) v hv
      omega
where
  num_capsLen (L : List Nd) : ∀ (t : Tree) (n o : Nat), Ok t → At L o (num n t) → (capsOf L (ord o (num n t))).length = ncap t
  | .leaf x, n, o, hok, h => by
    have hx := at_leaf h
    have h0 : kids x = [] := hok
    have hk : x.kind ≠ 8 := fun e => by rw [kids_one (by omega)] at h0; cases h0
    have e : capAt L (o : Int) = none := by unfold capAt; rw [Int.toNat_natCast, hx]; dsimp only; rw [if_neg hk]
    show (capsOf L [(o : Int)]).length = 0
    unfold capsOf
    rw [List.filterMap_cons, e]; rfl
  | .one x t, n, o, hok, h => by
    obtain ⟨k1, k2⟩ := hok
    by_cases hk : x.kind = 8
    · have en : num n (.one x t) = .one { x with n := (n : Int) + 1 } (num (n + 1) t) := by simp only [num]; rw [if_pos hk]
      rw [en] at h ⊢
      obtain ⟨g1, g2⟩ := at_one h
      have ih := num_capsLen L t (n + 1) o k2 g1
      have e : capAt L ((o : Int) + (size (num (n + 1) t) : Int)) = some ((n : Int) + 1) := by
        unfold capAt
        rw [show ((o : Int) + (size (num (n + 1) t) : Int)).toNat = o + size (num (n + 1) t) by omega, g2]
        dsimp only; rw [if_pos hk]
      have enc : ncap (.one x t) = 1 + ncap t := by simp only [ncap]; rw [if_pos hk]
      rw [enc, ← ih]
      simp only [ord]
      unfold capsOf
      rw [List.filterMap_cons, e]
      simp; omega
    · have en : num n (.one x t) = .one x (num n t) := by simp only [num]; rw [if_neg hk]
      rw [en] at h ⊢
      obtain ⟨g1, g2⟩ := at_one h
      have ih := num_capsLen L t n o k2 g1
      have e : capAt L ((o : Int) + (size (num n t) : Int)) = none := by
        unfold capAt
        rw [show ((o : Int) + (size (num n t) : Int)).toNat = o + size (num n t) by omega, g2]
        dsimp only; rw [if_neg hk]
      have enc : ncap (.one x t) = ncap t := by simp only [ncap]; rw [if_neg hk, Nat.zero_add]
      rw [enc, ← ih]
      simp only [ord]
      unfold capsOf
      rw [List.filterMap_cons, e]
  | .two x s t, n, o, hok, h => by
    obtain ⟨k1, k2, k3⟩ := hok
    have en : num n (.two x s t) = .two x (num n s) (num (n + ncap s) t) := rfl
    rw [en] at h ⊢
    obtain ⟨g1, g2, g3⟩ := at_two h
    have i1 := num_capsLen L s n o k2 g1
    have i2 := num_capsLen L t (n + ncap s) (o + size (num n s)) k3 g2
    have e : capAt L ((o : Int) + (size (num n s) : Int) + (size (num (n + ncap s) t) : Int)) = none := by
      unfold capAt
      rw [show ((o : Int) + (size (num n s) : Int) + (size (num (n + ncap s) t) : Int)).toNat = o + size (num n s) + size (num (n + ncap s) t) by omega, g3]
      dsimp only; rw [if_neg (by omega)]
    have enc : ncap (.two x s t) = ncap s + ncap t := rfl
    have ec : capsOf L (ord o (.two x (num n s) (num (n + ncap s) t))) = capsOf L (ord o (num n s)) ++ capsOf L (ord (o + size (num n s)) (num (n + ncap s) t)) := by
      simp only [ord]
      unfold capsOf
      rw [List.filterMap_cons, e, List.filterMap_append]
    rw [ec, List.length_append, i1, i2, enc]
/-- A tree numbered anew, its nodes fine: a good one. -/
theorem good_num {t : Tree} (hok : Ok t) (hnb : size t ≤ 20000) (hf : ∀ x ∈ flat 0 (num 0 t), Fine x) : GoodL (flat 0 (num 0 t)) := by
  have ho := num_ok t 0 hok
  have hs := sound_flat ho hf
  refine ⟨hs, beh_flat ho (by rw [num_size]; exact hnb) hs, fun u hu e => ?_⟩
  rw [← ord_same ho hu e]
  intro p v hv
  have := (num_caps (flat 0 (num 0 t)) t 0 0 hok (At.whole _) p v hv).1
  omega
/-- The two trees that the document's words name. -/
abbrev tW (x y : Nd) : Tree := .one ⟨8, 0, 0, [], 0, 0, 1⟩ (.two ⟨6, 0, 0, [], 0, 0, 0⟩ (.leaf x) (.leaf y))
abbrev uW (x : Nd) : Tree := .one ⟨8, 0, 0, [], 0, 0, 2⟩ (.leaf x)
theorem tW_flat (x y : Nd) : flat 0 (tW x y) = [x, y, ⟨6, 0, 1, [], 0, 0, 0⟩, ⟨8, 2, 0, [], 0, 0, 1⟩] := by simp [flat, size]
theorem uW_flat (x : Nd) : flat 0 (uW x) = [x, ⟨8, 0, 0, [], 0, 0, 2⟩] := by simp [flat, size]
theorem tW_ok {x y : Nd} (hx : LeafOk x) (hy : LeafOk y) : Ok (tW x y) := ⟨.inr (.inl rfl), .inr rfl, hx.1, hy.1⟩
theorem uW_ok {x : Nd} (hx : LeafOk x) : Ok (uW x) := ⟨.inr (.inl rfl), hx.1⟩
theorem tW_good {x y : Nd} (hx : LeafOk x) (hy : LeafOk y) : GoodL (flat 0 (tW x y)) := by
  have e : num 0 (.one ⟨8, 0, 0, [], 0, 0, 0⟩ (.two ⟨6, 0, 0, [], 0, 0, 0⟩ (.leaf x) (.leaf y))) = tW x y := rfl
  rw [← e]
  refine good_num ⟨.inr (.inl rfl), .inr rfl, hx.1, hy.1⟩ (by simp [size]) (fun z hz => ?_)
  rw [e, tW_flat] at hz
  simp only [List.mem_cons, List.not_mem_nil, or_false] at hz
  rcases hz with rfl | rfl | rfl | rfl
  · exact hx.2.1
  · exact hy.2.1
  · unfold Fine; exact ⟨rfl, rfl, rfl, rfl⟩
  · unfold Fine; exact ⟨rfl, rfl, rfl, rfl, by decide, by decide⟩
theorem uW_sound {x : Nd} (hx : LeafOk x) : SoundL (flat 0 (uW x)) := by
  refine sound_flat (uW_ok hx) (fun z hz => ?_)
  rw [uW_flat] at hz
  simp only [List.mem_cons, List.not_mem_nil, or_false] at hz
  rcases hz with rfl | rfl
  · exact hx.2.1
  · unfold Fine; exact ⟨rfl, rfl, rfl, rfl, by decide, by decide⟩
theorem uW_bad {x : Nd} (hx : LeafOk x) : ¬ GoodL (flat 0 (uW x)) := fun h => by
  have h1 := h.2.2 (uW x) (uW_ok hx) rfl
  have hk : x.kind ≠ 8 := fun e => by have := hx.1; rw [kids_one (by omega)] at this; cases this
  have := h1 0 2 (by
    have e : capsOf (flat 0 (uW x)) (ord 0 (uW x)) = [2] := by
      rw [uW_flat]
      have eo : ord 0 (uW x) = [1, 0] := rfl
      rw [eo]
      unfold capsOf
      rw [List.filterMap_cons, show capAt [x, ⟨8, 0, 0, [], 0, 0, 2⟩] 1 = some 2 from rfl, List.filterMap_cons, show capAt [x, ⟨8, 0, 0, [], 0, 0, 2⟩] 0 = none by show (if x.kind = 8 then some x.n else none) = none; rw [if_neg hk]]
      rfl
    rw [e]; rfl)
  omega
theorem tW_first {x y : Nd} (hx : LeafOk x) (hy : LeafOk y) : fst (flat 0 (tW x y)) 2 = 0 ∧ fst (flat 0 (tW x y)) 1 = 1 := by
  have hat := At.whole (tW x y)
  obtain ⟨g1, g2⟩ := at_one hat
  obtain ⟨q1, q2, q3⟩ := at_two g1
  have s2 := (at_beh _ 0 g1 ⟨.inr rfl, hx.1, hy.1⟩).1
  have s1 := (at_beh _ _ q2 hy.1).1
  constructor
  · unfold fst
    have : sz (flat 0 (tW x y)) 2 = 3 := s2
    rw [show (2 : Int).toNat = 2 from rfl, this]; rfl
  · unfold fst
    have : sz (flat 0 (tW x y)) 1 = 1 := s1
    rw [show (1 : Int).toNat = 1 from rfl, this]; rfl
end Go.Proofs.Ytceeimolfalmpaa
