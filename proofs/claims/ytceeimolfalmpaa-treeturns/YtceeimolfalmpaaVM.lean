/-
  Plain: where each node's tree begins in a tree's row, the order of its groups, what makes a row a good tree. No program's walk, no conditions but those written.
-/
import Derived.Test.YtceeimolfalmpaaVJ
namespace Go.Proofs.Ytceeimolfalmpaa
open Go.RowKit ObSets ObTree ObTree.Tree

theorem kids_none {x : Nd} (h : kids x = []) : ¬ (x.kind = 5 ∨ x.kind = 6) ∧ ¬ (x.kind = 7 ∨ x.kind = 8 ∨ x.kind = 9) :=
  ⟨(fun h2 => by rw [kids_two h2] at h; cases h), (fun h1 => by rw [kids_one h1] at h; cases h)⟩
/-- In a tree that lies in a row each node's tree is as great as it is, and stands right behind what hangs on it, and begins within it. -/
theorem at_beh {L : List Nd} : ∀ (t : Tree) (o : Nat), At L o t → Ok t → sz L (o + size t - 1) = (size t : Int) ∧
    ∀ j x, o ≤ j → j < o + size t → L[j]? = some x → beh L j x ∧ (1 : Int) ≤ sz L j ∧ (o : Int) ≤ (j : Int) + 1 - sz L j
  | .leaf y, o, h, hok => by
    have hx := at_leaf h
    have h0 : kids y = [] := hok
    have e := sz_leaf hx h0
    obtain ⟨k2, k1⟩ := kids_none h0
    refine ⟨e, fun j x h1 h2 hx' => ?_⟩
    have h2' : j < o + 1 := h2
    obtain rfl : j = o := by omega
    rw [hx] at hx'; injection hx' with hx'; subst hx'
    refine ⟨?_, by omega, by omega⟩
    unfold beh; rw [if_neg k2, if_neg k1]; trivial
  | .one y t, o, h, hok => by
    obtain ⟨g1, g2⟩ := at_one h
    obtain ⟨k1, k2⟩ := hok
    obtain ⟨i1, i2⟩ := at_beh t o g1 k2
    have hp := size_pos t
    have es : size (.one y t) = size t + 1 := rfl
    have e : sz L (o + size t) = 1 + sz L (o + size t - 1) := by
      have := sz_one (x := { y with a := (o : Int) + size t - 1 }) g2 k1 (by dsimp only; omega)
      rw [this]; congr 2; dsimp only; omega
    refine ⟨by rw [es, show o + (size t + 1) - 1 = o + size t by omega, e, i1]; omega, fun j x h1 h2 hx => ?_⟩
    rw [es] at h2
    by_cases hj : j < o + size t
    · exact i2 j x h1 hj hx
    · obtain rfl : j = o + size t := by omega
      rw [g2] at hx; injection hx with hx; subst hx
      refine ⟨?_, by rw [e, i1]; omega, by rw [e, i1]; omega⟩
      unfold beh; rw [if_neg (by show ¬ (y.kind = 5 ∨ y.kind = 6); omega), if_pos k1]; dsimp only; omega
  | .two y s t, o, h, hok => by
    obtain ⟨g1, g2, g3⟩ := at_two h
    obtain ⟨k1, k2, k3⟩ := hok
    obtain ⟨i1, i2⟩ := at_beh s o g1 k2
    obtain ⟨j1, j2⟩ := at_beh t (o + size s) g2 k3
    have hp := size_pos t
    have hp2 := size_pos s
    have es : size (.two y s t) = size s + size t + 1 := rfl
    have eb : (((o : Int) + size s + size t - 1).toNat) = o + size s + size t - 1 := by omega
    have ea : (((o : Int) + size s - 1).toNat) = o + size s - 1 := by omega
    have e : sz L (o + size s + size t) = 1 + (size s : Int) + (size t : Int) := by
      have := sz_two (x := { y with a := (o : Int) + size s - 1, b := (o : Int) + size s + size t - 1 }) g3 k1 (by dsimp only; omega) (by dsimp only; omega)
      rw [this]; dsimp only; rw [ea, eb, i1, j1]
    refine ⟨by rw [es, show o + (size s + size t + 1) - 1 = o + size s + size t by omega, e]; omega, fun j x h1 h2 hx => ?_⟩
    rw [es] at h2
    by_cases hj : j < o + size s
    · exact i2 j x h1 hj hx
    · by_cases hj2 : j < o + size s + size t
      · obtain ⟨q1, q2, q3⟩ := j2 j x (by omega) hj2 hx
        exact ⟨q1, q2, by omega⟩
      · obtain rfl : j = o + size s + size t := by omega
        rw [g3] at hx; injection hx with hx; subst hx
        refine ⟨?_, by rw [e]; omega, by rw [e]; omega⟩
        unfold beh; rw [if_pos (by exact k1)]; dsimp only; rw [eb, j1]; omega
/-- Where a node's tree begins. -/
def fst (L : List Nd) (z : Int) : Int := z + 1 - sz L z.toNat
theorem ord_sorted {L : List Nd} : ∀ (t : Tree) (o : Nat), At L o t → Ok t → (ord o t).Pairwise fun a b => fst L a < fst L b ∨ (fst L a = fst L b ∧ b < a)
  | .leaf y, o, _, _ => by simp [ord]
  | .one y t, o, h, hok => by
    have h' := h
    have hok' := hok
    obtain ⟨g1, g2⟩ := at_one h
    obtain ⟨k1, k2⟩ := hok
    obtain ⟨e, _⟩ := at_beh (.one y t) o h' hok'
    obtain ⟨_, i2⟩ := at_beh t o g1 k2
    have es : size (.one y t) = size t + 1 := rfl
    rw [es, show o + (size t + 1) - 1 = o + size t by omega] at e
    simp only [ord]
    refine List.pairwise_cons.2 ⟨fun b hb => ?_, ord_sorted t o g1 k2⟩
    obtain ⟨b0, b1⟩ := ord_in t o b hb
    obtain ⟨bn, rfl⟩ := Int.eq_ofNat_of_zero_le (show 0 ≤ b by omega)
    obtain ⟨x, hx⟩ : ∃ x, L[bn]? = some x := ⟨_, List.getElem?_eq_getElem (by have := h'.len; rw [es] at this; omega)⟩
    obtain ⟨_, q2, q3⟩ := i2 bn x (by omega) (by omega) hx
    unfold fst
    rw [show ((o : Int) + (size t : Int)).toNat = o + size t by omega, e, Int.toNat_natCast]
    omega
  | .two y s t, o, h, hok => by
    have h' := h
    have hok' := hok
    obtain ⟨g1, g2, g3⟩ := at_two h
    obtain ⟨k1, k2, k3⟩ := hok
    obtain ⟨e, _⟩ := at_beh (.two y s t) o h' hok'
    obtain ⟨_, i2⟩ := at_beh s o g1 k2
    obtain ⟨_, j2⟩ := at_beh t (o + size s) g2 k3
    have es : size (.two y s t) = size s + size t + 1 := rfl
    rw [es, show o + (size s + size t + 1) - 1 = o + size s + size t by omega] at e
    have hlen := h'.len
    rw [es] at hlen
    have fs : ∀ b ∈ ord o s, (o : Int) ≤ fst L b ∧ fst L b ≤ b ∧ b < (o : Int) + size s := fun b hb => by
      obtain ⟨b0, b1⟩ := ord_in s o b hb
      obtain ⟨bn, rfl⟩ := Int.eq_ofNat_of_zero_le (show 0 ≤ b by omega)
      obtain ⟨x, hx⟩ : ∃ x, L[bn]? = some x := ⟨_, List.getElem?_eq_getElem (by omega)⟩
      obtain ⟨_, q2, q3⟩ := i2 bn x (by omega) (by omega) hx
      unfold fst
      rw [Int.toNat_natCast]
      omega
    have ft : ∀ b ∈ ord (o + size s) t, (o : Int) + size s ≤ fst L b ∧ b < (o : Int) + size s + size t := fun b hb => by
      obtain ⟨b0, b1⟩ := ord_in t (o + size s) b hb
      obtain ⟨bn, rfl⟩ := Int.eq_ofNat_of_zero_le (show 0 ≤ b by omega)
      obtain ⟨x, hx⟩ : ∃ x, L[bn]? = some x := ⟨_, List.getElem?_eq_getElem (by omega)⟩
      obtain ⟨_, q2, q3⟩ := j2 bn x (by omega) (by omega) hx
      unfold fst
      rw [Int.toNat_natCast]
      omega
    have f0 : fst L ((o : Int) + size s + size t) = (o : Int) := by
      unfold fst
      rw [show ((o : Int) + (size s : Int) + (size t : Int)).toNat = o + size s + size t by omega, e]
      omega
    simp only [ord]
    refine List.pairwise_cons.2 ⟨fun b hb => ?_, List.pairwise_append.2 ⟨ord_sorted s o g1 k2, ord_sorted t _ g2 k3, fun a ha b hb => ?_⟩⟩
    · rw [f0]
      rcases List.mem_append.1 hb with hb | hb
      · have := fs b hb; omega
      · have := ft b hb; omega
    · have := fs a ha
      have := ft b hb
      omega
theorem range_add (o : Nat) : ∀ (a b : Nat), (List.range (a + b)).map (fun k : Nat => (o : Int) + k) = (List.range a).map (fun k : Nat => (o : Int) + k) ++ (List.range b).map (fun k : Nat => ((o + a : Nat) : Int) + k) := fun a b => by
  rw [List.range_add, List.map_append, List.map_map]
  congr 1
  apply List.map_congr_left
  intro k _
  show (o : Int) + ((a + k : Nat) : Int) = _
  omega
theorem ord_perm : ∀ (t : Tree) (o : Nat), (ord o t).Perm ((List.range (size t)).map fun k : Nat => (o : Int) + k)
  | .leaf _, o => by simp [ord, size]
  | .one _ t, o => by
    have ih := ord_perm t o
    simp only [ord, size, List.range_succ, List.map_append, List.map_cons, List.map_nil]
    exact (List.Perm.cons _ ih).trans (List.perm_append_singleton _ _).symm
  | .two _ s t, o => by
    have i1 := ord_perm s o
    have i2 := ord_perm t (o + size s)
    simp only [ord, size, List.range_succ, List.map_append, List.map_cons, List.map_nil]
    rw [range_add o (size s) (size t)]
    have e : (o : Int) + ((size s + size t : Nat) : Int) = (o : Int) + size s + size t := by omega
    rw [e]
    exact (List.Perm.cons _ (i1.append i2)).trans (List.perm_append_singleton _ _).symm
/-- Is it a group that stands there? -/
def isCap (L : List Nd) (z : Int) : Bool := match L[z.toNat]? with
  | some x => decide (x.kind = 8)
  | none => false
theorem idx_filter (L : List Nd) : ∀ m, idx 8 L m = ((List.range m).map fun k : Nat => ((0 : Nat) : Int) + k).filter (isCap L)
  | 0 => rfl
  | m + 1 => by
    rw [List.range_succ, List.map_append, List.filter_append, ← idx_filter L m]
    simp only [idx, List.map_cons, List.map_nil]
    congr 1
    have e : ((0 : Nat) : Int) + (m : Int) = (m : Int) := by omega
    rw [e]
    unfold List.filter isCap
    rw [Int.toNat_natCast]
    cases h : L[m]? with
    | none => rfl
    | some x =>
      dsimp only
      by_cases hk : x.kind = 8
      · rw [if_pos hk, decide_eq_true hk]; rfl
      · rw [if_neg hk, decide_eq_false hk]; rfl
theorem num_at (L : List Nd) : ∀ os : List Int, (capsOf L os).length = (os.filter (isCap L)).length ∧ ∀ p : Nat, (capsOf L os)[p]? = ((os.filter (isCap L))[p]?).bind fun z => (L[z.toNat]?).map Nd.n
  | [] => ⟨rfl, fun p => by simp [capsOf]⟩
  | z :: os => by
    obtain ⟨h1, h2⟩ := num_at L os
    cases h : L[z.toNat]? with
    | none =>
      have e : isCap L z = false := by unfold isCap; rw [h]
      have e2 : capAt L z = none := by unfold capAt; rw [h]
      rw [List.filter_cons_of_neg (by rw [e]; exact Bool.noConfusion), show capsOf L (z :: os) = capsOf L os by unfold capsOf; rw [List.filterMap_cons, e2]]
      exact ⟨h1, h2⟩
    | some x =>
      by_cases hk : x.kind = 8
      · have e : isCap L z = true := by unfold isCap; rw [h]; exact decide_eq_true hk
        have e2 : capAt L z = some x.n := by unfold capAt; rw [h]; dsimp only; rw [if_pos hk]
        rw [List.filter_cons_of_pos e, show capsOf L (z :: os) = x.n :: capsOf L os by unfold capsOf; rw [List.filterMap_cons, e2]]
        refine ⟨by simp [h1], fun p => ?_⟩
        cases p with
        | zero => simp [h]
        | succ p => simpa using h2 p
      · have e : isCap L z = false := by unfold isCap; rw [h]; exact decide_eq_false hk
        have e2 : capAt L z = none := by unfold capAt; rw [h]; dsimp only; rw [if_neg hk]
        rw [List.filter_cons_of_neg (by rw [e]; exact Bool.noConfusion), show capsOf L (z :: os) = capsOf L os by unfold capsOf; rw [List.filterMap_cons, e2]]
        exact ⟨h1, h2⟩
theorem numOk_at (L : List Nd) (os : List Int) : NumOk L os ↔ NumAt L (os.filter (isCap L)) (os.filter (isCap L)).length := by
  obtain ⟨h1, h2⟩ := num_at L os
  constructor
  · intro h p z x hp hz hx
    exact h p x.n (by rw [h2 p, hz]; simp [hx])
  · intro h p v hv
    have hp : p < (os.filter (isCap L)).length := by rw [← h1]; exact (List.getElem?_eq_some_iff.1 hv).1
    rw [h2 p, List.getElem?_eq_getElem hp] at hv
    simp at hv
    obtain ⟨x, hx, hn⟩ := hv
    rw [← hn]
    exact h p _ x hp (List.getElem?_eq_getElem hp) hx
/-- All nodes stand right behind what hangs on them just if the page reckons so. -/
theorem beh_all {L : List Nd} (hnb : L.length ≤ 20000) (hs : SoundTo L L.length) : BehL L ↔ ∀ (i : Nat) x, L[i]? = some x → beh L i x := by
  constructor
  · intro h i x hx
    have hi := (List.getElem?_eq_some_iff.1 hx).1
    exact (szs_sz rfl hnb hs h (i + 1) i (Nat.lt_succ_self _) hi x hx).2
  · intro h
    have key : ∀ (i : Nat), i < L.length → (szs L L.length)[i]? = some (sz L i) ∧ (1 : Int) ≤ sz L i ∧ sz L i ≤ (i : Int) + 1 := by
      intro i
      induction i using Nat.strongRecOn with
      | _ i ih =>
        intro hi
        obtain ⟨x, hx⟩ : ∃ x, L[i]? = some x := ⟨_, List.getElem?_eq_getElem hi⟩
        have hk := (hs i x hi hx).2
        obtain ⟨t, _, t2, t3, _⟩ := build (L := L) (i + 1) i (Nat.lt_succ_self _) hi (fun m z _ hz => ⟨(hs m z (by omega) hz).2, h m z hz⟩)
        have hp := size_pos t
        refine ⟨?_, by omega, by omega⟩
        have bd : ∀ j : Nat, j < i → (szs L i)[j]?.getD 0 = sz L j ∧ (1 : Int) ≤ sz L j ∧ sz L j ≤ (j : Int) + 1 := fun j hj => by
          obtain ⟨e1, e2, e3⟩ := ih j hj (by omega)
          have a1 := szs_get L (show j < i from hj)
          rw [← szs_get L (show j < L.length by omega), e1] at a1
          exact ⟨by rw [a1]; rfl, e2, e3⟩
        rw [szs_get L hi, kidsAt_some hx]
        by_cases k2 : x.kind = 5 ∨ x.kind = 6
        · rw [kids_two k2] at hk ⊢
          have ka := hk x.a (by simp)
          have kb := hk x.b (by simp)
          obtain ⟨pa, pa1, pa2⟩ := bd x.a.toNat (by omega)
          obtain ⟨pb, pb1, pb2⟩ := bd x.b.toNat (by omega)
          have ef : fold1 (szs L i) [x.a, x.b] = wrap64 (wrap64 (1 + (szs L i)[x.a.toNat]?.getD 0) + (szs L i)[x.b.toNat]?.getD 0) := rfl
          rw [ef, pa, pb, IntWalk.wrap64_in (1 + _) (by omega), IntWalk.wrap64_in _ (by omega), sz_two hx k2 ka kb]
        · by_cases k1 : x.kind = 7 ∨ x.kind = 8 ∨ x.kind = 9
          · rw [kids_one k1] at hk ⊢
            have ka := hk x.a (by simp)
            obtain ⟨pa, pa1, pa2⟩ := bd x.a.toNat (by omega)
            have ef : fold1 (szs L i) [x.a] = wrap64 (1 + (szs L i)[x.a.toNat]?.getD 0) := rfl
            rw [ef, pa, IntWalk.wrap64_in _ (by omega), sz_one hx k1 ka]
          · have h0 : kids x = [] := by unfold kids; rw [if_neg k2, if_neg k1]
            rw [h0, sz_leaf hx h0]; rfl
    intro i x hi hx
    have hb := h i x hx
    have hk := (hs i x hi hx).2
    intro p k hp
    by_cases k2 : x.kind = 5 ∨ x.kind = 6
    · rw [kids_two k2] at hk hp ⊢
      have ka := hk x.a (by simp)
      have kb := hk x.b (by simp)
      obtain ⟨pb, pb1, pb2⟩ := key x.b.toNat (by omega)
      unfold beh at hb; rw [if_pos k2] at hb
      have a0 : atAt (szs L L.length) [x.a, x.b] (i : Int) 0 = (i : Int) := rfl
      have a1 : atAt (szs L L.length) [x.a, x.b] (i : Int) 1 = wrap64 ((i : Int) - (szs L L.length)[x.b.toNat]?.getD 0) := rfl
      match p, hp with
      | 0, hp =>
        simp at hp; subst hp
        rw [a0, IntWalk.wrap64_in _ (by omega)]; exact hb.1
      | 1, hp =>
        simp at hp; subst hp
        rw [a1, pb]
        show x.a = wrap64 (wrap64 ((i : Int) - sz L x.b.toNat) - 1)
        rw [IntWalk.wrap64_in ((i : Int) - _) (by omega), IntWalk.wrap64_in _ (by omega)]; exact hb.2
      | p + 2, hp => simp at hp
    · by_cases k1 : x.kind = 7 ∨ x.kind = 8 ∨ x.kind = 9
      · rw [kids_one k1] at hk hp ⊢
        have ka := hk x.a (by simp)
        unfold beh at hb; rw [if_neg k2, if_pos k1] at hb
        have a0 : atAt (szs L L.length) [x.a] (i : Int) 0 = (i : Int) := rfl
        match p, hp with
        | 0, hp =>
          simp at hp; subst hp
          rw [a0, IntWalk.wrap64_in _ (by omega)]; exact hb
        | p + 1, hp => simp at hp
      · have h0 : kids x = [] := by unfold kids; rw [if_neg k2, if_neg k1]
        rw [h0] at hp
        simp at hp
/-- A tree's row is sound, if its nodes are fine. -/
theorem sound_flat {t : Tree} (hok : Ok t) (hf : ∀ x ∈ flat 0 t, Fine x) : SoundL (flat 0 t) := by
  have hp := size_pos t
  refine ⟨by rw [flat_len]; omega, fun i x hi hx => ⟨hf x (List.mem_of_getElem? hx), fun k hk => ?_⟩, fun m hm => ?_⟩
  · have := kids_in t 0 (At.whole t) hok i x (Nat.zero_le _) (by rw [flat_len] at hi; omega) hx k hk
    omega
  · rw [flat_len] at hm
    rw [uses_flat t 0 (m : Int) hok, if_pos (by omega)]
theorem beh_flat {t : Tree} (hok : Ok t) (hnb : size t ≤ 20000) (hs : SoundL (flat 0 t)) : BehL (flat 0 t) := by
  refine (beh_all (by rw [flat_len]; exact hnb) hs.2.1).2 fun i x hx => ?_
  have hi := (List.getElem?_eq_some_iff.1 hx).1
  rw [flat_len] at hi
  exact ((at_beh t 0 (At.whole t) hok).2 i x (Nat.zero_le _) (by omega) hx).1
/-- A row is a good tree just if it is a tree's, its nodes are fine and its groups numbered. -/
theorem good_iff {L : List Nd} {t : Tree} (hok : Ok t) (hL : L = flat 0 t) (hs : SoundL L) (hb : BehL L) : GoodL L ↔ NumAt L ((ord 0 t).filter (isCap L)) ((ord 0 t).filter (isCap L)).length := by
  rw [← numOk_at]
  constructor
  · intro h; exact h.2.2 t hok hL
  · intro h
    exact ⟨hs, hb, fun u hu he => by rw [ord_same hu hok (by rw [← he, ← hL])]; exact h⟩
/-- The order in which a good row's groups begin. -/
theorem groups_of {L : List Nd} {t : Tree} (hok : Ok t) (hL : L = flat 0 t) : ((ord 0 t).filter (isCap L)).Perm (idx 8 L L.length) ∧ ((ord 0 t).filter (isCap L)).Pairwise fun a b => fst L a < fst L b ∨ (fst L a = fst L b ∧ b < a) := by
  subst hL
  refine ⟨?_, (ord_sorted t 0 (At.whole t) hok).filter _⟩
  rw [idx_filter, flat_len]
  exact (ord_perm t 0).filter _
/-- Where each node's tree begins, in a row. -/
def fsts (L : List Nd) (n : Nat) : List Int := (List.range n).map fun i : Nat => fst L (i : Int)
theorem fsts_len (L : List Nd) (n : Nat) : (fsts L n).length = n := by simp [fsts]
theorem fsts_get (L : List Nd) {n i : Nat} (h : i < n) : (fsts L n)[i]? = some (fst L (i : Int)) := by unfold fsts; rw [List.getElem?_map, List.getElem?_range h]; rfl
end Go.Proofs.Ytceeimolfalmpaa
