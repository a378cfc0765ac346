/-
  A row that is sound, each node right behind all that hangs on it: a tree's row. Condition: at most 20000 nodes.
-/
import Derived.Test.YtceeimolfalmpaaTQ
namespace Go.Proofs.Ytceeimolfalmpaa
open Go.RowKit ObSets ObTree ObTree.Tree

theorem szs_get (L : List Nd) {i : Nat} : ∀ {n : Nat}, i < n → (szs L n)[i]? = some (fold1 (szs L i) (kidsAt L i))
  | 0, h => absurd h (Nat.not_lt_zero _)
  | n + 1, h => by
    by_cases hi : i < n
    · rw [szs, List.getElem?_append_left (by rw [szs_len]; exact hi), szs_get L hi]
    · obtain rfl : i = n := by omega
      rw [szs, List.getElem?_append_right (by rw [szs_len]; exact Nat.le_refl _), szs_len, Nat.sub_self]; rfl
/-- What the page reckons of a node is what it is, as far as the nodes ahead stand right. -/
theorem szs_sz {L : List Nd} {n : Nat} (hn : L.length = n) (hnb : n ≤ 20000) (hs : SoundTo L n) (hb : BehTo L n n) :
    ∀ (b i : Nat), i < b → i < n → ∀ x, L[i]? = some x → (szs L n)[i]? = some (sz L i) ∧ beh L i x
  | 0, i, h, _ => absurd h (Nat.not_lt_zero _)
  | b + 1, i, hib, hin => by
    intro x hx
    have ih := szs_sz hn hnb hs hb b
    obtain ⟨_, hk⟩ := hs i x hin hx
    have hB := hb i x hin hx
    have bd : ∀ j : Nat, j < i → 1 ≤ sz L j ∧ sz L j ≤ (j : Int) + 1 ∧ (szs L n)[j]?.getD 0 = sz L j ∧ (szs L i)[j]?.getD 0 = sz L j := fun j hj => by
      obtain ⟨y, hy⟩ : ∃ y, L[j]? = some y := ⟨_, List.getElem?_eq_getElem (by omega)⟩
      obtain ⟨t, _, t2, t3, _⟩ := build (L := L) (j + 1) j (Nat.lt_succ_self _) (by omega) (fun m z hm hz => ⟨(hs m z (by omega) hz).2, (ih m (by omega) (by omega) z hz).2⟩)
      have h1 := (ih j (by omega) (by omega) y hy).1
      have h2 := szs_get L (show j < i from hj)
      rw [← szs_get L (show j < n by omega), h1] at h2
      have := size_pos t
      refine ⟨by omega, by omega, by rw [h1]; rfl, by rw [h2]; rfl⟩
    rw [szs_get L hin, kidsAt_some hx]
    by_cases k2 : x.kind = 5 ∨ x.kind = 6
    · rw [kids_two k2] at hk hB ⊢
      have ka := hk x.a (by simp)
      have kb := hk x.b (by simp)
      have e0 := hB 0 x.b rfl
      have e1 := hB 1 x.a rfl
      have a0 : atAt (szs L n) [x.a, x.b] (i : Int) 0 = (i : Int) := rfl
      have a1 : atAt (szs L n) [x.a, x.b] (i : Int) 1 = wrap64 ((i : Int) - (szs L n)[x.b.toNat]?.getD 0) := rfl
      obtain ⟨pa1, pa2, pa3, pa4⟩ := bd x.a.toNat (by omega)
      obtain ⟨pb1, pb2, pb3, pb4⟩ := bd x.b.toNat (by omega)
      rw [a0, IntWalk.wrap64_in _ (by omega)] at e0
      rw [a1, pb3, IntWalk.wrap64_in ((i : Int) - _) (by omega), IntWalk.wrap64_in _ (by omega)] at e1
      constructor
      · have ef : fold1 (szs L i) [x.a, x.b] = wrap64 (wrap64 (1 + (szs L i)[x.a.toNat]?.getD 0) + (szs L i)[x.b.toNat]?.getD 0) := rfl
        rw [ef, pa4, pb4, IntWalk.wrap64_in (1 + _) (by omega), IntWalk.wrap64_in _ (by omega), sz_two hx k2 ka kb]
      · unfold beh; rw [if_pos k2]; exact ⟨e0, e1⟩
    · by_cases k1 : x.kind = 7 ∨ x.kind = 8 ∨ x.kind = 9
      · rw [kids_one k1] at hk hB ⊢
        have ka := hk x.a (by simp)
        have e0 := hB 0 x.a rfl
        have a0 : atAt (szs L n) [x.a] (i : Int) 0 = (i : Int) := rfl
        obtain ⟨pa1, pa2, pa3, pa4⟩ := bd x.a.toNat (by omega)
        rw [a0, IntWalk.wrap64_in _ (by omega)] at e0
        constructor
        · have ef : fold1 (szs L i) [x.a] = wrap64 (1 + (szs L i)[x.a.toNat]?.getD 0) := rfl
          rw [ef, pa4, IntWalk.wrap64_in _ (by omega), sz_one hx k1 ka]
        · unfold beh; rw [if_neg k2, if_pos k1]; exact e0
      · have h0 : kids x = [] := by unfold kids; rw [if_neg k2, if_neg k1]
        rw [h0]
        constructor
        · rw [sz_leaf hx h0]; rfl
        · unfold beh; rw [if_neg k2, if_neg k1]; trivial
theorem flat_of {L : List Nd} (hnb : L.length ≤ 20000) (hs : SoundL L) (hb : BehL L) : ∃ t, Ok t ∧ L = flat 0 t := by
  refine is_flat hs.1 (fun j x hx => ?_) hs.2.2
  have hj := (List.getElem?_eq_some_iff.1 hx).1
  exact ⟨(hs.2.1 j x hj hx).2, (szs_sz rfl hnb hs.2.1 hb (j + 1) j (Nat.lt_succ_self _) hj x hx).2⟩
end Go.Proofs.Ytceeimolfalmpaa
