/-
  And, Not, Fold and how many symbols, of plain lists of ranges. No program.
-/
import Derived.Test.YtfjcljhodnkieaaPlain
namespace ObSets

/-- What two normal lists have in common, as it comes. -/
def andW : List R → List R → List R
  | [], _ => []
  | _ :: _, [] => []
  | r :: a, q :: b =>
    (if max r.1 q.1 ≤ min r.2 q.2 then [(max r.1 q.1, min r.2 q.2)] else []) ++
      (if r.2 < q.2 then andW a (q :: b) else andW (r :: a) b)
  termination_by a b => a.length + b.length
theorem andW_nil_left (b : List R) : andW [] b = [] := by unfold andW; rfl
theorem andW_nil_right (a : List R) : andW a [] = [] := by cases a <;> (unfold andW; rfl)
theorem andW_cons (r q : R) (a b : List R) : andW (r :: a) (q :: b) = (if max r.1 q.1 ≤ min r.2 q.2 then [(max r.1 q.1, min r.2 q.2)] else []) ++ (if r.2 < q.2 then andW a (q :: b) else andW (r :: a) b) := by
  rw [andW]
theorem andW_mem : ∀ (n : Nat) (a b : List R), a.length + b.length = n → ∀ p ∈ andW a b, ∃ r ∈ a, ∃ q ∈ b, p = (max r.1 q.1, min r.2 q.2) ∧ p.1 ≤ p.2
  | 0, a, b, hn, p, hp => by
    obtain rfl : a = [] := List.eq_nil_of_length_eq_zero (by omega)
    rw [andW_nil_left] at hp; simp at hp
  | n + 1, [], b, hn, p, hp => by rw [andW_nil_left] at hp; simp at hp
  | n + 1, r :: a, [], hn, p, hp => by rw [andW_nil_right] at hp; simp at hp
  | n + 1, r :: a, q :: b, hn, p, hp => by
    rw [andW_cons] at hp
    rcases List.mem_append.1 hp with hp | hp
    · split at hp
      · rename_i h
        rw [List.mem_singleton.1 hp]
        exact ⟨r, List.mem_cons_self .., q, List.mem_cons_self .., rfl, h⟩
      · simp at hp
    · split at hp
      · obtain ⟨r', hr, q', hq, e⟩ := andW_mem n a (q :: b) (by simp at hn ⊢; omega) p hp
        exact ⟨r', List.mem_cons_of_mem _ hr, q', hq, e⟩
      · obtain ⟨r', hr, q', hq, e⟩ := andW_mem n (r :: a) b (by simp at hn ⊢; omega) p hp
        exact ⟨r', hr, q', List.mem_cons_of_mem _ hq, e⟩
theorem sym_max {x y : Int} (hx : sym x = true) (hy : sym y = true) : sym (max x y) = true := by
  rcases Int.le_total x y with h | h
  · rw [Int.max_eq_right h]; exact hy
  · rw [Int.max_eq_left h]; exact hx
theorem sym_min {x y : Int} (hx : sym x = true) (hy : sym y = true) : sym (min x y) = true := by
  rcases Int.le_total x y with h | h
  · rw [Int.min_eq_left h]; exact hx
  · rw [Int.min_eq_right h]; exact hy
theorem andW_len : ∀ (n : Nat) (a b : List R), a.length + b.length = n → (andW a b).length ≤ n
  | 0, a, b, hn => by
    obtain rfl : a = [] := List.eq_nil_of_length_eq_zero (by omega)
    rw [andW_nil_left]; simp
  | n + 1, [], b, hn => by rw [andW_nil_left]; simp
  | n + 1, r :: a, [], hn => by rw [andW_nil_right]; simp
  | n + 1, r :: a, q :: b, hn => by
    rw [andW_cons, List.length_append]
    have h1 := andW_len n a (q :: b) (by simp at hn ⊢; omega)
    have h2 := andW_len n (r :: a) b (by simp at hn ⊢; omega)
    split <;> split <;> simp <;> omega
theorem andW_ok : ∀ (n : Nat) (a b : List R), a.length + b.length = n → Nrm a → Nrm b → Nrm (andW a b) ∧ ∀ x, has (andW a b) x = true ↔ (has a x = true ∧ has b x = true)
  | 0, a, b, hn, _, _ => by
    obtain rfl : a = [] := List.eq_nil_of_length_eq_zero (by omega)
    rw [andW_nil_left]; exact ⟨Nrm.nil, fun x => by simp [has_nil]⟩
  | n + 1, [], b, hn, _, _ => by rw [andW_nil_left]; exact ⟨Nrm.nil, fun x => by simp [has_nil]⟩
  | n + 1, r :: a, [], hn, _, _ => by rw [andW_nil_right]; exact ⟨Nrm.nil, fun x => by simp [has_nil]⟩
  | n + 1, r :: a, q :: b, hn, ha, hb => by
    have hr := ha.head; have hq := hb.head
    by_cases hlt : r.2 < q.2
    · obtain ⟨h1, h2⟩ := andW_ok n a (q :: b) (by simp at hn ⊢; omega) ha.tail hb
      have key : ∀ x, has (andW a (q :: b)) x = true ∨ (sym x = true ∧ max r.1 q.1 ≤ x ∧ x ≤ min r.2 q.2) ↔ (has (r :: a) x = true ∧ has (q :: b) x = true) := by
        intro x
        rw [h2, tail_has ha]
        constructor
        · rintro (⟨⟨g1, _⟩, g2⟩ | ⟨hs, g1, g2⟩)
          · exact ⟨g1, g2⟩
          · exact ⟨has_iff.2 ⟨hs, r, List.mem_cons_self .., by omega, by omega⟩, has_iff.2 ⟨hs, q, List.mem_cons_self .., by omega, by omega⟩⟩
        · rintro ⟨g1, g2⟩
          by_cases hx : r.2 < x
          · exact Or.inl ⟨⟨g1, hx⟩, g2⟩
          · right
            have hs := has_sym g1
            have l1 := head_least ha g1
            have l2 := head_least hb g2
            exact ⟨hs, by omega, by omega⟩
      by_cases hin : max r.1 q.1 ≤ min r.2 q.2
      · rw [andW_cons, if_pos hin, if_pos hlt]
        refine ⟨Nrm.cons ⟨sym_max hr.1 hq.1, sym_min hr.2.1 hq.2.1, hin⟩ (fun p hp => ?_) h1, fun x => ?_⟩
        · obtain ⟨r', hr', q', hq', e, _⟩ := andW_mem _ _ _ rfl p hp
          have := ha.rel r' hr'
          rw [e, show min r.2 q.2 = r.2 by omega]
          exact ⟨this.1, by show nx r.2 < max r'.1 q'.1; omega⟩
        · rw [List.singleton_append, has_cons, Bool.or_eq_true, ← key, has_iff (l := [_])]
          simp only [List.mem_singleton, exists_eq_left]
          exact Or.comm
      · rw [andW_cons, if_neg hin, if_pos hlt, List.nil_append]
        refine ⟨h1, fun x => ?_⟩
        rw [← key]
        constructor
        · exact Or.inl
        · rintro (g | ⟨_, g1, g2⟩)
          · exact g
          · omega
    · obtain ⟨h1, h2⟩ := andW_ok n (r :: a) b (by simp at hn ⊢; omega) ha hb.tail
      have key : ∀ x, has (andW (r :: a) b) x = true ∨ (sym x = true ∧ max r.1 q.1 ≤ x ∧ x ≤ min r.2 q.2) ↔ (has (r :: a) x = true ∧ has (q :: b) x = true) := by
        intro x
        rw [h2, tail_has hb]
        constructor
        · rintro (⟨g1, g2, _⟩ | ⟨hs, g1, g2⟩)
          · exact ⟨g1, g2⟩
          · exact ⟨has_iff.2 ⟨hs, r, List.mem_cons_self .., by omega, by omega⟩, has_iff.2 ⟨hs, q, List.mem_cons_self .., by omega, by omega⟩⟩
        · rintro ⟨g1, g2⟩
          by_cases hx : q.2 < x
          · exact Or.inl ⟨g1, g2, hx⟩
          · right
            have hs := has_sym g1
            have l1 := head_least ha g1
            have l2 := head_least hb g2
            exact ⟨hs, by omega, by omega⟩
      by_cases hin : max r.1 q.1 ≤ min r.2 q.2
      · rw [andW_cons, if_pos hin, if_neg hlt]
        refine ⟨Nrm.cons ⟨sym_max hr.1 hq.1, sym_min hr.2.1 hq.2.1, hin⟩ (fun p hp => ?_) h1, fun x => ?_⟩
        · obtain ⟨r', hr', q', hq', e, _⟩ := andW_mem _ _ _ rfl p hp
          have := hb.rel q' hq'
          rw [e, show min r.2 q.2 = q.2 by omega]
          exact ⟨this.1, by show nx q.2 < max r'.1 q'.1; omega⟩
        · rw [List.singleton_append, has_cons, Bool.or_eq_true, ← key, has_iff (l := [_])]
          simp only [List.mem_singleton, exists_eq_left]
          exact Or.comm
      · rw [andW_cons, if_neg hin, if_neg hlt, List.nil_append]
        refine ⟨h1, fun x => ?_⟩
        rw [← key]
        constructor
        · exact Or.inl
        · rintro (g | ⟨_, g1, g2⟩)
          · exact g
          · omega

/-- What both have. -/
def andL (a b : List R) : List R := andW (nrm a) (nrm b)
theorem andL_ok (a b : List R) : Nrm (andL a b) ∧ ∀ x, has (andL a b) x = (has a x && has b x) := by
  obtain ⟨h1, h2⟩ := andW_ok _ (nrm a) (nrm b) rfl (nrm_ok a).1 (nrm_ok b).1
  refine ⟨h1, fun x => ?_⟩
  rw [Bool.eq_iff_iff, Bool.and_eq_true, andL, h2, (nrm_ok a).2, (nrm_ok b).2]
theorem andL_len (a b : List R) : (andL a b).length ≤ a.length + b.length := by
  have := andW_len _ (nrm a) (nrm b) rfl
  have h1 := nrm_len a
  have h2 := nrm_len b
  unfold andL; omega

/-- What a normal list has not, from a symbol on. -/
def notF (lo : Int) : List R → List R
  | [] => if 0 ≤ lo then [(lo, 1114367)] else []
  | r :: m => (if lo < r.1 then [(lo, pv r.1)] else []) ++ notF (nx r.2) m
theorem notF_len : ∀ (m : List R) (lo : Int), (notF lo m).length ≤ m.length + 1
  | [], lo => by unfold notF; split <;> simp
  | r :: m, lo => by
    have := notF_len m (nx r.2)
    unfold notF; rw [List.length_append]; split <;> simp <;> omega
theorem notF_ok : ∀ (m : List R) (lo : Int), Nrm m → (lo = -1 ∧ m = [] ∨ sym lo = true ∧ ∀ r ∈ m, lo ≤ r.1) →
    Nrm (notF lo m) ∧ (∀ p ∈ notF lo m, lo ≤ p.1) ∧ ∀ x, has (notF lo m) x = true ↔ (sym x = true ∧ 0 ≤ lo ∧ lo ≤ x ∧ has m x = false)
  | [], lo, _, h => by
    rcases h with ⟨rfl, _⟩ | ⟨hs, _⟩
    · unfold notF; rw [if_neg (by omega)]
      exact ⟨Nrm.nil, by simp, fun x => by simp [has_nil]⟩
    · have h0 := sym_pos hs
      unfold notF; rw [if_pos h0.1]
      refine ⟨Nrm.cons ⟨hs, show sym 1114367 = true from by decide, h0.2⟩ (by simp) Nrm.nil, by simp, fun x => ?_⟩
      rw [has_iff]
      simp only [List.mem_singleton, exists_eq_left, has_nil, and_true]
      constructor
      · rintro ⟨g1, g2, g3⟩; exact ⟨g1, h0.1, g2⟩
      · rintro ⟨g1, g2, g3⟩; exact ⟨g1, g3, (sym_pos g1).2⟩
  | r :: m, lo, hm, h => by
    rcases h with ⟨_, h⟩ | ⟨hs, h⟩
    · cases h
    have h0 := sym_pos hs
    have hr := hm.head
    have hlo : lo ≤ r.1 := h r (List.mem_cons_self ..)
    have hcase : nx r.2 = -1 ∧ m = [] ∨ sym (nx r.2) = true ∧ ∀ q ∈ m, nx r.2 ≤ q.1 := by
      by_cases hn : nx r.2 = -1
      · left; refine ⟨hn, ?_⟩
        cases m with
        | nil => rfl
        | cons q m => exact absurd hn (hm.rel q (List.mem_cons_self ..)).1
      · right; exact ⟨nx_sym hn, fun q hq => by have := hm.rel q hq; omega⟩
    obtain ⟨h1, h2, h3⟩ := notF_ok m (nx r.2) hm.tail hcase
    have hge : ∀ p ∈ notF (nx r.2) m, nx r.2 ≠ -1 ∧ nx r.2 ≤ p.1 := by
      intro p hp
      refine ⟨fun e => ?_, h2 p hp⟩
      rcases hcase with ⟨_, rfl⟩ | ⟨hs2, _⟩
      · rw [e] at hp; unfold notF at hp; rw [if_neg (by omega)] at hp; simp at hp
      · rw [e] at hs2; have := sym_pos hs2; omega
    have later : ∀ x, has (notF (nx r.2) m) x = true ↔ (sym x = true ∧ r.2 < x ∧ has m x = false) := by
      intro x
      rw [h3]
      constructor
      · rintro ⟨g1, g2, g3, g4⟩
        have := nx_gt (x := r.2) (by omega)
        exact ⟨g1, by omega, g4⟩
      · rintro ⟨g1, g2, g3⟩
        have n1 := nx_some g1 g2
        have n2 := nx_least g1 g2
        have := sym_pos (nx_sym n1)
        exact ⟨g1, this.1, n2, g3⟩
    have hmem : ∀ x, sym x = true → (has (r :: m) x = false ↔ (x < r.1 ∨ (r.2 < x ∧ has m x = false))) := by
      intro x hx
      constructor
      · intro g
        rw [has_cons, Bool.or_eq_false_iff] at g
        rcases (show x < r.1 ∨ (r.1 ≤ x ∧ x ≤ r.2) ∨ r.2 < x by omega) with g1 | g1 | g1
        · exact Or.inl g1
        · have := has_iff.2 ⟨hx, r, List.mem_singleton.2 rfl, g1⟩
          rw [g.1] at this; cases this
        · exact Or.inr ⟨g1, g.2⟩
      · intro g
        rw [Bool.eq_false_iff]; intro g2
        rcases g with g | ⟨g, g3⟩
        · have := head_least hm g2; omega
        · have := (tail_has hm x).2 ⟨g2, g⟩
          rw [g3] at this; cases this
    by_cases hlt : lo < r.1
    · have hp0 : pv r.1 ≠ -1 := by rw [Ne, pv_bot]; omega
      have hps := pv_sym hp0
      have hplt := pv_lt hp0
      have hpge := pv_most hs hlt
      unfold notF; rw [if_pos hlt]
      refine ⟨Nrm.cons ⟨hs, hps, hpge⟩ (fun p hp => ?_) h1, ?_, fun x => ?_⟩
      · have g := hge p hp
        have hg := nx_gt g.1
        have hv := hr.2.2
        show nx (pv r.1) ≠ -1 ∧ nx (pv r.1) < p.1
        rw [nx_pv hr.1 (by omega)]
        exact ⟨by omega, by omega⟩
      · intro p hp
        rcases List.mem_append.1 hp with hp | hp
        · rw [List.mem_singleton.1 hp]; exact Int.le_refl _
        · have g := hge p hp; have hg := nx_gt g.1; have := hr.2.2; omega
      · rw [List.singleton_append, has_cons, Bool.or_eq_true, later, has_iff]
        simp only [List.mem_singleton, exists_eq_left]
        constructor
        · rintro (⟨g1, g2, g3⟩ | ⟨g1, g2, g3⟩)
          · exact ⟨g1, h0.1, g2, (hmem x g1).2 (Or.inl (by omega))⟩
          · have := hr.2.2
            exact ⟨g1, h0.1, by omega, (hmem x g1).2 (Or.inr ⟨g2, g3⟩)⟩
        · rintro ⟨g1, _, g3, g4⟩
          rcases (hmem x g1).1 g4 with g | g
          · exact Or.inl ⟨g1, g3, pv_most g1 g⟩
          · exact Or.inr ⟨g1, g⟩
    · unfold notF; rw [if_neg hlt, List.nil_append]
      refine ⟨h1, fun p hp => ?_, fun x => ?_⟩
      · have g := hge p hp; have hg := nx_gt g.1; have := hr.2.2; omega
      · rw [later]
        constructor
        · rintro ⟨g1, g2, g3⟩
          have := hr.2.2
          exact ⟨g1, h0.1, by omega, (hmem x g1).2 (Or.inr ⟨g2, g3⟩)⟩
        · rintro ⟨g1, _, g3, g4⟩
          rcases (hmem x g1).1 g4 with g | g
          · omega
          · exact ⟨g1, g⟩
/-- What a list has not. -/
def notL (l : List R) : List R := notF 0 (nrm l)
theorem notL_ok (l : List R) : Nrm (notL l) ∧ ∀ x, has (notL l) x = (sym x && !has l x) := by
  obtain ⟨h1, _, h3⟩ := notF_ok (nrm l) 0 (nrm_ok l).1 (Or.inr ⟨by decide, fun r hr => (sym_pos ((nrm_ok l).1.1 r hr).1).1⟩)
  refine ⟨h1, fun x => ?_⟩
  rw [Bool.eq_iff_iff, notL, h3, (nrm_ok l).2]
  simp only [Bool.and_eq_true, Bool.not_eq_true']
  constructor
  · rintro ⟨g1, _, _, g4⟩; exact ⟨g1, g4⟩
  · rintro ⟨g1, g2⟩; exact ⟨g1, by omega, (sym_pos g1).1, g2⟩
theorem notL_len (l : List R) : (notL l).length ≤ l.length + 1 := by
  have := notF_len (nrm l) 0
  have h1 := nrm_len l
  unfold notL; omega
end ObSets
