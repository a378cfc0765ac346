/-
  Folded lists and how many symbols a list has, of plain lists of ranges. No program.
-/
import Derived.Test.YtfjcljhodnkieaaPlain2
namespace ObSets

def mv (d : Int) (r : R) : R := (r.1 + d, r.2 + d)
/-- What one of both has. -/
def orL (a b : List R) : List R := nrm (a ++ b)
theorem orL_ok (a b : List R) : Nrm (orL a b) ∧ ∀ x, has (orL a b) x = (has a x || has b x) := ⟨(nrm_ok _).1, fun x => by rw [orL, (nrm_ok _).2, has_append]⟩
theorem orL_len (a b : List R) : (orL a b).length ≤ a.length + b.length := by have := nrm_len (a ++ b); simpa [orL] using this
/-- Folded: a letter of either case with that of the other. -/
def fd (l : List R) (x : Int) : Bool := has l x || (decide (65 ≤ x ∧ x ≤ 90) && has l (x + 32)) || (decide (97 ≤ x ∧ x ≤ 122) && has l (x - 32))
theorem sym_small {x : Int} (h0 : 0 ≤ x) (h : x ≤ 1000) : sym x = true := by rw [sym_iff]; omega
theorem within {n : List R} {lo hi : Int} {r : R} (hr : r ∈ andL n [(lo, hi)]) : V r ∧ lo ≤ r.1 ∧ r.2 ≤ hi ∧ ∀ x, sym x = true → r.1 ≤ x → x ≤ r.2 → has n x = true := by
  obtain ⟨h1, h2⟩ := andL_ok n [(lo, hi)]
  have hv := h1.1 r hr
  have g : ∀ x, sym x = true → r.1 ≤ x → x ≤ r.2 → has n x = true ∧ lo ≤ x ∧ x ≤ hi := by
    intro x hs a b
    have := h2 x
    rw [has_iff.2 ⟨hs, r, hr, a, b⟩] at this
    have := Bool.and_eq_true_iff.1 this.symm
    obtain ⟨_, q, hq, e⟩ := has_iff.1 this.2
    rw [List.mem_singleton.1 hq] at e
    exact ⟨this.1, e.1, e.2⟩
  exact ⟨hv, (g r.1 hv.1 (Int.le_refl _) hv.2.2).2.1, (g r.2 hv.2.1 hv.2.2 (Int.le_refl _)).2.2, fun x a b c => (g x a b c).1⟩
theorem has_moved {n : List R} {lo hi d : Int} (h0 : 0 ≤ lo) (h1 : 0 ≤ lo + d) (h2 : hi ≤ 500) (h3 : hi + d ≤ 500) (x : Int) :
    has ((andL n [(lo, hi)]).map (mv d)) x = true ↔ (lo + d ≤ x ∧ x ≤ hi + d ∧ has n (x - d) = true) := by
  rw [has_iff]
  constructor
  · rintro ⟨hs, q, hq, g1, g2⟩
    obtain ⟨r, hr, rfl⟩ := List.mem_map.1 hq
    obtain ⟨hv, a, b, c⟩ := within hr
    simp only [mv] at g1 g2
    exact ⟨by omega, by omega, c (x - d) (sym_small (by omega) (by omega)) (by omega) (by omega)⟩
  · rintro ⟨g1, g2, g3⟩
    have hh : has (andL n [(lo, hi)]) (x - d) = true := by
      rw [(andL_ok n _).2, g3, Bool.true_and]
      exact has_iff.2 ⟨has_sym g3, (lo, hi), List.mem_singleton.2 rfl, by show lo ≤ x - d; omega, by show x - d ≤ hi; omega⟩
    obtain ⟨_, r, hr, a, b⟩ := has_iff.1 hh
    exact ⟨sym_small (by omega) (by omega), mv d r, List.mem_map.2 ⟨r, hr, rfl⟩, by simp only [mv]; omega, by simp only [mv]; omega⟩
def foldL (l : List R) : List R := nrm (nrm l ++ ((andL (nrm l) [(97, 122)]).map (mv (-32)) ++ (andL (nrm l) [(65, 90)]).map (mv 32)))
theorem foldL_ok (l : List R) : Nrm (foldL l) ∧ ∀ x, has (foldL l) x = fd l x := by
  refine ⟨(nrm_ok _).1, fun x => ?_⟩
  rw [foldL, (nrm_ok _).2, has_append, has_append, (nrm_ok l).2, fd, Bool.eq_iff_iff]
  simp only [Bool.or_eq_true, Bool.and_eq_true, decide_eq_true_eq]
  rw [has_moved (by omega) (by omega) (by omega) (by omega), has_moved (by omega) (by omega) (by omega) (by omega), (nrm_ok l).2, (nrm_ok l).2]
  rw [show x - -32 = x + 32 by omega]
  constructor
  · rintro (h | ⟨h1, h2, h3⟩ | ⟨h1, h2, h3⟩)
    · exact Or.inl (Or.inl h)
    · exact Or.inl (Or.inr ⟨⟨by omega, by omega⟩, h3⟩)
    · exact Or.inr ⟨⟨by omega, by omega⟩, h3⟩
  · rintro ((h | ⟨⟨h1, h2⟩, h3⟩) | ⟨⟨h1, h2⟩, h3⟩)
    · exact Or.inl h
    · exact Or.inr (Or.inl ⟨by omega, by omega, h3⟩)
    · exact Or.inr (Or.inr ⟨by omega, by omega, h3⟩)
theorem foldL_len (l : List R) : (foldL l).length ≤ l.length * 3 + 2 := by
  have h1 := nrm_len (nrm l ++ ((andL (nrm l) [(97, 122)]).map (mv (-32)) ++ (andL (nrm l) [(65, 90)]).map (mv 32)))
  have h2 := nrm_len l
  have h3 := andL_len (nrm l) [(97, 122)]
  have h4 := andL_len (nrm l) [(65, 90)]
  simp only [List.length_append, List.length_map, List.length_cons, List.length_nil] at h1 h3 h4
  unfold foldL; omega

/-- The letters of the other case, one by one. -/
def lets (l : List R) : Nat → List R
  | 0 => []
  | k + 1 => lets l k ++ (if has l (97 + k) = true then [((97 + k : Int) - 32, (97 + k : Int) - 32)] else []) ++ (if has l ((97 + k : Int) - 32) = true then [((97 + k : Int), (97 + k : Int))] else [])
theorem lets_len (l : List R) : ∀ k, (lets l k).length ≤ 2 * k
  | 0 => Nat.le_refl _
  | k + 1 => by
    have := lets_len l k
    unfold lets; simp only [List.length_append]
    split <;> split <;> simp <;> omega
theorem has_dot (y x : Int) (hy : sym y = true) : has [(y, y)] x = decide (x = y) := by
  rw [Bool.eq_iff_iff, has_iff]
  simp only [List.mem_singleton, exists_eq_left, decide_eq_true_eq]
  constructor
  · rintro ⟨_, h1, h2⟩; omega
  · rintro rfl; exact ⟨hy, Int.le_refl _, Int.le_refl _⟩
theorem lets_has (l : List R) (x : Int) : ∀ k : Nat, k ≤ 26 → (has (lets l k) x = true ↔ ((65 ≤ x ∧ x < 65 + k ∧ has l (x + 32) = true) ∨ (97 ≤ x ∧ x < 97 + k ∧ has l (x - 32) = true)))
  | 0, _ => by simp only [lets, has_nil]; simp; omega
  | k + 1, hk => by
    have ih := lets_has l x k (by omega)
    have e1 : has (if has l (97 + k) = true then [((97 + k : Int) - 32, (97 + k : Int) - 32)] else []) x = true ↔ (x = 65 + k ∧ has l (x + 32) = true) := by
      split
      · rename_i h
        rw [has_dot _ _ (sym_small (by omega) (by omega)), decide_eq_true_eq]
        constructor
        · intro g; exact ⟨by omega, by rw [g, show (97 + (k : Int)) - 32 + 32 = 97 + k by omega]; exact h⟩
        · rintro ⟨g, _⟩; omega
      · rename_i h
        rw [has_nil]
        constructor
        · intro g; cases g
        · rintro ⟨g1, g2⟩; rw [g1, show (65 + (k : Int)) + 32 = 97 + k by omega] at g2; exact absurd g2 h
    have e2 : has (if has l ((97 + k : Int) - 32) = true then [((97 + k : Int), (97 + k : Int))] else []) x = true ↔ (x = 97 + k ∧ has l (x - 32) = true) := by
      split
      · rename_i h
        rw [has_dot _ _ (sym_small (by omega) (by omega)), decide_eq_true_eq]
        constructor
        · intro g; exact ⟨g, by rw [g]; exact h⟩
        · rintro ⟨g, _⟩; exact g
      · rename_i h
        rw [has_nil]
        constructor
        · intro g; cases g
        · rintro ⟨g1, g2⟩; rw [g1] at g2; exact absurd g2 h
    unfold lets
    rw [has_append, has_append, Bool.or_eq_true, Bool.or_eq_true, ih, e1, e2]
    constructor
    · rintro ((h | h) | h)
      · rcases h with ⟨h1, h2, h3⟩ | ⟨h1, h2, h3⟩
        · exact Or.inl ⟨h1, by omega, h3⟩
        · exact Or.inr ⟨h1, by omega, h3⟩
      · exact Or.inl ⟨by omega, by omega, h.2⟩
      · exact Or.inr ⟨by omega, by omega, h.2⟩
    · rintro (⟨h1, h2, h3⟩ | ⟨h1, h2, h3⟩)
      · by_cases g : x = 65 + k
        · exact Or.inl (Or.inr ⟨g, h3⟩)
        · exact Or.inl (Or.inl (Or.inl ⟨h1, by omega, h3⟩))
      · by_cases g : x = 97 + k
        · exact Or.inr ⟨g, h3⟩
        · exact Or.inl (Or.inl (Or.inr ⟨h1, by omega, h3⟩))
theorem fold_same (l : List R) : nrm (l ++ lets l 26) = foldL l := by
  rw [← nrm_self (foldL_ok l).1]
  refine nrm_congr fun x => ?_
  rw [(foldL_ok l).2, has_append, fd, Bool.eq_iff_iff]
  simp only [Bool.or_eq_true, Bool.and_eq_true, decide_eq_true_eq]
  rw [lets_has l x 26 (Nat.le_refl _)]
  constructor
  · rintro (h | ⟨h1, h2, h3⟩ | ⟨h1, h2, h3⟩)
    · exact Or.inl (Or.inl h)
    · exact Or.inl (Or.inr ⟨⟨by omega, by omega⟩, h3⟩)
    · exact Or.inr ⟨⟨by omega, by omega⟩, h3⟩
  · rintro ((h | ⟨⟨h1, h2⟩, h3⟩) | ⟨⟨h1, h2⟩, h3⟩)
    · exact Or.inl h
    · exact Or.inr (Or.inl ⟨by omega, by omega, h3⟩)
    · exact Or.inr (Or.inr ⟨by omega, by omega, h3⟩)
/-- Folded twice it is the same. -/
theorem fold_twice (l : List R) : foldL (foldL l) = foldL l := by
  refine once (foldL_ok _).1 (foldL_ok _).1 fun x => ?_
  rw [(foldL_ok _).2, (foldL_ok _).2]
  unfold fd
  rw [(foldL_ok _).2, (foldL_ok _).2, (foldL_ok _).2]
  unfold fd
  rw [show x + 32 - 32 = x by omega, show x - 32 + 32 = x by omega]
  by_cases h1 : 65 ≤ x ∧ x ≤ 90
  · have a1 : ¬ (97 ≤ x ∧ x ≤ 122) := by omega
    have a2 : ¬ (65 ≤ x + 32 ∧ x + 32 ≤ 90) := by omega
    have a3 : (97 ≤ x + 32 ∧ x + 32 ≤ 122) := by omega
    simp [h1, a1, a2, a3]
    cases has l x <;> cases has l (x + 32) <;> simp
  · by_cases h2 : 97 ≤ x ∧ x ≤ 122
    · have a2 : ¬ (97 ≤ x - 32 ∧ x - 32 ≤ 122) := by omega
      have a3 : (65 ≤ x - 32 ∧ x - 32 ≤ 90) := by omega
      simp [h1, h2, a2, a3]
      cases has l x <;> cases has l (x - 32) <;> simp
    · simp [h1, h2]

/-- How many symbols stand below a symbol; how many a normal list has. -/
def rk (x : Int) : Int := if x ≤ 55295 then x else if x ≤ 1114111 then x - 2048 else x - 2176
def cn : List R → Int
  | [] => 0
  | r :: m => (rk r.2 - rk r.1 + 1) + cn m
theorem cn_append : ∀ a b : List R, cn (a ++ b) = cn a + cn b
  | [], b => by simp [cn]
  | r :: a, b => by simp only [List.cons_append, cn, cn_append a b]; omega
theorem rk_bd {x : Int} (h : sym x = true) : 0 ≤ rk x ∧ rk x ≤ 1114367 := by
  rw [sym_iff] at h; unfold rk; (repeat' split) <;> omega
theorem rk_mono' {x y : Int} (hx : sym x = true) (hy : sym y = true) (h : x ≤ y) : rk x ≤ rk y := by
  have hx := sym_iff.1 hx
  have hy := sym_iff.1 hy
  unfold rk; (repeat' split) <;> omega
theorem cn_bd : ∀ {m : List R}, (∀ r ∈ m, V r) → 0 ≤ cn m ∧ cn m ≤ m.length * 2000000
  | [], _ => by simp [cn]
  | r :: m, h => by
    have ih := cn_bd (m := m) fun q hq => h q (List.mem_cons_of_mem _ hq)
    have hv := h r (List.mem_cons_self ..)
    have b1 := rk_bd hv.1; have b2 := rk_bd hv.2.1; have b3 := rk_mono' hv.1 hv.2.1 hv.2.2
    simp only [cn, List.length_cons]
    omega
/-- Counted one by one, below a number. -/
def bi : Bool → Int
  | true => 1
  | false => 0
def tot (p : Int → Bool) : Nat → Int
  | 0 => 0
  | n + 1 => tot p n + bi (p n)
theorem tot_congr {p q : Int → Bool} : ∀ n : Nat, (∀ x : Int, p x = q x) → tot p n = tot q n
  | 0, _ => rfl
  | n + 1, h => by simp only [tot]; rw [tot_congr n h, h]
theorem tot_add (p q : Int → Bool) : ∀ n : Nat, tot p n + tot q n = tot (fun x => p x || q x) n + tot (fun x => p x && q x) n
  | 0 => rfl
  | n + 1 => by
    have := tot_add p q n
    simp only [tot]
    cases p n <;> cases q n <;> simp [bi] <;> omega
theorem tot_none : ∀ n : Nat, tot (fun _ => false) n = 0
  | 0 => rfl
  | n + 1 => by simp [tot, tot_none n, bi]
/-- Symbols below a number. -/
def below (x : Int) : Int := if x ≤ 55296 then x else if x ≤ 57344 then 55296 else if x ≤ 1114112 then x - 2048 else if x ≤ 1114240 then 1112064 else if x ≤ 1114368 then x - 2176 else 1112192
theorem tot_sym : ∀ n : Nat, tot sym n = below n
  | 0 => rfl
  | n + 1 => by
    simp only [tot]
    rw [tot_sym n]
    cases h : sym (n : Int) with
    | true =>
      rw [sym_iff] at h
      rw [show bi true = 1 from rfl, show ((n + 1 : Nat) : Int) = (n : Int) + 1 from rfl]
      unfold below; (repeat' split) <;> omega
    | false =>
      have h : ¬ sym (n : Int) = true := by rw [h]; simp
      rw [sym_iff] at h
      rw [show bi false = 0 from rfl, show ((n + 1 : Nat) : Int) = (n : Int) + 1 from rfl]
      unfold below; (repeat' split) <;> omega
theorem tot_range (r : R) (h0 : 0 ≤ r.1) (h1 : r.1 ≤ r.2) : ∀ n : Nat, tot (fun x => sym x && inR r x) n = below (if (n : Int) ≤ r.1 then 0 else if (n : Int) ≤ r.2 then n else r.2 + 1) - below (if (n : Int) ≤ r.1 then 0 else r.1)
  | 0 => by simp [tot, h0]
  | n + 1 => by
    have ih := tot_range r h0 h1 n
    simp only [tot]
    rw [ih]
    have e : ∀ m : Nat, below (m : Int) + bi (sym (m : Int)) = below ((m : Int) + 1) := fun m => by
      have a := tot_sym m
      have b := tot_sym (m + 1)
      simp only [tot] at b
      rw [a] at b
      rw [b]; congr 1
    have en := e n
    rw [show ((n + 1 : Nat) : Int) = (n : Int) + 1 from rfl]
    generalize hb : bi (sym (n : Int)) = b at en
    rcases (show (n : Int) < r.1 ∨ (n : Int) = r.1 ∨ (r.1 < n ∧ (n : Int) ≤ r.2) ∨ r.2 < n by omega) with h | h | h | h
    · have hi : inR r n = false := by unfold inR; simp; omega
      have a1 : (n : Int) ≤ r.1 := by omega
      have a2 : (n : Int) + 1 ≤ r.1 := by omega
      rw [hi, Bool.and_false, show bi false = 0 from rfl, if_pos a1, if_pos a1, if_pos a2, if_pos a2]
      omega
    · have hi : inR r n = true := by unfold inR; simp; omega
      have a1 : (n : Int) ≤ r.1 := by omega
      have a2 : ¬ (n : Int) + 1 ≤ r.1 := by omega
      rw [hi, Bool.and_true, hb, if_pos a1, if_pos a1, if_neg a2, if_neg a2]
      by_cases a3 : (n : Int) + 1 ≤ r.2
      · rw [if_pos a3, ← en, ← h]; omega
      · rw [if_neg a3, show r.2 = n by omega, ← en, ← h]; omega
    · have hi : inR r n = true := by unfold inR; simp; omega
      have a1 : ¬ (n : Int) ≤ r.1 := by omega
      have a2 : ¬ (n : Int) + 1 ≤ r.1 := by omega
      rw [hi, Bool.and_true, hb, if_neg a1, if_neg a1, if_neg a2, if_neg a2, if_pos h.2]
      by_cases a3 : (n : Int) + 1 ≤ r.2
      · rw [if_pos a3, ← en]; omega
      · rw [if_neg a3, show r.2 = n by omega, ← en]; omega
    · have hi : inR r n = false := by unfold inR; simp; omega
      have a1 : ¬ (n : Int) ≤ r.1 := by omega
      have a2 : ¬ (n : Int) + 1 ≤ r.1 := by omega
      have a3 : ¬ (n : Int) ≤ r.2 := by omega
      have a4 : ¬ (n : Int) + 1 ≤ r.2 := by omega
      rw [hi, Bool.and_false, show bi false = 0 from rfl, if_neg a1, if_neg a1, if_neg a2, if_neg a2, if_neg a3, if_neg a4]
      omega
theorem rk_below {x : Int} (h : sym x = true) : below x = rk x ∧ below (x + 1) = rk x + 1 := by
  rw [sym_iff] at h; unfold below rk; constructor <;> ((repeat' split) <;> omega)
theorem tot_one {r : R} (h : V r) {N : Nat} (hN : 1114368 ≤ N) : tot (has [r]) N = rk r.2 - rk r.1 + 1 := by
  have b1 := sym_pos h.1; have b2 := sym_pos h.2.1
  rw [tot_congr (q := fun x => sym x && inR r x) N (fun x => by simp [has]), tot_range r b1.1 h.2.2, if_neg (by omega), if_neg (by omega), if_neg (by omega), (rk_below h.1).1, (rk_below h.2.1).2]
  omega
theorem cn_tot : ∀ {m : List R}, Nrm m → ∀ {N : Nat}, 1114368 ≤ N → cn m = tot (has m) N
  | [], _, N, _ => by rw [tot_congr (q := fun _ => false) N (fun x => has_nil x), tot_none]; rfl
  | r :: m, h, N, hN => by
    have ih := cn_tot h.tail hN
    have a := tot_add (has [r]) (has m) N
    rw [tot_one h.head hN, ← ih] at a
    rw [tot_congr (p := fun x => has [r] x && has m x) (q := fun _ => false) N (fun x => by
      rw [Bool.eq_false_iff]; intro g
      obtain ⟨g1, g2⟩ := Bool.and_eq_true_iff.1 g
      obtain ⟨_, q, hq, e1, e2⟩ := has_iff.1 g1
      rw [List.mem_singleton.1 hq] at e2
      have := ((tail_has h x).1 g2).2
      omega), tot_none] at a
    rw [tot_congr (p := has (r :: m)) (q := fun x => has [r] x || has m x) N (fun x => has_cons r m x)]
    simp only [cn]; omega
theorem cn_not (l : List R) : cn (nrm l) + cn (nrm (notL l)) = cn (nrm (notL [])) := by
  obtain ⟨N, hN⟩ : ∃ N : Nat, N = 1114368 := ⟨_, rfl⟩
  have hN' : 1114368 ≤ N := by omega
  rw [cn_tot (nrm_ok _).1 hN', cn_tot (nrm_ok _).1 hN', cn_tot (nrm_ok _).1 hN', tot_add]
  rw [tot_congr (p := fun x => has (nrm l) x && has (nrm (notL l)) x) (q := fun _ => false) N (fun x => by
    rw [(nrm_ok _).2, (nrm_ok _).2, (notL_ok l).2]; cases has l x <;> simp), tot_none]
  rw [tot_congr (p := fun x => has (nrm l) x || has (nrm (notL l)) x) (q := has (nrm (notL []))) N (fun x => by
    rw [(nrm_ok _).2, (nrm_ok _).2, (nrm_ok _).2, (notL_ok l).2, (notL_ok []).2, has_nil]
    cases h : has l x with
    | true => rw [has_sym h]; rfl
    | false => simp)]
  omega
theorem cn_both (a b : List R) : cn (nrm a) + cn (nrm b) = cn (nrm (orL a b)) + cn (nrm (andL a b)) := by
  obtain ⟨N, hN⟩ : ∃ N : Nat, N = 1114368 := ⟨_, rfl⟩
  have hN' : 1114368 ≤ N := by omega
  rw [cn_tot (nrm_ok _).1 hN', cn_tot (nrm_ok _).1 hN', cn_tot (nrm_ok _).1 hN', cn_tot (nrm_ok _).1 hN', tot_add]
  rw [tot_congr (p := has (nrm (orL a b))) (q := fun x => has (nrm a) x || has (nrm b) x) N (fun x => by rw [(nrm_ok _).2, (orL_ok a b).2, (nrm_ok _).2, (nrm_ok _).2]),
    tot_congr (p := has (nrm (andL a b))) (q := fun x => has (nrm a) x && has (nrm b) x) N (fun x => by rw [(nrm_ok _).2, (andL_ok a b).2, (nrm_ok _).2, (nrm_ok _).2])]
end ObSets
