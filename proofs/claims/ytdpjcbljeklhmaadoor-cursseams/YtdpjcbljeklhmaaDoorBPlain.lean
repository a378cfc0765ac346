/-
  Plain lists of chunks' texts: where each begins, which one has a place, what a deletion leaves of each, how scant neighbours become one, how a text is shared. No program.
-/
import Derived.Test.YtdpjcbljeklhmaaDoorPlain
namespace ObGap

/-- Where chunk i begins. -/
def st (T : List Bs) (i : Nat) : Nat := (T.take i).flatten.length
theorem st_zero (T : List Bs) : st T 0 = 0 := by simp [st]
theorem st_all (T : List Bs) : st T T.length = T.flatten.length := by simp [st]
theorem st_succ {T : List Bs} {i : Nat} (h : i < T.length) : st T (i + 1) = st T i + T[i].length := by
  unfold st; rw [List.take_succ_eq_append_getElem h, List.flatten_append, List.length_append]
  congr 1
  simp
theorem st_mono {T : List Bs} {i j : Nat} (h : i ≤ j) : st T i ≤ st T j := by
  unfold st
  have : T.take i = (T.take j).take i := by rw [List.take_take]; congr 1; omega
  rw [this]
  conv => rhs; rw [← List.take_append_drop i (T.take j)]
  rw [List.flatten_append, List.length_append]
  omega
theorem st_le (T : List Bs) (i : Nat) : st T i ≤ T.flatten.length := by
  rcases Nat.le_total i T.length with h | h
  · rw [← st_all]; exact st_mono h
  · unfold st; rw [List.take_of_length_le h]; omega
/-- Where the chunks end. -/
def ends (T : List Bs) : List Nat := (List.range T.length).map fun i => st T (i + 1)
theorem ends_len (T : List Bs) : (ends T).length = T.length := by simp [ends]
theorem ends_at {T : List Bs} {i : Nat} (h : i < T.length) : (ends T)[i]? = some (st T (i + 1)) := by
  unfold ends; rw [List.getElem?_map, List.getElem?_range h]; rfl
theorem ends_take {T : List Bs} {i : Nat} (h : i < T.length) : (ends T).take (i + 1) = (ends T).take i ++ [st T (i + 1)] := by
  have h1 : i < (ends T).length := by rw [ends_len]; exact h
  rw [List.take_succ_eq_append_getElem h1]
  congr 1
  have := ends_at h
  rw [List.getElem?_eq_getElem h1] at this
  injection this with this
  rw [this]
/-- The ends of two lists that begin alike. -/
theorem ends_same {T T' : List Bs} {i : Nat} (h : T.take i = T'.take i) (h1 : i ≤ T.length) (h2 : i ≤ T'.length) : (ends T).take i = (ends T').take i := by
  apply List.ext_getElem?
  intro j
  rw [List.getElem?_take, List.getElem?_take]
  split
  · rename_i hj
    rw [ends_at (by omega), ends_at (by omega)]
    congr 1
    unfold st
    have e : ∀ X : List Bs, X.take (j + 1) = (X.take i).take (j + 1) := fun X => by rw [List.take_take]; congr 1; omega
    rw [e T, e T', h]
  · rfl
/-- What start tells of a list of ends. -/
def stE (E : List Nat) (i : Nat) : Nat := if i = 0 then 0 else E.getD (i - 1) 0
theorem stE_of {T : List Bs} {E : List Nat} {i k : Nat} (h : E.take k = (ends T).take k) (hi : i ≤ k) (hk : k ≤ T.length) : stE E i = st T i := by
  unfold stE
  split
  · rename_i h0; rw [h0, st_zero]
  · rename_i h0
    have e : E[i - 1]? = (ends T)[i - 1]? := by
      have := congrArg (fun l => l[i - 1]?) h
      simp only [List.getElem?_take] at this
      rw [if_pos (by omega), if_pos (by omega)] at this
      exact this
    rw [List.getD_eq_getElem?_getD, e, ends_at (by omega)]
    simp
    congr 1; omega
theorem stE_ends {T : List Bs} {i : Nat} (hi : i ≤ T.length) : stE (ends T) i = st T i := stE_of (k := T.length) rfl hi (Nat.le_refl _)
/-- Which chunk has the byte at a place (behind the last one: their number). -/
def Wth (T : List Bs) (a i : Nat) : Prop := i ≤ T.length ∧ st T i ≤ a ∧ (i < T.length → a < st T (i + 1))
theorem Wth.in_ {T : List Bs} {a i : Nat} (h : Wth T a i) (ha : a < T.flatten.length) : i < T.length := by
  obtain ⟨h1, h2, h3⟩ := h
  rcases Nat.lt_or_ge i T.length with h4 | h4
  · exact h4
  · have : i = T.length := by omega
    subst this; rw [st_all] at h2; omega
theorem Wth.out_ {T : List Bs} {a i : Nat} (h : Wth T a i) (ha : T.flatten.length ≤ a) : i = T.length := by
  obtain ⟨h1, h2, h3⟩ := h
  rcases Nat.lt_or_ge i T.length with h4 | h4
  · have := h3 h4; have := st_le T (i + 1); omega
  · omega
theorem part {T : List Bs} {i : Nat} (h : i < T.length) : T = T.take i ++ T[i] :: T.drop (i + 1) := by
  rw [← List.drop_eq_getElem_cons h, List.take_append_drop]
theorem flat_part {T : List Bs} {i : Nat} (h : i < T.length) : T.flatten = (T.take i).flatten ++ (T[i] ++ (T.drop (i + 1)).flatten) := by
  have := congrArg List.flatten (part h)
  rw [List.flatten_append, List.flatten_cons] at this
  exact this
/-- What is put into one part of three. -/
theorem ins_mid (A t B x : Bs) (k : Nat) (h : k ≤ t.length) : A ++ ((t.take k ++ (x ++ t.drop k)) ++ B) = (A ++ (t ++ B)).take (A.length + k) ++ (x ++ (A ++ (t ++ B)).drop (A.length + k)) := by
  have e1 : (A ++ (t ++ B)).take (A.length + k) = A ++ t.take k := by
    rw [List.take_append, List.take_of_length_le (by omega), Nat.add_sub_cancel_left, List.take_append_of_le_length h]
  have e2 : (A ++ (t ++ B)).drop (A.length + k) = t.drop k ++ B := by
    rw [List.drop_append, List.drop_of_length_le (by omega), List.nil_append, Nat.add_sub_cancel_left, List.drop_append_of_le_length h]
  rw [e1, e2]; simp
/-- The byte of a chunk. -/
theorem flat_at {T : List Bs} {i k : Nat} (h : i < T.length) (hk : k < T[i].length) : T.flatten[st T i + k]? = T[i][k]? := by
  rw [flat_part h, st, List.getElem?_append_right (by omega), Nat.add_sub_cancel_left, List.getElem?_append_left hk]

/-- What the deletion of the bytes from f up to t leaves of each chunk. -/
def del : List Bs → Nat → Nat → List Bs
  | [], _, _ => []
  | x :: T, f, t => (x.take f ++ x.drop t) :: del T (f - x.length) (t - x.length)
theorem del_len : ∀ (T : List Bs) (f t : Nat), (del T f t).length = T.length
  | [], _, _ => rfl
  | x :: T, f, t => by simp [del, del_len T]
theorem del_flat : ∀ (T : List Bs) (f t : Nat), f ≤ t → (del T f t).flatten = T.flatten.take f ++ T.flatten.drop t
  | [], f, t, _ => by simp [del]
  | x :: T, f, t, h => by
    have ih := del_flat T (f - x.length) (t - x.length) (by omega)
    simp only [del, List.flatten_cons, ih, List.take_append, List.drop_append]
    rcases Nat.le_total f x.length with h1 | h1
    · rw [show f - x.length = 0 by omega]; simp
    · rw [List.drop_of_length_le (show x.length ≤ t by omega)]; simp
theorem st_cons (x : Bs) (T : List Bs) (i : Nat) : st (x :: T) (i + 1) = x.length + st T i := by simp [st]
theorem del_at : ∀ (T : List Bs) (f t i : Nat) (h : i < T.length), (del T f t)[i]? = some (T[i].take (f - st T i) ++ T[i].drop (t - st T i))
  | x :: T, f, t, 0, _ => by simp [del, st_zero]
  | x :: T, f, t, i + 1, h => by
    have := del_at T (f - x.length) (t - x.length) i (by simpa using h)
    simp only [del, List.getElem?_cons_succ, List.getElem_cons_succ, st_cons]
    rw [this]
    congr 3 <;> omega
theorem del_low {T : List Bs} {f t i : Nat} (h : st T i ≤ f) (hft : f ≤ t) : (del T f t).take i = T.take i := by
  apply List.ext_getElem?
  intro j
  rw [List.getElem?_take, List.getElem?_take]
  split
  · rename_i hj
    rcases Nat.lt_or_ge j T.length with h1 | h1
    · rw [del_at _ _ _ _ h1, List.getElem?_eq_getElem h1]
      have := st_succ h1
      have := st_mono (T := T) (show j + 1 ≤ i by omega)
      rw [List.take_of_length_le (by omega), List.drop_of_length_le (by omega), List.append_nil]
    · rw [List.getElem?_eq_none (by rw [del_len]; exact h1), List.getElem?_eq_none h1]
  · rfl
theorem del_high {T : List Bs} {f t i : Nat} (h : t ≤ st T i) (hft : f ≤ t) : (del T f t).drop i = T.drop i := by
  apply List.ext_getElem?
  intro j
  rw [List.getElem?_drop, List.getElem?_drop]
  rcases Nat.lt_or_ge (i + j) T.length with h1 | h1
  · rw [del_at _ _ _ _ h1, List.getElem?_eq_getElem h1]
    have := st_mono (T := T) (show i ≤ i + j by omega)
    rw [show f - st T (i + j) = 0 by omega, show t - st T (i + j) = 0 by omega]
    simp
  · rw [List.getElem?_eq_none (by rw [del_len]; exact h1), List.getElem?_eq_none h1]

/-- Neighbours that are not scant. -/
def Adj (m : Nat) : List Bs → Prop
  | [] => True
  | [_] => True
  | a :: b :: r => m < 2 * (a.length + b.length) ∧ Adj m (b :: r)
/-- The chunks as they should be. -/
def Snd (m : Nat) (T : List Bs) : Prop := (∀ t ∈ T, 1 ≤ t.length ∧ t.length ≤ m) ∧ Adj m T
theorem adj_tail {m : Nat} {a : Bs} {r : List Bs} (h : Adj m (a :: r)) : Adj m r := by
  cases r with
  | nil => trivial
  | cons b r => exact h.2
theorem adj_app {m : Nat} : ∀ {A B : List Bs}, Adj m A → Adj m B → (∀ a b A' B', A = A' ++ [a] → B = b :: B' → m < 2 * (a.length + b.length)) → Adj m (A ++ B)
  | [], B, _, hB, _ => hB
  | [_], [], _, _, _ => trivial
  | [a], b :: B, _, hB, h => ⟨h a b [] B rfl rfl, hB⟩
  | a :: c :: A, _, hA, hB, h => ⟨hA.1, adj_app (A := c :: A) hA.2 hB fun x y A' B' e1 e2 => h x y (a :: A') B' (by rw [e1]; rfl) e2⟩
theorem adj_left {m : Nat} : ∀ {A B : List Bs}, Adj m (A ++ B) → Adj m A
  | [], _, _ => trivial
  | [_], _, _ => trivial
  | _ :: c :: A, _, h => ⟨h.1, adj_left (A := c :: A) h.2⟩
theorem adj_right {m : Nat} : ∀ {A B : List Bs}, Adj m (A ++ B) → Adj m B
  | [], _, h => h
  | _ :: A, _, h => adj_right (A := A) (adj_tail h)
theorem adj_mid {m : Nat} : ∀ {A B : List Bs} {a b : Bs}, Adj m (A ++ a :: b :: B) → m < 2 * (a.length + b.length)
  | [], _, _, _, h => h.1
  | _ :: A, _, _, _, h => adj_mid (A := A) (adj_tail h)
/-- Three parts joined. -/
theorem snd_three {m : Nat} {A K B : List Bs} (hA : Snd m A) (hK : Snd m K) (hB : Snd m B) (hne : K ≠ [] ∨ A = [] ∨ B = [])
    (h1 : ∀ a A' k K', A = A' ++ [a] → K = k :: K' → m < 2 * (a.length + k.length)) (h2 : ∀ k K' b B', K = K' ++ [k] → B = b :: B' → m < 2 * (k.length + b.length)) : Snd m (A ++ (K ++ B)) := by
  refine ⟨fun t ht => ?_, ?_⟩
  · rcases List.mem_append.1 ht with h | h
    · exact hA.1 t h
    · rcases List.mem_append.1 h with h | h
      · exact hK.1 t h
      · exact hB.1 t h
  · refine adj_app hA.2 (adj_app hK.2 hB.2 fun k b K' B' e1 e2 => h2 k K' b B' e1 e2) fun a b A' B' e1 e2 => ?_
    cases K with
    | nil =>
      rcases hne with h | h | h
      · exact absurd rfl h
      · subst h; simp at e1
      · subst h; simp at e2
    | cons k K =>
      simp only [List.cons_append, List.cons.injEq] at e2
      rw [← e2.1]
      exact h1 a A' k K e1 rfl

/-- One chunk more, behind what was kept. -/
def keep1 (m : Nat) (ks : List Bs) (c : Bs) : List Bs :=
  match ks.getLast? with
  | some k => if 2 * (k.length + c.length) ≤ m then ks.dropLast ++ [k ++ c] else if c.length = 0 then ks else ks ++ [c]
  | none => if c.length = 0 then ks else ks ++ [c]
/-- Of some chunks the empty ones go, and scant neighbours become one. -/
def mnd (m : Nat) (R : List Bs) : List Bs := R.foldl (keep1 m) []
theorem mnd_snoc (m : Nat) (R : List Bs) (c : Bs) : mnd m (R ++ [c]) = keep1 m (mnd m R) c := by simp [mnd]
theorem keep1_last {m : Nat} {ks : List Bs} {k c : Bs} : keep1 m (ks ++ [k]) c = if 2 * (k.length + c.length) ≤ m then ks ++ [k ++ c] else if c.length = 0 then ks ++ [k] else ks ++ [k] ++ [c] := by
  simp [keep1]
theorem keep1_nil {m : Nat} {c : Bs} : keep1 m [] c = if c.length = 0 then [] else [c] := by simp [keep1]
theorem snoc_cases (ks : List Bs) : ks = [] ∨ ∃ A k, ks = A ++ [k] := by
  rcases List.eq_nil_or_concat ks with h | ⟨A, k, h⟩
  · exact .inl h
  · exact .inr ⟨A, k, by simpa using h⟩
theorem keep1_flat (m : Nat) (ks : List Bs) (c : Bs) : (keep1 m ks c).flatten = ks.flatten ++ c := by
  rcases snoc_cases ks with rfl | ⟨A, k, rfl⟩
  · rw [keep1_nil]
    split
    · rename_i h; rw [List.eq_nil_of_length_eq_zero h]; simp
    · simp
  · rw [keep1_last]
    split
    · simp
    · split
      · rename_i h; rw [List.eq_nil_of_length_eq_zero h]; simp
      · simp
theorem fold_flat (m : Nat) : ∀ (R ks : List Bs), (R.foldl (keep1 m) ks).flatten = ks.flatten ++ R.flatten
  | [], ks => by simp
  | c :: R, ks => by rw [List.foldl_cons, fold_flat m R, keep1_flat]; simp
theorem mnd_flat (m : Nat) (R : List Bs) : (mnd m R).flatten = R.flatten := by rw [mnd, fold_flat]; simp
theorem snd_snoc {m : Nat} {A : List Bs} {k : Bs} (hA : Snd m (A ++ [k])) {c : Bs} (hc : 1 ≤ c.length ∧ c.length ≤ m) (h : m < 2 * (k.length + c.length)) : Snd m (A ++ [k] ++ [c]) := by
  refine ⟨fun t ht => ?_, adj_app hA.2 trivial fun a b A' B' e1 e2 => ?_⟩
  · rcases List.mem_append.1 ht with h | h
    · exact hA.1 t h
    · rw [List.mem_singleton.1 h]; exact hc
  · have e3 := (List.append_inj' e1 rfl).2
    simp only [List.cons.injEq, and_true] at e2 e3
    rw [← e2.1, ← e3]; exact h
/-- The last one grown. -/
theorem snd_grow {m : Nat} {A : List Bs} {k k' : Bs} (hA : Snd m (A ++ [k])) (h1 : k.length ≤ k'.length) (h2 : k'.length ≤ m) : Snd m (A ++ [k']) := by
  refine ⟨fun t ht => ?_, adj_app (adj_left hA.2) trivial fun a b A' B' e1 e2 => ?_⟩
  · rcases List.mem_append.1 ht with h | h
    · exact hA.1 t (List.mem_append_left _ h)
    · rw [List.mem_singleton.1 h]
      have := hA.1 k (by simp)
      omega
  · simp only [List.cons.injEq] at e2
    rw [← e2.1]
    have := hA.2
    rw [e1, List.append_assoc] at this
    have := adj_mid this
    omega
theorem keep1_snd {m : Nat} {ks : List Bs} {c : Bs} (h : Snd m ks) (hc : c.length ≤ m) : Snd m (keep1 m ks c) := by
  rcases snoc_cases ks with rfl | ⟨A, k, rfl⟩
  · rw [keep1_nil]
    split
    · exact ⟨by simp, trivial⟩
    · rename_i h0
      exact ⟨fun t ht => by rw [List.mem_singleton.1 ht]; omega, trivial⟩
  · rw [keep1_last]
    split
    · rename_i h0
      exact snd_grow h (by simp) (by simp; omega)
    · split
      · exact h
      · rename_i h0 h1
        exact snd_snoc h ⟨by omega, hc⟩ (by omega)
theorem fold_snd {m : Nat} : ∀ {R ks : List Bs}, Snd m ks → (∀ c ∈ R, c.length ≤ m) → Snd m (R.foldl (keep1 m) ks)
  | [], _, h, _ => h
  | c :: R, ks, h, hR => fold_snd (R := R) (keep1_snd h (hR c (by simp))) fun x hx => hR x (by simp [hx])
theorem mnd_snd {m : Nat} {R : List Bs} (h : ∀ c ∈ R, c.length ≤ m) : Snd m (mnd m R) := fold_snd ⟨by simp, trivial⟩ h
/-- The first one only grows. -/
theorem keep1_head {m : Nat} {ks : List Bs} {k c : Bs} {K : List Bs} (h : ks = k :: K) : ∃ k' K', keep1 m ks c = k' :: K' ∧ k.length ≤ k'.length := by
  rcases snoc_cases ks with rfl | ⟨A, l, rfl⟩
  · cases h
  · rw [keep1_last]
    cases A with
    | nil =>
      simp only [List.nil_append, List.cons.injEq] at h
      obtain ⟨rfl, rfl⟩ := h
      split
      · exact ⟨_, _, rfl, by simp⟩
      · split
        · exact ⟨_, _, rfl, Nat.le_refl _⟩
        · exact ⟨_, _, rfl, Nat.le_refl _⟩
    | cons a A =>
      simp only [List.cons_append, List.cons.injEq] at h
      obtain ⟨rfl, rfl⟩ := h
      split
      · exact ⟨_, _, rfl, Nat.le_refl _⟩
      · split
        · exact ⟨_, _, rfl, Nat.le_refl _⟩
        · exact ⟨_, _, rfl, Nat.le_refl _⟩
theorem fold_head {m : Nat} : ∀ {R ks : List Bs} {k : Bs} {K : List Bs}, ks = k :: K → ∃ k' K', R.foldl (keep1 m) ks = k' :: K' ∧ k.length ≤ k'.length
  | [], ks, k, K, h => ⟨k, K, h, Nat.le_refl _⟩
  | c :: R, ks, k, K, h => by
    obtain ⟨k1, K1, e1, h1⟩ := keep1_head (m := m) (c := c) h
    obtain ⟨k2, K2, e2, h2⟩ := fold_head (R := R) e1
    exact ⟨k2, K2, e2, by omega⟩
theorem mnd_head {m : Nat} {r : Bs} {R : List Bs} (h : 1 ≤ r.length) : ∃ k K, mnd m (r :: R) = k :: K ∧ r.length ≤ k.length := by
  have e : keep1 m [] r = [r] := by rw [keep1_nil, if_neg (by omega)]
  obtain ⟨k, K, e1, h1⟩ := fold_head (m := m) (R := R) e
  exact ⟨k, K, e1, h1⟩
theorem mnd_last {m : Nat} {r : Bs} {R : List Bs} (h : 1 ≤ r.length) : ∃ k K, mnd m (R ++ [r]) = K ++ [k] ∧ r.length ≤ k.length := by
  rw [mnd_snoc]
  rcases snoc_cases (mnd m R) with e | ⟨A, k, e⟩
  · rw [e, keep1_nil, if_neg (by omega)]
    exact ⟨r, [], rfl, Nat.le_refl _⟩
  · rw [e, keep1_last]
    split
    · exact ⟨k ++ r, A, rfl, by simp⟩
    · rw [if_neg (by omega)]
      exact ⟨r, A ++ [k], rfl, Nat.le_refl _⟩

/-- How a text is shared: of n bytes into k of them. -/
theorem share_one {n k m lo : Nat} (hk : 0 < k) (h1 : n ≤ k * m) (h2 : k * lo ≤ n) : lo ≤ n / k ∧ n / k ≤ m ∧ n - n / k ≤ (k - 1) * m ∧ (k - 1) * lo ≤ n - n / k := by
  have a1 : lo ≤ n / k := (Nat.le_div_iff_mul_le hk).2 (by rw [Nat.mul_comm]; exact h2)
  have a2 : n / k ≤ m := by
    apply Nat.div_le_of_le_mul; exact h1
  have e := Nat.div_add_mod n k
  have r := Nat.mod_lt n hk
  generalize n / k = q at *
  generalize n % k = z at *
  obtain ⟨j, rfl⟩ : ∃ j, k = j + 1 := ⟨k - 1, by omega⟩
  have e2 : (j + 1) * q = j * q + q := by rw [Nat.add_mul]; omega
  have e3 : (j + 1) * m = j * m + m := by rw [Nat.add_mul]; omega
  rw [Nat.add_sub_cancel]
  have a3 : j * lo ≤ j * q := Nat.mul_le_mul_left _ a1
  refine ⟨a1, a2, ?_, by omega⟩
  rcases Nat.lt_or_ge q m with hq | hq
  · obtain ⟨d, rfl⟩ : ∃ d, m = q + 1 + d := ⟨m - q - 1, by omega⟩
    have : j * (q + 1 + d) = j * q + j + j * d := by rw [Nat.mul_add, Nat.mul_add, Nat.mul_one]
    omega
  · have : q = m := by omega
    subst this
    omega
/-- The least share of a text that does not fit into one chunk is half of a chunk's size at least. -/
theorem share_half {n m : Nat} (hm : 4 ≤ m) (hn : m < n) : m ≤ 2 * (n / ((n + m - 1) / m)) := by
  have hk := Nat.div_add_mod (n + m - 1) m
  have hr := Nat.mod_lt (n + m - 1) (show 0 < m by omega)
  generalize (n + m - 1) / m = k at *
  generalize (n + m - 1) % m = z at *
  have h2 : 2 ≤ k := by
    rcases Nat.lt_or_ge k 2 with h | h
    · have : m * k ≤ m * 1 := Nat.mul_le_mul_left _ (by omega)
      omega
    · exact h
  have e := Nat.div_add_mod n k
  have r := Nat.mod_lt n (show 0 < k by omega)
  generalize n / k = q at *
  generalize n % k = y at *
  rcases Nat.lt_or_ge (2 * q) m with h | h
  · exfalso
    obtain ⟨j, rfl⟩ : ∃ j, k = j + 2 := ⟨k - 2, by omega⟩
    have e1 : (j + 2) * q = j * q + 2 * q := by rw [Nat.add_mul]
    have e2 : m * (j + 2) = m * j + 2 * m := by rw [Nat.mul_add]; omega
    have e3 : 2 * (j * q) = j * (2 * q) := by rw [← Nat.mul_assoc, ← Nat.mul_assoc, Nat.mul_comm 2 j]
    have e4 : j * (2 * q) ≤ j * (m - 1) := Nat.mul_le_mul_left _ (by omega)
    have e5 : j * (m - 1) + j = j * m := by
      obtain ⟨d, rfl⟩ : ∃ d, m = d + 1 := ⟨m - 1, by omega⟩
      rw [Nat.add_sub_cancel, Nat.mul_add, Nat.mul_one]
    have e6 : m * j = j * m := Nat.mul_comm _ _
    have e7 : j * 4 ≤ j * m := Nat.mul_le_mul_left _ hm
    omega
  · exact h
theorem share_few {n m : Nat} (hm : 4 ≤ m) (hn : 1 ≤ n) : 1 ≤ (n + m - 1) / m ∧ (n + m - 1) / m ≤ n ∧ n ≤ (n + m - 1) / m * m := by
  have hk := Nat.div_add_mod (n + m - 1) m
  have hr := Nat.mod_lt (n + m - 1) (show 0 < m by omega)
  generalize (n + m - 1) / m = k at *
  generalize (n + m - 1) % m = z at *
  have e : k * m = m * k := Nat.mul_comm _ _
  rw [e]
  rcases Nat.eq_zero_or_pos k with h | h
  · subst h; rw [Nat.mul_zero] at hk; omega
  · obtain ⟨j, rfl⟩ : ∃ j, k = j + 1 := ⟨k - 1, by omega⟩
    have e1 : m * (j + 1) = m * j + m := by rw [Nat.mul_add, Nat.mul_one]
    have e2 : 4 * j ≤ m * j := Nat.mul_le_mul_right _ hm
    omega
end ObGap
