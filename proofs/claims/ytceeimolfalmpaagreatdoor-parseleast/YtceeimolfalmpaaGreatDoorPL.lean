/-
  A text cut and gone on with by a letter: what stands ahead of the cut has the same words, so no fault of it stands ahead of the last of them. Plain.
-/
import Derived.Test.YtceeimolfalmpaaGreatDoorPK
import Derived.Test.YtceeimolfalmpaaGreatDoorNX
import Derived.Test.YtceeimolfalmpaaGreatDoorJZ
namespace ObLex
open ObUtf ObSets Go.Lib
open Go.Proofs.YtceeimolfalmpaaGreatDoor (toks_bad toks_ok toks_end word_next)

section
variable {a b : ByteArray}
/-- A word of a text is the same where a letter follows behind the text. -/
theorem word_more (hf : Fresh b) (h97 : bt b 0 = 97) {i : Nat} (hi : i < a.size) {y : T × Nat} (hy : word a i = .ok y) : word (a ++ b) i = .ok y := by
  have hb : bt (a ++ b) a.size = 97 := by have := bt_right a b 0; simpa [h97] using this
  revert hy
  unfold word
  dsimp only
  rw [bt_left hi, sy_left hf hi, wd_left hf hi]
  by_cases h1 : bt a i = 92
  · rw [if_pos h1, if_pos h1]
    rcases Nat.lt_or_ge (i + 1) a.size with h2 | h2
    · rw [esc_left hf h2]; exact id
    · have : esc a i = .bad 4 := by unfold esc escOf; rw [if_pos (sy_neg.2 h2)]
      rw [this]; intro h; cases h
  · rw [if_neg h1, if_neg h1]
    by_cases h2 : bt a i = 91
    · rw [if_pos h2, if_pos h2]
      cases hc : cls a i with
      | error f => intro h; cases h
      | ok y => rw [cls_left hf hc]; exact id
    · rw [if_neg h2, if_neg h2]
      by_cases h3 : bt a i = 123
      · rw [if_pos h3, if_pos h3]
        cases hc : braces a i with
        | error f => intro h; cases h
        | ok y => rw [braces_left hc]; exact id
      · rw [if_neg h3, if_neg h3]
        by_cases h40 : bt a i = 40
        · rcases Nat.lt_or_ge (i + 1) a.size with n1 | n1
          · rw [bt_left n1]
            by_cases h63 : bt a (i + 1) = 63
            · rcases Nat.lt_or_ge (i + 2) a.size with n2 | n2
              · rw [bt_left n2]; exact id
              · have e : i + 2 = a.size := by omega
                rw [if_neg (c := bt a (i + 1) = 63 ∧ bt (a ++ b) (i + 2) = 58) (fun h => by rw [e, hb] at h; omega), if_neg (c := bt a (i + 1) = 63 ∧ bt a (i + 2) = 58) (fun h => by have h2 := h.2; rw [bt_out (by omega)] at h2; omega)]; exact id
            · rw [if_neg (c := bt a (i + 1) = 63 ∧ bt (a ++ b) (i + 2) = 58) (fun h => h63 h.1), if_neg (c := bt a (i + 1) = 63 ∧ bt a (i + 2) = 58) (fun h => h63 h.1)]; exact id
          · have e : i + 1 = a.size := by omega
            rw [if_neg (c := bt (a ++ b) (i + 1) = 63 ∧ bt (a ++ b) (i + 2) = 58) (fun h => by rw [e, hb] at h; omega), if_neg (c := bt a (i + 1) = 63 ∧ bt a (i + 2) = 58) (fun h => by rw [bt_out (by omega)] at h; omega)]; exact id
        · rw [if_neg h40, if_neg h40]; exact id
theorem Run.more (hf : Fresh b) (h97 : bt b 0 = 97) : ∀ {l : List T} {i p : Nat}, Run a i l p → p ≤ a.size → Run (a ++ b) i l p
  | [], i, p, h, _ => h
  | x :: l, i, p, h, hp => by
    obtain ⟨hi, j, hv, hij, hr⟩ := h
    refine ⟨by rw [size_cat]; omega, j, word_more hf h97 hi hv, hij, Run.more hf h97 hr hp⟩
end
/-- Words from a place on that go further than others from it begin with them. -/
theorem Run.split {s : ByteArray} : ∀ {l m : List T} {i p q : Nat}, Run s i l p → Run s i m q → (s.size ≤ q ∨ ∃ f, word s q = .error f) → ∃ r, m = l ++ r ∧ Run s p r q
  | [], m, i, p, q, h, k, _ => by
    have h : p = i := h
    subst h
    exact ⟨m, rfl, k⟩
  | x :: l, [], i, p, q, h, k, hq => by
    have k : q = i := k
    subst k
    obtain ⟨hi, j, hv, _⟩ := h
    rcases hq with hq | ⟨f, hq⟩
    · omega
    · rw [hq] at hv; cases hv
  | x :: l, y :: m, i, p, q, h, k, hq => by
    obtain ⟨hi, j, hv, _, hr⟩ := h
    obtain ⟨_, j2, hv2, _, hr2⟩ := k
    rw [hv] at hv2
    injection hv2 with hv2
    injection hv2 with h1 h2
    subst h1 h2
    obtain ⟨r, e, hr3⟩ := Run.split hr hr2 hq
    exact ⟨r, by rw [e]; rfl, hr3⟩
/-- The words up to the one that stands at a place. -/
theorem Run.upto {s : ByteArray} : ∀ {l : List T} {i p k : Nat} {t : T}, Run s i l p → l[k]? = some t → ∃ q : Nat, t.at_ = (q : Int) ∧ Run s i (l.take k) q ∧ q < s.size
  | [], i, p, k, t, h, ht => by simp at ht
  | x :: l, i, p, 0, t, h, ht => by
    simp at ht
    subst ht
    obtain ⟨hi, j, hv, _, hr⟩ := h
    exact ⟨i, (word_next hi hv).2, rfl, hi⟩
  | x :: l, i, p, k + 1, t, h, ht => by
    obtain ⟨hi, j, hv, hij, hr⟩ := h
    obtain ⟨q, h1, h2, h3⟩ := Run.upto hr (k := k) (t := t) (by simpa using ht)
    exact ⟨q, h1, ⟨hi, j, hv, hij, h2⟩, h3⟩
theorem Run.mono {s : ByteArray} {l : List T} {i p a b : Nat} {t u : T} (h : Run s i l p) (ha : l[a]? = some t) (hb : l[b]? = some u) (hab : a < b) : t.at_ < u.at_ := by
  obtain ⟨q, e, hr, hq⟩ := h.upto hb
  have ht : (l.take b)[a]? = some t := by rw [List.getElem?_take, if_pos hab]; exact ha
  obtain ⟨q2, e2, hr2, _⟩ := hr.upto ht
  have h3 := Run.split hr2 (m := l.take b) hr
  have hlt : q2 < q := by
    clear h3
    have key : ∀ {l : List T} {i p a : Nat} {t : T}, Run s i l p → l[a]? = some t → t.at_ < (p : Int) := by
      intro l
      induction l with
      | nil => intro i p a t _ h; simp at h
      | cons x l ih =>
        intro i p a t h ht
        obtain ⟨hi, j, hv, hij, hr⟩ := h
        have hle := Run.le hr
        cases a with
        | zero => simp at ht; subst ht; have := (word_next hi hv).2; omega
        | succ a => exact ih hr (by simpa using ht)
    have := key hr ht
    omega
  omega
theorem Ahead.run {s : ByteArray} {l : List T} (h : Ahead s l) : ∃ p, Run s 0 l p := by
  obtain ⟨p, hp, _⟩ := h.ends
  exact ⟨p, hp⟩
end ObLex
namespace ObParse
open ObTree ObLex ObUtf
open Go.Proofs.YtceeimolfalmpaaGreatDoor (FlOf word_next)
open Go.Proofs.YtceeimolfalmpaaGreatDoor.T (AL fin outc)

theorem inj_places {s : ByteArray} {W : List T} (h : Ahead s W) : ∀ (i j : Nat) (u v : T), W[i]? = some u → W[j]? = some v → u.at_ = v.at_ → i = j := fun i j u v hu hv he => by
  obtain ⟨p, hp⟩ := h.run
  rcases Nat.lt_trichotomy i j with g | g | g
  · have := hp.mono hu hv g; omega
  · exact g
  · have := hp.mono hv hu g; omega
/-- A text that begins with so many words of another one, a letter behind them: no fault of it stands ahead of where those words end, unless the other one has the same fault. -/
theorem cut_on {s u : ByteArray} {W W' : List T} {k q : Nat} (_hW : Ahead s W) (hW' : Ahead u W') (hk : k ≤ W.length) (hr : Run u 0 (W.take k) q) {x a : Int} (hx : FlOf (toks u 0) x a) (n : Int) (hn : (q : Int) ≤ n) :
    (outc W' x a n).2.1 = 0 ∨ (q : Int) ≤ (outc W' x a n).2.2 ∨ ∃ er : Int × Int, fin W = .error (some er) ∧ ∃ (i : Nat) (t : T), i < k ∧ W[i]? = some t ∧ er.2 = t.at_ := by
  obtain ⟨p', hp', hend⟩ := hW'.ends
  obtain ⟨r, e, hr2⟩ := Run.split hr hp' hend
  have hlex : x ≠ 0 → (q : Int) ≤ a := fun hx0 => by
    unfold FlOf at hx
    cases ht : toks u 0 with
    | ok l => rw [ht] at hx; exact absurd hx.1 hx0
    | error f =>
      obtain ⟨er, q'⟩ := f
      rw [ht] at hx
      obtain ⟨_, rfl, _⟩ := hx
      rw [hr.toks] at ht
      cases htq : toks u q with
      | ok l => rw [htq] at ht; cases ht
      | error f =>
        obtain ⟨e2, q2⟩ := f
        rw [htq] at ht
        have e3 : q2 = q' := by injection ht with ht; injection ht
        subst e3
        obtain ⟨_, p, _, hqp, hps, hpe⟩ := run_of _ q _ (Nat.le_refl _) (fun k t j hk hs => (word_next hs hk).1) htq
        have := (word_err_lt hps hpe).1
        omega
  unfold outc
  cases hf : fin W' with
  | ok s' =>
    dsimp only
    by_cases hx0 : x = 0
    · rw [if_pos hx0]; exact .inl rfl
    · rw [if_neg hx0]; exact .inr (.inl (hlex hx0))
  | error er =>
    cases er with
    | none =>
      dsimp only
      by_cases hx0 : x = 0
      · rw [if_pos hx0]; exact .inr (.inl hn)
      · rw [if_neg hx0]; exact .inr (.inl (hlex hx0))
    | some er =>
      dsimp only
      obtain ⟨i, t, h1, h2, h3⟩ := fin_loc (W := W) (inj_places hW') hf
      by_cases hik : i < k
      · right; right
        have hagree : ∀ j, j ≤ i → W[j]? = W'[j]? := fun j hj => by
          rw [e, List.getElem?_append_left (by rw [List.length_take]; omega), List.getElem?_take, if_pos (by omega)]
        exact ⟨er, h3 hagree, i, t, hik, by rw [hagree i (Nat.le_refl _)]; exact h1, h2⟩
      · right; left
        rw [h2]
        have h4 : r[i - k]? = some t := by
          rw [e, List.getElem?_append_right (by rw [List.length_take]; omega)] at h1
          rw [List.length_take, Nat.min_eq_left hk] at h1
          exact h1
        obtain ⟨_, k2, h5, _, h6⟩ := hr2.places t (List.mem_of_getElem? h4)
        omega
end ObParse
