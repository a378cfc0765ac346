/-
  What a row of words is parsed to, plainly: the nodes, or what is wrong; how far each part comes. No program, no conditions.
-/
import Derived.Test.YtceeimolfalmpaaDoorLA
import Derived.Test.YtceeimolfalmpaaDoorTA
namespace ObParse
open ObTree

/-- How far it has come: the next word's number, the nodes, how many groups with numbers have begun. -/
structure St where
  k : Nat
  L : List Nd
  caps : Nat
/-- What stops it: a fault and its place; none: a group that is open at the words' end. -/
abbrev Er := Option (Int × Int)
abbrev PR := Except Er (St × Int)

def kd (W : List ObLex.T) (k : Nat) : Int := match W[k]? with | some t => t.kind | none => 0
def at_ (W : List ObLex.T) (k : Nat) : Int := match W[k]? with | some t => t.at_ | none => 0
def put (s : St) (x : Nd) : St × Int := (⟨s.k, s.L ++ [x], s.caps⟩, (s.L.length : Int))
def nxt (s : St) : St := ⟨s.k + 1, s.L, s.caps⟩
/-- Does an atom begin with a word of such a kind? -/
def beg (c : Int) : Prop := c = 1 ∨ c = 8 ∨ c = 9 ∨ c = 2 ∨ c = 3
instance (c : Int) : Decidable (beg c) := by unfold beg; infer_instance

/-- What is said of an atom, word by word. -/
def repL (W : List ObLex.T) : Nat → St → Int → St × Int
  | 0, s, a => (s, a)
  | f + 1, s, a => match W[s.k]? with
    | none => (s, a)
    | some t =>
      if t.kind = 6 then repL W f (put (nxt s) ⟨7, a, 0, [], t.mn, t.mx, 0⟩).1 (put (nxt s) ⟨7, a, 0, [], t.mn, t.mx, 0⟩).2
      else if t.kind = 7 then repL W f (put (nxt s) ⟨9, a, 0, [], 0, 0, t.mn⟩).1 (put (nxt s) ⟨9, a, 0, [], 0, 0, t.mn⟩).2
      else (s, a)
/-- What stands within a group, up to the word that closes it; the group's node, if it has a number. -/
def grp (W : List ObLex.T) (al : St → PR) (num : Bool) (s : St) : PR :=
  match al ⟨s.k + 1, s.L, if num then s.caps + 1 else s.caps⟩ with
  | .error e => .error e
  | .ok (s', a) =>
    if s'.k < W.length then (if num then .ok (put (nxt s') ⟨8, a, 0, [], 0, 0, (s.caps : Int) + 1⟩) else .ok (nxt s', a))
    else .error none
/-- An atom; al: what reads an alt within one more open group, if there may be one. -/
def atom (W : List ObLex.T) (al : Option (St → PR)) (s : St) : PR :=
  match W[s.k]? with
  | none => .error none
  | some t =>
    if t.kind = 1 then .ok (put (nxt s) ⟨2, 0, 0, t.set, 0, 0, 0⟩)
    else if t.kind = 8 then .ok (put (nxt s) ⟨3, 0, 0, [], 0, 0, 0⟩)
    else if t.kind = 9 then .ok (put (nxt s) ⟨4, 0, 0, [], 0, 0, 0⟩)
    else match al with
      | none => .error (some (6, t.at_))
      | some al => if t.kind = 2 then (if 99 ≤ s.caps then .error (some (7, t.at_)) else grp W al true s) else grp W al false s
def rep (W : List ObLex.T) (al : Option (St → PR)) (s : St) : PR :=
  match atom W al s with
  | .error e => .error e
  | .ok p => .ok (repL W W.length p.1 p.2)
/-- Further parts, each joined to all that stands ahead of it. -/
def rowL (W : List ObLex.T) (kind : Int) (more : St → Option St) (part : St → PR) : Nat → St → Int → PR
  | 0, s, a => .ok (s, a)
  | f + 1, s, a => match more s with
    | none => .ok (s, a)
    | some s1 => match part s1 with
      | .error e => .error e
      | .ok p => rowL W kind more part f (put p.1 ⟨kind, a, p.2, [], 0, 0, 0⟩).1 (put p.1 ⟨kind, a, p.2, [], 0, 0, 0⟩).2
def moreC (W : List ObLex.T) (s : St) : Option St := if beg (kd W s.k) then some s else none
def moreA (W : List ObLex.T) (s : St) : Option St := if kd W s.k = 5 then some (nxt s) else none
def cat (W : List ObLex.T) (al : Option (St → PR)) (s : St) : PR :=
  if beg (kd W s.k) then
    match rep W al s with
    | .error e => .error e
    | .ok p => rowL W 5 (moreC W) (rep W al) W.length p.1 p.2
  else if kd W s.k = 6 ∨ kd W s.k = 7 then .error (some (4, at_ W s.k))
  else .ok (put s ⟨1, 0, 0, [], 0, 0, 0⟩)
def alt (W : List ObLex.T) (al : Option (St → PR)) (s : St) : PR :=
  match cat W al s with
  | .error e => .error e
  | .ok p => rowL W 6 (moreA W) (cat W al) W.length p.1 p.2
/-- An alt where so many groups more may be open. -/
def alts (W : List ObLex.T) : Nat → Option (St → PR)
  | 0 => none
  | f + 1 => some (alt W (alts W f))
/-- All words: the nodes, or what is wrong. cut: the fault that stands behind the words; n: the text's length. -/
def pat (W : List ObLex.T) (cut : Option (Int × Int)) (n : Nat) : Except (Int × Int) (List Nd) :=
  match alt W (alts W 64) ⟨0, [], 0⟩ with
  | .error (some e) => .error e
  | .error none => .error (cut.getD (4, n))
  | .ok (s, _) => if s.k < W.length then .error (4, at_ W s.k) else match cut with | some e => .error e | none => .ok s.L

/-! ### How far it comes, and how many nodes there are -/
theorem kd_in {W : List ObLex.T} {k : Nat} (h : kd W k ≠ 0) : k < W.length := by
  unfold kd at h
  cases hw : W[k]? with
  | none => rw [hw] at h; exact absurd rfl h
  | some t => exact (List.getElem?_eq_some_iff.1 hw).1
theorem kd_beg {W : List ObLex.T} {k : Nat} (h : beg (kd W k)) : k < W.length := kd_in (by unfold beg at h; omega)
theorem repL_fit (W : List ObLex.T) : ∀ (f : Nat) (s : St) (a : Int), s.k ≤ W.length → s.k ≤ (repL W f s a).1.k ∧ (repL W f s a).1.k ≤ W.length ∧ (repL W f s a).1.L.length = s.L.length + ((repL W f s a).1.k - s.k) ∧ (repL W f s a).1.caps = s.caps
  | 0, s, a, h => ⟨Nat.le_refl _, h, by simp [repL], rfl⟩
  | f + 1, s, a, h => by
    unfold repL
    cases hw : W[s.k]? with
    | none => exact ⟨Nat.le_refl _, h, by simp, rfl⟩
    | some t =>
      have hlt := (List.getElem?_eq_some_iff.1 hw).1
      dsimp only
      split
      · have := repL_fit W f (put (nxt s) ⟨7, a, 0, [], t.mn, t.mx, 0⟩).1 (put (nxt s) ⟨7, a, 0, [], t.mn, t.mx, 0⟩).2 (by simp [put, nxt]; omega)
        simp only [put, nxt, List.length_append, List.length_cons, List.length_nil] at this ⊢
        exact ⟨by omega, this.2.1, by omega, this.2.2.2⟩
      · split
        · have := repL_fit W f (put (nxt s) ⟨9, a, 0, [], 0, 0, t.mn⟩).1 (put (nxt s) ⟨9, a, 0, [], 0, 0, t.mn⟩).2 (by simp [put, nxt]; omega)
          simp only [put, nxt, List.length_append, List.length_cons, List.length_nil] at this ⊢
          exact ⟨by omega, this.2.1, by omega, this.2.2.2⟩
        · exact ⟨Nat.le_refl _, h, by simp, rfl⟩
/-- A part goes on by one word at least, and makes not more than so many nodes. -/
def FitR (W : List ObLex.T) (p : St → PR) : Prop := ∀ s s' a, s.k ≤ W.length → p s = .ok (s', a) → s.k < s'.k ∧ s'.k ≤ W.length ∧ s'.L.length + 1 ≤ s.L.length + 2 * (s'.k - s.k) ∧ s.L.length < s'.L.length
/-- A part goes on, or stays, and makes not more than so many nodes. -/
def FitC (W : List ObLex.T) (p : St → PR) : Prop := ∀ s s' a, s.k ≤ W.length → p s = .ok (s', a) → s.k ≤ s'.k ∧ s'.k ≤ W.length ∧ s'.L.length ≤ s.L.length + 2 * (s'.k - s.k) + 1 ∧ s.L.length < s'.L.length
def FitO (W : List ObLex.T) (al : Option (St → PR)) : Prop := ∀ p, al = some p → FitC W p
theorem grp_fit {W : List ObLex.T} {al : St → PR} (h : FitC W al) (num : Bool) {s s' : St} {a : Int} (hk : s.k < W.length) (he : grp W al num s = .ok (s', a)) :
    s.k < s'.k ∧ s'.k ≤ W.length ∧ s'.L.length + 1 ≤ s.L.length + 2 * (s'.k - s.k) ∧ s.L.length < s'.L.length := by
  unfold grp at he
  cases hp : al ⟨s.k + 1, s.L, if num then s.caps + 1 else s.caps⟩ with
  | error e => rw [hp] at he; cases he
  | ok p =>
    obtain ⟨s1, b⟩ := p
    rw [hp] at he
    dsimp only at he
    have := h _ s1 b (by dsimp only; omega) hp
    dsimp only at this
    split at he
    · cases num with
      | true =>
        simp only [if_true, put, nxt] at he
        injection he with he; injection he with h1 h2; subst h1
        simp only [List.length_append, List.length_cons, List.length_nil]; omega
      | false =>
        simp only [Bool.false_eq_true, if_false, nxt] at he
        injection he with he; injection he with h1 h2; subst h1
        dsimp only; omega
    · cases he
theorem atom_fit {W : List ObLex.T} {al : Option (St → PR)} (h : FitO W al) : FitR W (atom W al) := by
  intro s s' a hk he
  unfold atom at he
  cases hw : W[s.k]? with
  | none => rw [hw] at he; cases he
  | some t =>
    have hlt := (List.getElem?_eq_some_iff.1 hw).1
    rw [hw] at he
    dsimp only at he
    split at he
    · injection he with he; injection he with h1 h2; subst h1; simp [nxt]; omega
    · split at he
      · injection he with he; injection he with h1 h2; subst h1; simp [nxt]; omega
      · split at he
        · injection he with he; injection he with h1 h2; subst h1; simp [nxt]; omega
        · cases al with
          | none => cases he
          | some p =>
            dsimp only at he
            split at he
            · split at he
              · cases he
              · exact grp_fit (h p rfl) true hlt he
            · exact grp_fit (h p rfl) false hlt he
theorem rep_fit {W : List ObLex.T} {al : Option (St → PR)} (h : FitO W al) : FitR W (rep W al) := by
  intro s s' a hk he
  unfold rep at he
  cases hp : atom W al s with
  | error e => rw [hp] at he; cases he
  | ok p =>
    obtain ⟨s1, b⟩ := p
    rw [hp] at he
    dsimp only at he
    have h1 := atom_fit h s s1 b hk hp
    have h2 := repL_fit W W.length s1 b h1.2.1
    injection he with he
    rw [he] at h2
    dsimp only at h2
    omega
theorem rowL_fit {W : List ObLex.T} {kind : Int} {more : St → Option St} {part : St → PR} (h : ∀ s s1 s' a, s.k ≤ W.length → more s = some s1 → part s1 = .ok (s', a) → s.k < s'.k ∧ s'.k ≤ W.length ∧ s'.L.length + 1 ≤ s.L.length + 2 * (s'.k - s.k) ∧ s.L.length < s'.L.length) :
    ∀ (f : Nat) (s : St) (a : Int) (s' : St) (b : Int), s.k ≤ W.length → rowL W kind more part f s a = .ok (s', b) → s.k ≤ s'.k ∧ s'.k ≤ W.length ∧ s'.L.length ≤ s.L.length + 2 * (s'.k - s.k) ∧ s.L.length ≤ s'.L.length
  | 0, s, a, s', b, hk, he => by
    simp only [rowL] at he
    injection he with he; injection he with h1 h2; subst h1; omega
  | f + 1, s, a, s', b, hk, he => by
    unfold rowL at he
    cases hm : more s with
    | none => rw [hm] at he; dsimp only at he; injection he with he; injection he with h1 h2; subst h1; omega
    | some s1 =>
      rw [hm] at he
      dsimp only at he
      cases hp : part s1 with
      | error e => rw [hp] at he; cases he
      | ok p =>
        obtain ⟨s2, c⟩ := p
        rw [hp] at he
        dsimp only at he
        have h1 := h s s1 s2 c hk hm hp
        have h2 := rowL_fit h f _ _ s' b (by simp only [put]; exact h1.2.1) he
        simp only [put, List.length_append, List.length_cons, List.length_nil] at h2
        omega
theorem moreC_fit {W : List ObLex.T} {al : Option (St → PR)} (h : FitO W al) : ∀ s s1 s' a, s.k ≤ W.length → moreC W s = some s1 → rep W al s1 = .ok (s', a) → s.k < s'.k ∧ s'.k ≤ W.length ∧ s'.L.length + 1 ≤ s.L.length + 2 * (s'.k - s.k) ∧ s.L.length < s'.L.length := fun s s1 s' a hk hm hp => by
  unfold moreC at hm
  split at hm
  · injection hm with hm; subst hm; exact rep_fit h s s' a hk hp
  · cases hm
theorem cat_fit {W : List ObLex.T} {al : Option (St → PR)} (h : FitO W al) : FitC W (cat W al) := by
  intro s s' a hk he
  unfold cat at he
  split at he
  · cases hp : rep W al s with
    | error e => rw [hp] at he; cases he
    | ok p =>
      obtain ⟨s1, b⟩ := p
      rw [hp] at he
      dsimp only at he
      have h1 := rep_fit h s s1 b hk hp
      have h2 := rowL_fit (moreC_fit h) _ _ _ _ _ h1.2.1 he
      omega
  · split at he
    · cases he
    · injection he with he; injection he with h1 h2; subst h1; simp; omega
theorem moreA_fit {W : List ObLex.T} {al : Option (St → PR)} (h : FitO W al) : ∀ s s1 s' a, s.k ≤ W.length → moreA W s = some s1 → cat W al s1 = .ok (s', a) → s.k < s'.k ∧ s'.k ≤ W.length ∧ s'.L.length + 1 ≤ s.L.length + 2 * (s'.k - s.k) ∧ s.L.length < s'.L.length := fun s s1 s' a hk hm hp => by
  unfold moreA at hm
  split at hm
  · rename_i h5
    injection hm with hm; subst hm
    have hlt : s.k < W.length := kd_in (by omega)
    have := cat_fit h (nxt s) s' a (by simp only [nxt]; omega) hp
    simp only [nxt] at this
    omega
  · cases hm
theorem alt_fit {W : List ObLex.T} {al : Option (St → PR)} (h : FitO W al) : FitC W (alt W al) := by
  intro s s' a hk he
  unfold alt at he
  cases hp : cat W al s with
  | error e => rw [hp] at he; cases he
  | ok p =>
    obtain ⟨s1, b⟩ := p
    rw [hp] at he
    dsimp only at he
    have h1 := cat_fit h s s1 b hk hp
    have h2 := rowL_fit (moreA_fit h) _ _ _ _ _ h1.2.1 he
    omega
theorem alts_fit (W : List ObLex.T) : ∀ f, FitO W (alts W f)
  | 0 => fun p hp => by cases hp
  | f + 1 => fun p hp => by
    simp only [alts, Option.some.injEq] at hp
    subst hp
    exact alt_fit (alts_fit W f)
/-! ### What stands behind a part -/
theorem repL_end (W : List ObLex.T) : ∀ (f : Nat) (s : St) (a : Int), W.length ≤ s.k + f → kd W (repL W f s a).1.k ≠ 6 ∧ kd W (repL W f s a).1.k ≠ 7
  | 0, s, a, h => by
    have : kd W s.k = 0 := by unfold kd; rw [List.getElem?_eq_none (by omega)]
    simp only [repL, this]; decide
  | f + 1, s, a, h => by
    unfold repL
    cases hw : W[s.k]? with
    | none => 
      have : kd W s.k = 0 := by unfold kd; rw [hw]
      simp only [this]; decide
    | some t =>
      have hkd : kd W s.k = t.kind := by unfold kd; rw [hw]
      dsimp only
      split
      · exact repL_end W f _ _ (by simp only [put, nxt]; omega)
      · split
        · exact repL_end W f _ _ (by simp only [put, nxt]; omega)
        · rename_i h6 h7
          simp only [hkd]; exact ⟨h6, h7⟩
theorem rowL_end {W : List ObLex.T} {kind : Int} {more : St → Option St} {part : St → PR} {P : St → Prop} (hP : ∀ s x, P s → P (put s x).1) (h : ∀ s s1 s' a, s.k ≤ W.length → more s = some s1 → part s1 = .ok (s', a) → s.k < s'.k ∧ s'.k ≤ W.length ∧ P s') (h0 : ∀ s, W.length ≤ s.k → more s = none) :
    ∀ (f : Nat) (s : St) (a : Int) (s' : St) (b : Int), s.k ≤ W.length → W.length ≤ s.k + f → P s → rowL W kind more part f s a = .ok (s', b) → more s' = none ∧ P s'
  | 0, s, a, s', b, hk, hf, hp, he => by
    simp only [rowL] at he
    injection he with he; injection he with h1 h2; subst h1
    exact ⟨h0 _ (by omega), hp⟩
  | f + 1, s, a, s', b, hk, hf, hp, he => by
    unfold rowL at he
    cases hm : more s with
    | none => rw [hm] at he; dsimp only at he; injection he with he; injection he with h1 h2; subst h1; exact ⟨hm, hp⟩
    | some s1 =>
      rw [hm] at he
      dsimp only at he
      cases hq : part s1 with
      | error e => rw [hq] at he; cases he
      | ok p =>
        obtain ⟨s2, c⟩ := p
        rw [hq] at he
        dsimp only at he
        have h1 := h s s1 s2 c hk hm hq
        exact rowL_end hP h h0 f _ _ s' b (by simp only [put]; exact h1.2.1) (by simp only [put]; omega) (hP _ _ h1.2.2) he
theorem kd_out {W : List ObLex.T} {k : Nat} (h : W.length ≤ k) : kd W k = 0 := by unfold kd; rw [List.getElem?_eq_none h]
theorem rep_end {W : List ObLex.T} {al : Option (St → PR)} {s s' : St} {a : Int} (he : rep W al s = .ok (s', a)) : kd W s'.k ≠ 6 ∧ kd W s'.k ≠ 7 := by
  unfold rep at he
  cases hp : atom W al s with
  | error e => rw [hp] at he; cases he
  | ok p =>
    rw [hp] at he
    dsimp only at he
    have h2 := repL_end W W.length p.1 p.2 (by omega)
    injection he with he
    rw [he] at h2
    exact h2
/-- Behind a cat no atom begins, and nothing is said of one. -/
theorem cat_end {W : List ObLex.T} {al : Option (St → PR)} (hf : FitO W al) {s s' : St} {a : Int} (hk : s.k ≤ W.length) (he : cat W al s = .ok (s', a)) : ¬ beg (kd W s'.k) ∧ kd W s'.k ≠ 6 ∧ kd W s'.k ≠ 7 := by
  unfold cat at he
  split at he
  · cases hp : rep W al s with
    | error e => rw [hp] at he; cases he
    | ok p =>
      obtain ⟨s1, b⟩ := p
      rw [hp] at he
      dsimp only at he
      have h1 := rep_fit hf s s1 b hk hp
      have h2 := rowL_end (P := fun s => kd W s.k ≠ 6 ∧ kd W s.k ≠ 7) (fun s x h => h) (fun s s1 s' a hk hm hp => by
        have g := moreC_fit hf s s1 s' a hk hm hp
        refine ⟨g.1, g.2.1, ?_⟩
        unfold moreC at hm
        split at hm
        · injection hm with hm; subst hm; exact rep_end hp
        · cases hm) (fun s h => by unfold moreC; rw [kd_out h]; rfl) _ _ _ _ _ h1.2.1 (by omega) (rep_end hp) he
      refine ⟨?_, h2.2⟩
      have h3 := h2.1
      unfold moreC at h3
      intro hb
      rw [if_pos hb] at h3; cases h3
  · rename_i hb
    split at he
    · cases he
    · rename_i h67
      injection he with he; injection he with h1 h2; subst h1
      exact ⟨hb, fun h => h67 (.inl h), fun h => h67 (.inr h)⟩
/-- Behind an alt stands a word that closes a group, or none. -/
theorem alt_end {W : List ObLex.T} {al : Option (St → PR)} (hf : FitO W al) (hW : ∀ t ∈ W, 1 ≤ t.kind ∧ t.kind ≤ 9) {s s' : St} {a : Int} (hk : s.k ≤ W.length) (he : alt W al s = .ok (s', a)) : kd W s'.k = 0 ∨ kd W s'.k = 4 := by
  unfold alt at he
  cases hp : cat W al s with
  | error e => rw [hp] at he; cases he
  | ok p =>
    obtain ⟨s1, b⟩ := p
    rw [hp] at he
    dsimp only at he
    have h1 := cat_fit hf s s1 b hk hp
    have h2 := rowL_end (P := fun s => ¬ beg (kd W s.k) ∧ kd W s.k ≠ 6 ∧ kd W s.k ≠ 7) (fun s x h => h) (fun s s1 s' a hk hm hp => by
      have g := moreA_fit hf s s1 s' a hk hm hp
      refine ⟨g.1, g.2.1, ?_⟩
      unfold moreA at hm
      split at hm
      · rename_i h5
        have hlt : s.k < W.length := kd_in (by omega)
        injection hm with hm; subst hm; exact cat_end hf (by simp only [nxt]; omega) hp
      · cases hm) (fun s h => by unfold moreA; rw [kd_out h]; rfl) _ _ _ _ _ h1.2.1 (by omega) (cat_end hf hk hp) he
    have h3 := h2.1
    have h5 : kd W s'.k ≠ 5 := fun h => by unfold moreA at h3; rw [if_pos h] at h3; cases h3
    have h4 := h2.2
    by_cases h0 : kd W s'.k = 0
    · exact .inl h0
    · right
      have hr : 1 ≤ kd W s'.k ∧ kd W s'.k ≤ 9 := by
        have hlt := kd_in h0
        unfold kd
        rw [List.getElem?_eq_getElem hlt]
        exact hW _ (List.getElem_mem hlt)
      unfold beg at h4
      omega
end ObParse
