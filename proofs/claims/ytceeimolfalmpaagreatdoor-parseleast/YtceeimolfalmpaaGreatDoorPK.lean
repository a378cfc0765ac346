/-
  What a row of words is parsed to up to a place tells only of the words up to it: two rows that agree so far are parsed alike so far. Plain.
-/
import Derived.Test.YtceeimolfalmpaaGreatDoorQY
namespace ObParse
open ObTree
open Go.Proofs.YtceeimolfalmpaaGreatDoor.T (AL fin)

/-- Two parts, over rows that agree up to word m, are alike up to it. -/
def Loc (m : Nat) (W' : List ObLex.T) (p p' : St → PR) : Prop := ∀ s, s.k ≤ W'.length →
  (∀ s' a, p' s = .ok (s', a) → s'.k ≤ m → p s = .ok (s', a)) ∧
  (∀ er, p' s = .error (some er) → ∃ i t, s.k ≤ i ∧ W'[i]? = some t ∧ er.2 = t.at_ ∧ (i ≤ m → p s = .error (some er)))
def LocO (m : Nat) (W' : List ObLex.T) (al al' : Option (St → PR)) : Prop :=
  (al = none ∧ al' = none) ∨ ∃ p p', al = some p ∧ al' = some p' ∧ Loc m W' p p'
section
variable {W W' : List ObLex.T} {m : Nat}
theorem kd_agree (hA : ∀ i, i ≤ m → W[i]? = W'[i]?) {k : Nat} (h : k ≤ m) : kd W k = kd W' k := by unfold kd; rw [hA k h]
theorem repL_loc (hA : ∀ i, i ≤ m → W[i]? = W'[i]?) : ∀ (f' f : Nat) (s : St) (a : Int), s.k ≤ W'.length → W'.length ≤ s.k + f' → W.length ≤ s.k + f → (repL W' f' s a).1.k ≤ m → repL W f s a = repL W' f' s a
  | 0, f, s, a, hk, hf', hf, hm => by
    simp only [repL] at hm
    have h1 : W[s.k]? = none := by rw [hA _ hm]; exact List.getElem?_eq_none (by omega)
    cases f with
    | zero => rfl
    | succ f => unfold repL; rw [h1]
  | f' + 1, f, s, a, hk, hf', hf, hm => by
    cases hw : W'[s.k]? with
    | none =>
      have e' : repL W' (f' + 1) s a = (s, a) := by unfold repL; rw [hw]
      rw [e'] at hm ⊢
      have h1 : W[s.k]? = none := by rw [hA _ hm]; exact hw
      cases f with
      | zero => rfl
      | succ f => unfold repL; rw [h1]
    | some t =>
      have hlt := (List.getElem?_eq_some_iff.1 hw).1
      have hsm : s.k ≤ m := Nat.le_trans (repL_fit W' (f' + 1) s a hk).1 hm
      have h1 : W[s.k]? = some t := by rw [hA _ hsm]; exact hw
      have hlt1 := (List.getElem?_eq_some_iff.1 h1).1
      obtain ⟨g, rfl⟩ : ∃ g, f = g + 1 := ⟨f - 1, by omega⟩
      revert hm
      unfold repL
      rw [hw, h1]
      dsimp only
      split
      · intro hm
        exact repL_loc hA f' g _ _ (by simp only [put, nxt]; omega) (by simp only [put, nxt]; omega) (by simp only [put, nxt]; omega) hm
      · split
        · intro hm
          exact repL_loc hA f' g _ _ (by simp only [put, nxt]; omega) (by simp only [put, nxt]; omega) (by simp only [put, nxt]; omega) hm
        · intro _; rfl
theorem grp_loc (hA : ∀ i, i ≤ m → W[i]? = W'[i]?) {p p' : St → PR} (h : Loc m W' p p') (num : Bool) {s : St} (hk : s.k < W'.length) :
    (∀ s' a, grp W' p' num s = .ok (s', a) → s'.k ≤ m → grp W p num s = .ok (s', a)) ∧ (∀ er, grp W' p' num s = .error (some er) → ∃ i t, s.k ≤ i ∧ W'[i]? = some t ∧ er.2 = t.at_ ∧ (i ≤ m → grp W p num s = .error (some er))) := by
  obtain ⟨g1, g2⟩ := h ⟨s.k + 1, s.L, if num then s.caps + 1 else s.caps⟩ (by dsimp only; omega)
  unfold grp
  cases hp : p' ⟨s.k + 1, s.L, if num then s.caps + 1 else s.caps⟩ with
  | error e =>
    dsimp only
    refine ⟨fun s' a he => (by cases he), fun er he => ?_⟩
    have he2 : e = some er := by injection he
    subst he2
    obtain ⟨i, t, h1, h2, h3, h4⟩ := g2 er hp
    dsimp only at h1
    refine ⟨i, t, by omega, h2, h3, fun hi => ?_⟩
    rw [h4 hi]
  | ok y =>
    obtain ⟨s1, b⟩ := y
    dsimp only
    refine ⟨fun s' a he hm => ?_, fun er he => ?_⟩
    · split at he
      · rename_i hl
        have hk1 : s1.k ≤ m := by
          cases num with
          | true => simp only [if_true] at he; injection he with he; injection he with h2 h3; subst h2; simp only [nxt] at hm; omega
          | false => simp only [Bool.false_eq_true, if_false] at he; injection he with he; injection he with h2 h3; subst h2; simp only [nxt] at hm; omega
        have hl1 : s1.k < W.length := by
          have := hA s1.k hk1
          rw [List.getElem?_eq_getElem hl] at this
          exact (List.getElem?_eq_some_iff.1 this).1
        rw [g1 s1 b hp hk1]
        dsimp only
        rw [if_pos hl1]
        exact he
      · cases he
    · split at he
      · split at he <;> cases he
      · cases he
theorem atom_loc (hA : ∀ i, i ≤ m → W[i]? = W'[i]?) {al al' : Option (St → PR)} (h : LocO m W' al al') (hf : FitO W' al') : Loc m W' (atom W al) (atom W' al') := by
  intro s hk
  have hfit := atom_fit hf s
  cases hw : W'[s.k]? with
  | none =>
    have e' : atom W' al' s = .error none := by unfold atom; rw [hw]
    rw [e']
    exact ⟨fun s' a he => (by cases he), fun er he => (by cases he)⟩
  | some t =>
    have hlt := (List.getElem?_eq_some_iff.1 hw).1
    refine ⟨fun s' a he hm => ?_, fun er he => ?_⟩
    · have hsm : s.k ≤ m := by have := (hfit s' a hk he).1; omega
      have h1 : W[s.k]? = some t := by rw [hA _ hsm]; exact hw
      revert he
      unfold atom
      rw [hw, h1]
      dsimp only
      split
      · exact id
      · split
        · exact id
        · split
          · exact id
          · rcases h with ⟨rfl, rfl⟩ | ⟨p, p', rfl, rfl, hp⟩
            · exact id
            · dsimp only
              split
              · split
                · exact id
                · exact fun he => (grp_loc hA hp true hlt).1 s' a he hm
              · exact fun he => (grp_loc hA hp false hlt).1 s' a he hm
    · revert he
      unfold atom
      rw [hw]
      dsimp only
      have key : ∀ e : Int, (Except.error (some (e, t.at_)) : PR) = .error (some er) → ∃ i t', s.k ≤ i ∧ W'[i]? = some t' ∧ er.2 = t'.at_ ∧ (i ≤ m → W[s.k]? = some t ∧ er = (e, t.at_)) := fun e he => by
        injection he with he; injection he with he; subst he
        exact ⟨s.k, t, Nat.le_refl _, hw, rfl, fun hi => ⟨by rw [hA _ hi]; exact hw, rfl⟩⟩
      split
      · intro he; cases he
      · split
        · intro he; cases he
        · split
          · intro he; cases he
          · rename_i c1 c8 c9
            rcases h with ⟨rfl, rfl⟩ | ⟨p, p', rfl, rfl, hp⟩
            · intro he
              obtain ⟨i, t', h1, h2, h3, h4⟩ := key 6 he
              refine ⟨i, t', h1, h2, h3, fun hi => ?_⟩
              obtain ⟨h5, rfl⟩ := h4 hi
              rw [h5]; dsimp only; rw [if_neg c1, if_neg c8, if_neg c9]
            · dsimp only
              split
              · rename_i c2
                split
                · rename_i c99
                  intro he
                  obtain ⟨i, t', h1, h2, h3, h4⟩ := key 7 he
                  refine ⟨i, t', h1, h2, h3, fun hi => ?_⟩
                  obtain ⟨h5, rfl⟩ := h4 hi
                  rw [h5]; dsimp only; rw [if_neg c1, if_neg c8, if_neg c9, if_pos c2]
                · rename_i c99
                  intro he
                  obtain ⟨i, t', h1, h2, h3, h4⟩ := (grp_loc hA hp true hlt).2 er he
                  refine ⟨i, t', h1, h2, h3, fun hi => ?_⟩
                  have h5 : W[s.k]? = some t := by rw [hA _ (by omega)]; exact hw
                  rw [h5]; dsimp only; rw [if_neg c1, if_neg c8, if_neg c9, if_pos c2]
                  exact h4 hi
              · rename_i c2
                intro he
                obtain ⟨i, t', h1, h2, h3, h4⟩ := (grp_loc hA hp false hlt).2 er he
                refine ⟨i, t', h1, h2, h3, fun hi => ?_⟩
                have h5 : W[s.k]? = some t := by rw [hA _ (by omega)]; exact hw
                rw [h5]; dsimp only; rw [if_neg c1, if_neg c8, if_neg c9, if_neg c2]
                exact h4 hi
theorem rep_loc (hA : ∀ i, i ≤ m → W[i]? = W'[i]?) {al al' : Option (St → PR)} (h : LocO m W' al al') (hf : FitO W' al') : Loc m W' (rep W al) (rep W' al') := by
  intro s hk
  obtain ⟨g1, g2⟩ := atom_loc hA h hf s hk
  have hfit := atom_fit hf s
  unfold rep
  cases hp : atom W' al' s with
  | error e =>
    dsimp only
    refine ⟨fun s' a he => (by cases he), fun er he => ?_⟩
    have he2 : e = some er := by injection he
    subst he2
    obtain ⟨i, t, h1, h2, h3, h4⟩ := g2 er hp
    exact ⟨i, t, h1, h2, h3, fun hi => by rw [h4 hi]⟩
  | ok y =>
    obtain ⟨s1, b⟩ := y
    dsimp only
    refine ⟨fun s' a he hm => ?_, fun er he => (by cases he)⟩
    have hfs := hfit s1 b hk hp
    injection he with he
    have h1 : (repL W' W'.length s1 b).1.k ≤ m := by rw [he]; exact hm
    have h2 := repL_fit W' W'.length s1 b hfs.2.1
    rw [g1 s1 b hp (by omega)]
    dsimp only
    rw [repL_loc hA W'.length W.length s1 b hfs.2.1 (by omega) (by omega) h1, he]
theorem rowL_loc (hA : ∀ i, i ≤ m → W[i]? = W'[i]?) {kind : Int} {more more' : St → Option St} {part part' : St → PR} (hmo : ∀ s, s.k ≤ m → more s = more' s) (hms : ∀ s s1, more' s = some s1 → s.k ≤ s1.k ∧ s1.k ≤ W'.length ∧ s.k < W'.length) (hlw : ∀ s s1, more s = some s1 → s.k < W.length) (hp : Loc m W' part part')
    (hfit : ∀ s s1 s' a, s.k ≤ W'.length → more' s = some s1 → part' s1 = .ok (s', a) → s.k < s'.k ∧ s'.k ≤ W'.length ∧ s'.L.length + 1 ≤ s.L.length + 2 * (s'.k - s.k) ∧ s.L.length < s'.L.length) :
    ∀ (f' : Nat) (s : St) (a : Int), s.k ≤ W'.length → W'.length ≤ s.k + f' →
    (∀ s' b, rowL W' kind more' part' f' s a = .ok (s', b) → s'.k ≤ m → ∀ f, W.length ≤ s.k + f → rowL W kind more part f s a = .ok (s', b)) ∧
    (∀ er, rowL W' kind more' part' f' s a = .error (some er) → ∃ i t, s.k ≤ i ∧ W'[i]? = some t ∧ er.2 = t.at_ ∧ (i ≤ m → ∀ f, W.length ≤ s.k + f → rowL W kind more part f s a = .error (some er)))
  | 0, s, a, hk, hf' => by
    refine ⟨fun s' b he hm f hf => ?_, fun er he => (by simp only [rowL] at he; cases he)⟩
    simp only [rowL] at he
    injection he with he; injection he with h1 h2; subst h1 h2
    cases f with
    | zero => rfl
    | succ f =>
      have : more' s = none := by
        cases hm' : more' s with
        | none => rfl
        | some s1 => have := (hms s s1 hm').2.2; omega
      unfold rowL
      rw [hmo s hm, this]
  | f' + 1, s, a, hk, hf' => by
    cases hm' : more' s with
    | none =>
      have e' : rowL W' kind more' part' (f' + 1) s a = .ok (s, a) := by unfold rowL; rw [hm']
      rw [e']
      refine ⟨fun s' b he hm f hf => ?_, fun er he => (by cases he)⟩
      injection he with he; injection he with h1 h2; subst h1 h2
      cases f with
      | zero => rfl
      | succ f => unfold rowL; rw [hmo s hm, hm']
    | some s1 =>
      obtain ⟨c1, c2, c3⟩ := hms s s1 hm'
      obtain ⟨g1, g2⟩ := hp s1 c2
      cases hq : part' s1 with
      | error e =>
        have e' : rowL W' kind more' part' (f' + 1) s a = .error e := by unfold rowL; rw [hm']; dsimp only; rw [hq]
        rw [e']
        refine ⟨fun s' b he => (by cases he), fun er he => ?_⟩
        have he2 : e = some er := by injection he
        subst he2
        obtain ⟨i, t, h1, h2, h3, h4⟩ := g2 er hq
        refine ⟨i, t, by omega, h2, h3, fun hi f hf => ?_⟩
        have hmm := (hmo s (by omega)).trans hm'
        have hl := hlw s s1 hmm
        obtain ⟨g, rfl⟩ : ∃ g, f = g + 1 := ⟨f - 1, by omega⟩
        unfold rowL
        rw [hmm]
        dsimp only
        rw [h4 hi]
      | ok y =>
        obtain ⟨s2, c⟩ := y
        have hfs := hfit s s1 s2 c hk hm' hq
        have e' : rowL W' kind more' part' (f' + 1) s a = rowL W' kind more' part' f' (put s2 ⟨kind, a, c, [], 0, 0, 0⟩).1 (put s2 ⟨kind, a, c, [], 0, 0, 0⟩).2 := by
          conv => lhs; unfold rowL
          rw [hm']; dsimp only; rw [hq]
        rw [e']
        have step : ∀ f, W.length ≤ s.k + f → s2.k ≤ m → ∃ g, W.length ≤ s2.k + g ∧ rowL W kind more part f s a = rowL W kind more part g (put s2 ⟨kind, a, c, [], 0, 0, 0⟩).1 (put s2 ⟨kind, a, c, [], 0, 0, 0⟩).2 := fun f hf hm2 => by
          have hmm := (hmo s (by omega)).trans hm'
          have hl := hlw s s1 hmm
          obtain ⟨g, rfl⟩ : ∃ g, f = g + 1 := ⟨f - 1, by omega⟩
          refine ⟨g, by omega, ?_⟩
          conv => lhs; unfold rowL
          rw [hmm]; dsimp only; rw [g1 s2 c hq hm2]
        obtain ⟨i1, i2⟩ := rowL_loc hA hmo hms hlw hp hfit f' (put s2 ⟨kind, a, c, [], 0, 0, 0⟩).1 (put s2 ⟨kind, a, c, [], 0, 0, 0⟩).2 (by simp only [put]; exact hfs.2.1) (by simp only [put]; omega)
        refine ⟨fun s' b he hm f hf => ?_, fun er he => ?_⟩
        · have hmono := (rowL_fit hfit f' _ _ s' b (by simp only [put]; exact hfs.2.1) he).1
          simp only [put] at hmono
          obtain ⟨g, hg, e⟩ := step f hf (by omega)
          rw [e]
          exact i1 s' b he hm g (by simp only [put]; exact hg)
        · obtain ⟨i, t, h1, h2, h3, h4⟩ := i2 er he
          simp only [put] at h1
          refine ⟨i, t, by omega, h2, h3, fun hi f hf => ?_⟩
          obtain ⟨g, hg, e⟩ := step f hf (by omega)
          rw [e]
          exact h4 hi g (by simp only [put]; exact hg)
theorem cat_loc (hA : ∀ i, i ≤ m → W[i]? = W'[i]?) {al al' : Option (St → PR)} (h : LocO m W' al al') (hf : FitO W' al') : Loc m W' (cat W al) (cat W' al') := by
  intro s hk
  obtain ⟨g1, g2⟩ := rep_loc hA h hf s hk
  have hfit := cat_fit hf s
  have hrow := rowL_loc hA (kind := 5) (more := moreC W) (more' := moreC W') (fun s hs => by unfold moreC; rw [kd_agree hA hs]) (fun s s1 hs => by
      unfold moreC at hs
      split at hs
      · rename_i hb
        have hl := kd_beg hb
        injection hs with hs; subst hs
        exact ⟨Nat.le_refl _, Nat.le_of_lt hl, hl⟩
      · cases hs) (fun s s1 hs => by
      unfold moreC at hs
      split at hs
      · rename_i hb; exact kd_beg hb
      · cases hs) (rep_loc hA h hf) (moreC_fit hf)
  by_cases hb : beg (kd W' s.k)
  · have e' : cat W' al' s = (match rep W' al' s with | .error e => .error e | .ok p => rowL W' 5 (moreC W') (rep W' al') W'.length p.1 p.2) := by
      unfold cat; rw [if_pos hb]; cases rep W' al' s <;> rfl
    have e0 : s.k ≤ m → cat W al s = (match rep W al s with | .error e => .error e | .ok p => rowL W 5 (moreC W) (rep W al) W.length p.1 p.2) := fun hs => by
      unfold cat; rw [kd_agree hA hs, if_pos hb]; cases rep W al s <;> rfl
    cases hp : rep W' al' s with
    | error e =>
      rw [hp] at e'
      dsimp only at e'
      rw [e']
      refine ⟨fun s' a he => (by cases he), fun er he => ?_⟩
      have he2 : e = some er := by injection he
      subst he2
      obtain ⟨i, t, h1, h2, h3, h4⟩ := g2 er hp
      exact ⟨i, t, h1, h2, h3, fun hi => by rw [e0 (by omega), h4 hi]⟩
    | ok y =>
      obtain ⟨s1, b⟩ := y
      have hf1 := rep_fit hf s s1 b hk hp
      rw [hp] at e'
      dsimp only at e'
      obtain ⟨r1, r2⟩ := hrow W'.length s1 b hf1.2.1 (by omega)
      refine ⟨fun s' a he hm => ?_, fun er he => ?_⟩
      · have hmono := rowL_fit (moreC_fit hf) _ _ _ s' a hf1.2.1 (e'.symm.trans he)
        rw [e0 (by omega), g1 s1 b hp (by omega)]
        exact r1 s' a (e'.symm.trans he) hm W.length (by omega)
      · obtain ⟨i, t, h1, h2, h3, h4⟩ := r2 er (e'.symm.trans he)
        refine ⟨i, t, by omega, h2, h3, fun hi => ?_⟩
        rw [e0 (by omega), g1 s1 b hp (by omega)]
        exact h4 hi W.length (by omega)
  · by_cases h67 : kd W' s.k = 6 ∨ kd W' s.k = 7
    · obtain ⟨t, ht⟩ : ∃ t, W'[s.k]? = some t := ⟨_, List.getElem?_eq_getElem (kd_in (by omega))⟩
      have e' : cat W' al' s = .error (some (4, t.at_)) := by unfold cat at_; rw [if_neg hb, if_pos h67, ht]
      rw [e']
      refine ⟨fun s' a he => (by cases he), fun er he => ?_⟩
      have he2 : (4, t.at_) = er := by injection he with he; injection he
      subst he2
      refine ⟨s.k, t, Nat.le_refl _, ht, rfl, fun hi => ?_⟩
      unfold cat at_
      rw [kd_agree hA hi, if_neg hb, if_pos h67, hA _ hi, ht]
    · have e' : cat W' al' s = .ok (put s ⟨1, 0, 0, [], 0, 0, 0⟩) := by unfold cat; rw [if_neg hb, if_neg h67]
      rw [e']
      refine ⟨fun s' a he hm => ?_, fun er he => (by cases he)⟩
      have hsm : s.k ≤ m := by injection he with he; injection he with h1 h2; subst h1; exact hm
      rw [← he]
      unfold cat
      rw [kd_agree hA hsm, if_neg hb, if_neg h67]
theorem alt_loc (hA : ∀ i, i ≤ m → W[i]? = W'[i]?) {al al' : Option (St → PR)} (h : LocO m W' al al') (hf : FitO W' al') : Loc m W' (alt W al) (alt W' al') := by
  intro s hk
  obtain ⟨g1, g2⟩ := cat_loc hA h hf s hk
  have hrow := rowL_loc hA (kind := 6) (more := moreA W) (more' := moreA W') (fun s hs => by unfold moreA; rw [kd_agree hA hs]) (fun s s1 hs => by
      unfold moreA at hs
      split at hs
      · rename_i h5
        have hl : s.k < W'.length := kd_in (by omega)
        injection hs with hs; subst hs
        exact ⟨Nat.le_succ _, hl, hl⟩
      · cases hs) (fun s s1 hs => by
      unfold moreA at hs
      split at hs
      · rename_i h5; exact kd_in (by omega)
      · cases hs) (cat_loc hA h hf) (moreA_fit hf)
  have e' : alt W' al' s = (match cat W' al' s with | .error e => .error e | .ok p => rowL W' 6 (moreA W') (cat W' al') W'.length p.1 p.2) := by
    unfold alt; cases cat W' al' s <;> rfl
  have e0 : alt W al s = (match cat W al s with | .error e => .error e | .ok p => rowL W 6 (moreA W) (cat W al) W.length p.1 p.2) := by
    unfold alt; cases cat W al s <;> rfl
  cases hp : cat W' al' s with
  | error e =>
    rw [hp] at e'
    dsimp only at e'
    rw [e']
    refine ⟨fun s' a he => (by cases he), fun er he => ?_⟩
    have he2 : e = some er := by injection he
    subst he2
    obtain ⟨i, t, h1, h2, h3, h4⟩ := g2 er hp
    exact ⟨i, t, h1, h2, h3, fun hi => by rw [e0, h4 hi]⟩
  | ok y =>
    obtain ⟨s1, b⟩ := y
    have hf1 := cat_fit hf s s1 b hk hp
    rw [hp] at e'
    dsimp only at e'
    obtain ⟨r1, r2⟩ := hrow W'.length s1 b hf1.2.1 (by omega)
    refine ⟨fun s' a he hm => ?_, fun er he => ?_⟩
    · have hmono := rowL_fit (moreA_fit hf) _ _ _ s' a hf1.2.1 (e'.symm.trans he)
      rw [e0, g1 s1 b hp (by omega)]
      exact r1 s' a (e'.symm.trans he) hm W.length (by omega)
    · obtain ⟨i, t, h1, h2, h3, h4⟩ := r2 er (e'.symm.trans he)
      refine ⟨i, t, by omega, h2, h3, fun hi => ?_⟩
      rw [e0, g1 s1 b hp (by omega)]
      exact h4 hi W.length (by omega)
theorem alts_loc (hA : ∀ i, i ≤ m → W[i]? = W'[i]?) : ∀ f, LocO m W' (alts W f) (alts W' f)
  | 0 => .inl ⟨rfl, rfl⟩
  | f + 1 => .inr ⟨_, _, rfl, rfl, alt_loc hA (alts_loc hA f) (alts_fit W' f)⟩
end
/-- What is parsed with a fault at a word: a row of words that agrees up to that word is parsed with the same fault. -/
theorem fin_loc {W W' : List ObLex.T} {er : Int × Int} (hinj : ∀ (i j : Nat) (u v : ObLex.T), W'[i]? = some u → W'[j]? = some v → u.at_ = v.at_ → i = j) (h : fin W' = .error (some er)) : ∃ (i : Nat) (t : ObLex.T), W'[i]? = some t ∧ er.2 = t.at_ ∧ ((∀ j, j ≤ i → W[j]? = W'[j]?) → fin W = .error (some er)) := by
  have g := fun m hA => alt_loc (m := m) (W := W) (W' := W') hA (alts_loc hA 64) (alts_fit W' 64) ⟨0, [], 0⟩ (Nat.zero_le _)
  have g0 := alt_loc (m := W'.length) (W := W') (W' := W') (fun _ _ => rfl) (alts_loc (fun _ _ => rfl) 64) (alts_fit W' 64) ⟨0, [], 0⟩ (Nat.zero_le _)
  unfold fin at h
  cases hp : AL W' 64 ⟨0, [], 0⟩ with
  | error e =>
    rw [hp] at h
    dsimp only at h
    have he2 : e = some er := by injection h
    subst he2
    obtain ⟨i, t, h1, h2, h3, _⟩ := g0.2 er hp
    refine ⟨i, t, h2, h3, fun hA => ?_⟩
    obtain ⟨i2, t2, _, k2, k3, k4⟩ := (g i hA).2 er hp
    have e := hinj i2 i t2 t k2 h2 (k3.symm.trans h3)
    have h5 := k4 (by omega)
    unfold fin AL
    rw [h5]
  | ok p =>
    obtain ⟨s1, b⟩ := p
    rw [hp] at h
    dsimp only at h
    split at h
    · rename_i hl
      have he2 : (4, at_ W' s1.k) = er := by injection h with h; injection h
      subst he2
      obtain ⟨t, ht⟩ : ∃ t, W'[s1.k]? = some t := ⟨_, List.getElem?_eq_getElem hl⟩
      refine ⟨s1.k, t, ht, by unfold at_; rw [ht], fun hA => ?_⟩
      have h1 := (g s1.k hA).1 s1 b hp (Nat.le_refl _)
      have hl1 : s1.k < W.length := by
        have := hA s1.k (Nat.le_refl _)
        rw [ht] at this
        exact (List.getElem?_eq_some_iff.1 this).1
      unfold fin AL
      rw [h1]
      dsimp only
      rw [if_pos hl1]
      unfold at_
      rw [hA s1.k (Nat.le_refl _)]
    · cases h
end ObParse
