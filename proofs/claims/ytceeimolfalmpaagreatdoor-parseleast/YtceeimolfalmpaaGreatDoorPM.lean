/-
  Where a text's fault stands, and that what is put in place of it and all behind it has no fault ahead of it. Plain.
-/
import Derived.Test.YtceeimolfalmpaaGreatDoorPL
namespace ObParse
open ObTree ObLex ObUtf
open Go.Proofs.YtceeimolfalmpaaGreatDoor (FlOf word_fit)
open Go.Proofs.YtceeimolfalmpaaGreatDoor.T (AL fin outc)

/-- A part's faults are faults. -/
def Errs (p : St → PR) : Prop := ∀ s er, p s = .error (some er) → er.1 ≠ 0
def ErrsO (al : Option (St → PR)) : Prop := ∀ p, al = some p → Errs p
section
variable {W : List T}
theorem grp_errs {al : St → PR} (h : Errs al) (num : Bool) : Errs (grp W al num) := fun s er he => by
  unfold grp at he
  cases hp : al ⟨s.k + 1, s.L, if num then s.caps + 1 else s.caps⟩ with
  | error e =>
    rw [hp] at he
    have he2 : e = some er := by injection he
    subst he2
    exact h _ er hp
  | ok p =>
    obtain ⟨s1, b⟩ := p
    rw [hp] at he
    dsimp only at he
    split at he
    · split at he <;> cases he
    · cases he
theorem atom_errs {al : Option (St → PR)} (h : ErrsO al) : Errs (atom W al) := fun s er he => by
  unfold atom at he
  cases hw : W[s.k]? with
  | none => rw [hw] at he; cases he
  | some t =>
    rw [hw] at he
    dsimp only at he
    split at he
    · cases he
    · split at he
      · cases he
      · split at he
        · cases he
        · cases al with
          | none => injection he with he; injection he with he; subst he; show (6 : Int) ≠ 0; decide
          | some p =>
            dsimp only at he
            split at he
            · split at he
              · injection he with he; injection he with he; subst he; show (7 : Int) ≠ 0; decide
              · exact grp_errs (h p rfl) true s er he
            · exact grp_errs (h p rfl) false s er he
theorem rep_errs {al : Option (St → PR)} (h : ErrsO al) : Errs (rep W al) := fun s er he => by
  unfold rep at he
  cases hp : atom W al s with
  | error e =>
    rw [hp] at he
    have he2 : e = some er := by injection he
    subst he2
    exact atom_errs h s er hp
  | ok p => rw [hp] at he; cases he
theorem rowL_errs {kind : Int} {more : St → Option St} {part : St → PR} (h : Errs part) : ∀ (f : Nat) (s : St) (a : Int) (er : Int × Int), rowL W kind more part f s a = .error (some er) → er.1 ≠ 0
  | 0, s, a, er, he => by simp only [rowL] at he; cases he
  | f + 1, s, a, er, he => by
    unfold rowL at he
    cases hm : more s with
    | none => rw [hm] at he; cases he
    | some s1 =>
      rw [hm] at he
      dsimp only at he
      cases hp : part s1 with
      | error e =>
        rw [hp] at he
        have he2 : e = some er := by injection he
        subst he2
        exact h s1 er hp
      | ok p => rw [hp] at he; exact rowL_errs h f _ _ er he
theorem cat_errs {al : Option (St → PR)} (h : ErrsO al) : Errs (cat W al) := fun s er he => by
  unfold cat at he
  split at he
  · cases hp : rep W al s with
    | error e =>
      rw [hp] at he
      have he2 : e = some er := by injection he
      subst he2
      exact rep_errs h s er hp
    | ok p => rw [hp] at he; exact rowL_errs (rep_errs h) _ _ _ er he
  · split at he
    · injection he with he; injection he with he; subst he; show (4 : Int) ≠ 0; decide
    · cases he
theorem alt_errs {al : Option (St → PR)} (h : ErrsO al) : Errs (alt W al) := fun s er he => by
  unfold alt at he
  cases hp : cat W al s with
  | error e =>
    rw [hp] at he
    have he2 : e = some er := by injection he
    subst he2
    exact cat_errs h s er hp
  | ok p => rw [hp] at he; exact rowL_errs (cat_errs h) _ _ _ er he
theorem alts_errs : ∀ f, ErrsO (alts W f)
  | 0 => fun p hp => by cases hp
  | f + 1 => fun p hp => by
    simp only [alts, Option.some.injEq] at hp
    subst hp
    exact alt_errs (alts_errs f)
theorem fin_errs {er : Int × Int} (h : fin W = .error (some er)) : er.1 ≠ 0 := by
  unfold fin at h
  cases hp : AL W 64 ⟨0, [], 0⟩ with
  | error e =>
    rw [hp] at h
    have he2 : e = some er := by injection h
    subst he2
    exact alt_errs (alts_errs 64) _ er hp
  | ok p =>
    rw [hp] at h
    dsimp only at h
    split at h
    · injection h with h; injection h with h; subst h; show (4 : Int) ≠ 0; decide
    · cases h
end
theorem Run.fit {s : ByteArray} : ∀ {l : List T} {i p : Nat}, Run s i l p → i ≤ s.size → p ≤ s.size
  | [], i, p, h, hi => by have h : p = i := h; omega
  | x :: l, i, p, h, _ => by
    obtain ⟨hi, j, hv, _, hr⟩ := h
    exact Run.fit hr (word_fit hi hv)
/-- The letter behind a text's first part. -/
theorem cut_run {s t : ByteArray} {l : List T} {q : Nat} (h : Run s 0 l q) (hq : q ≤ s.size) : Run (s.extract 0 q ++ ((⟨#[97]⟩ : ByteArray) ++ t)) 0 l q := by
  obtain ⟨hp, hz⟩ := pre_extract s hq
  have h1 := Run.pre hp h (by omega)
  have h97 : bt ((⟨#[97]⟩ : ByteArray) ++ t) 0 = 97 := by rw [bt_left (show 0 < (⟨#[97]⟩ : ByteArray).size by decide)]; rfl
  exact Run.more (fun _ => .inl (by rw [h97]; omega)) h97 h1 (by omega)
/-- The place from which something else is put. -/
def lastP (W : List T) : Int := match W.getLast? with | none => 0 | some t => t.at_
theorem lastP_no {W : List T} (h : W.getLast? = none) : lastP W = 0 := by unfold lastP; rw [h]
theorem lastP_so {W : List T} {t : T} (h : W.getLast? = some t) : lastP W = t.at_ := by unfold lastP; rw [h]
def fromP (W : List T) (x a E q : Int) : Int := if x ≠ 0 ∧ E = x ∧ q = a then lastP W else q
theorem fromP_l {W : List T} {x a E q : Int} (h : x ≠ 0 ∧ E = x ∧ q = a) : fromP W x a E q = lastP W := by unfold fromP; rw [if_pos h]
theorem fromP_q {W : List T} {x a E q : Int} (h : ¬ (x ≠ 0 ∧ E = x ∧ q = a)) : fromP W x a E q = q := by unfold fromP; rw [if_neg h]
theorem least {s : ByteArray} {W : List T} {x a : Int} (hW : Ahead s W) (hx : FlOf (toks s 0) x a) :
    ((outc W x a s.size).2.1 = 0 → (outc W x a s.size).2.2 = 0) ∧
    ((outc W x a s.size).2.1 ≠ 0 → (∃ q : Nat, (outc W x a s.size).2.2 = (q : Int) ∧ q ≤ s.size) ∧ ∃ F : Nat, fromP W x a (outc W x a s.size).2.1 (outc W x a s.size).2.2 = (F : Int) ∧ F ≤ s.size ∧
      ∀ (t : ByteArray) (W' : List T) (x' a' : Int), Ahead (s.extract 0 F ++ ((⟨#[97]⟩ : ByteArray) ++ t)) W' → FlOf (toks (s.extract 0 F ++ ((⟨#[97]⟩ : ByteArray) ++ t)) 0) x' a' →
        (outc W' x' a' (s.extract 0 F ++ ((⟨#[97]⟩ : ByteArray) ++ t)).size).2.1 = 0 ∨ (F : Int) ≤ (outc W' x' a' (s.extract 0 F ++ ((⟨#[97]⟩ : ByteArray) ++ t)).size).2.2) := by
  have hxa : x ≠ 0 → ∃ p q : Nat, a = (q : Int) ∧ q < s.size ∧ Run s 0 W p ∧ p ≤ q := fun h0 => by
    rcases hW with h | ⟨e, q, p, h1, h2, h3, h4, h5⟩
    · rw [h] at hx; exact absurd hx.1 h0
    · rw [h1] at hx
      have := word_err_lt h4 h5
      exact ⟨p, q, hx.2.1, this.2, h2, h3⟩
  have hx0 : x = 0 → Run s 0 W s.size := fun h0 => by
    rcases hW with h | ⟨e, q, p, h1, _, _, _, _⟩
    · obtain ⟨p, hp⟩ := toks_run _ 0 W (Nat.le_refl _) (Nat.zero_le _) h
      have h1 := hp.stop h
      have h2 := Run.fit hp (Nat.zero_le _)
      have : p = s.size := by omega
      subst this
      exact hp
    · rw [h1] at hx; exact absurd (hx.1.symm.trans h0) hx.2.2
  have big : ∀ (F : Nat) (t : ByteArray), F ≤ s.size → (F : Int) ≤ (((s.extract 0 F ++ ((⟨#[97]⟩ : ByteArray) ++ t)).size : Nat) : Int) := fun F t hF => by
    rw [size_cat, (pre_extract s hF).2]; omega
  -- where the words' own fault is told
  have lexical : ∀ (h0 : x ≠ 0), (∀ er, fin W ≠ .error (some er)) → ∃ F : Nat, fromP W x a x a = (F : Int) ∧ F ≤ s.size ∧ ∀ (t : ByteArray) (W' : List T) (x' a' : Int), Ahead (s.extract 0 F ++ ((⟨#[97]⟩ : ByteArray) ++ t)) W' → FlOf (toks (s.extract 0 F ++ ((⟨#[97]⟩ : ByteArray) ++ t)) 0) x' a' →
        (outc W' x' a' (s.extract 0 F ++ ((⟨#[97]⟩ : ByteArray) ++ t)).size).2.1 = 0 ∨ (F : Int) ≤ (outc W' x' a' (s.extract 0 F ++ ((⟨#[97]⟩ : ByteArray) ++ t)).size).2.2 := fun h0 hne => by
    have hfp : fromP W x a x a = lastP W := fromP_l ⟨h0, rfl, rfl⟩
    rw [hfp]
    cases hl : W.getLast? with
    | none =>
      rw [lastP_no hl]
      refine ⟨0, rfl, Nat.zero_le _, fun t W' x' a' hW' hx' => ?_⟩
      rcases cut_on (k := 0) (q := 0) hW hW' (Nat.zero_le _) (by rw [List.take_zero]; rfl) hx' _ (big 0 t (Nat.zero_le _)) with h | h | ⟨er, h, _⟩
      · exact .inl h
      · exact .inr h
      · exact absurd h (hne er)
    | some tl =>
      rw [lastP_so hl]
      have hlast : W[W.length - 1]? = some tl := by rw [← hl, List.getLast?_eq_getElem?]
      obtain ⟨p, q, _, _, hrun, _⟩ := hxa h0
      obtain ⟨F, hF, hr, hFs⟩ := hrun.upto hlast
      refine ⟨F, hF, by omega, fun t W' x' a' hW' hx' => ?_⟩
      rcases cut_on (k := W.length - 1) (q := F) hW hW' (by omega) (cut_run hr (by omega)) hx' _ (big F t (by omega)) with h | h | ⟨er, h, _⟩
      · exact .inl h
      · exact .inr h
      · exact absurd h (hne er)
  cases hf : fin W with
  | ok s' =>
    by_cases h0 : x = 0
    · have ho : outc W x a s.size = (s'.L, 0, 0) := by unfold outc; rw [hf]; dsimp only; rw [if_pos h0]
      rw [ho]
      exact ⟨fun _ => rfl, fun h => absurd rfl h⟩
    · have ho : outc W x a s.size = ([], x, a) := by unfold outc; rw [hf]; dsimp only; rw [if_neg h0]
      rw [ho]
      obtain ⟨p, q, hq, hqs, _, _⟩ := hxa h0
      exact ⟨fun h => absurd h h0, fun _ => ⟨⟨q, hq, by omega⟩, lexical h0 (fun er h => by rw [hf] at h; cases h)⟩⟩
  | error er =>
    cases er with
    | none =>
      by_cases h0 : x = 0
      · have ho : outc W x a s.size = ([], 4, (s.size : Int)) := by unfold outc; rw [hf]; dsimp only; rw [if_pos h0]
        rw [ho]
        refine ⟨fun h => absurd (show (4 : Int) = 0 from h) (by decide), fun _ => ⟨⟨s.size, rfl, Nat.le_refl _⟩, s.size, ?_, Nat.le_refl _, fun t W' x' a' hW' hx' => ?_⟩⟩
        · unfold fromP; rw [if_neg (fun h => h.1 h0)]
        · rcases cut_on (k := W.length) (q := s.size) hW hW' (Nat.le_refl _) (by rw [List.take_length]; exact cut_run (hx0 h0) (Nat.le_refl _)) hx' _ (big s.size t (Nat.le_refl _)) with h | h | ⟨er, h, _⟩
          · exact .inl h
          · exact .inr h
          · rw [hf] at h; cases h
      · have ho : outc W x a s.size = ([], x, a) := by unfold outc; rw [hf]; dsimp only; rw [if_neg h0]
        rw [ho]
        obtain ⟨p, q, hq, hqs, _, _⟩ := hxa h0
        exact ⟨fun h => absurd h h0, fun _ => ⟨⟨q, hq, by omega⟩, lexical h0 (fun er h => by rw [hf] at h; cases h)⟩⟩
    | some er =>
      have ho : outc W x a s.size = ([], er.1, er.2) := by unfold outc; rw [hf]
      rw [ho]
      have hne := fin_errs hf
      obtain ⟨i, t0, h1, h2, _⟩ := fin_loc (W := W) (inj_places hW) hf
      obtain ⟨p, hrun⟩ := hW.run
      obtain ⟨F, hF, hr, hFs⟩ := hrun.upto h1
      have hi := (List.getElem?_eq_some_iff.1 h1).1
      refine ⟨fun h => absurd h hne, fun _ => ⟨⟨F, by rw [h2, hF], by omega⟩, F, ?_, by omega, fun t W' x' a' hW' hx' => ?_⟩⟩
      · have : ¬ (x ≠ 0 ∧ er.1 = x ∧ er.2 = a) := fun ⟨g1, _, g3⟩ => by
          obtain ⟨p2, q2, hq, _, hrun2, hle⟩ := hxa g1
          obtain ⟨F2, hF2, hr2, _⟩ := hrun2.upto h1
          have hsp := Run.split hr2 (m := W) hrun2
          have hlt : F2 < p2 := by
            have key : ∀ {l : List T} {i p a : Nat} {t : T}, Run s i l p → l[a]? = some t → t.at_ < (p : Int) := by
              intro l
              induction l with
              | nil => intro i p a t _ h; simp at h
              | cons x l ih =>
                intro i p a t h ht
                obtain ⟨hi, j, hv, hij, hr⟩ := h
                have hle := Run.le hr
                cases a with
                | zero => simp at ht; subst ht; have := (Go.Proofs.YtceeimolfalmpaaGreatDoor.word_next hi hv).2; omega
                | succ a => exact ih hr (by simpa using ht)
            have := key hrun2 h1
            omega
          omega
        unfold fromP; rw [if_neg this, h2, hF]
      · rcases cut_on (k := i) (q := F) hW hW' (by omega) (cut_run hr (by omega)) hx' _ (big F t (by omega)) with h | h | ⟨er2, h, i2, t2, h5, h6, h7⟩
        · exact .inl h
        · exact .inr h
        · rw [hf] at h
          have he : er = er2 := by injection h with h; injection h
          subst he
          have := inj_places hW i2 i t2 t0 h6 h1 (h7.symm.trans h2)
          omega
end ObParse
