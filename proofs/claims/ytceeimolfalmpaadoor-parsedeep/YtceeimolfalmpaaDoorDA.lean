/-
  A text put together piece by piece: its words are those of the pieces, where no piece begins with ? or with : (plain); ninety to a hundred and nine groups in a row, their words, and what they are parsed to.
-/
import Derived.Test.YtceeimolfalmpaaDoorOD
namespace ObLex
open ObUtf ObSets Go.Lib
open Go.Proofs.YtceeimolfalmpaaDoor (toks_bad toks_ok toks_end word_next)

section
variable {a b : ByteArray}
/-- A piece that may stand behind any text. -/
def Nice (b : ByteArray) : Prop := bt b 0 < 128 ∧ bt b 0 ≠ 63 ∧ bt b 0 ≠ 58
theorem word_nice (hn : Nice b) {i : Nat} (hi : i < a.size) {y : T × Nat} (hy : word a i = .ok y) : word (a ++ b) i = .ok y := by
  have hf : Fresh b := fun _ => .inl hn.1
  have hb : bt (a ++ b) a.size = bt b 0 := by have := bt_right a b 0; simpa using this
  revert hy
  unfold word
  dsimp only
  rw [bt_left hi, sy_left hf hi, wd_left hf hi]
  by_cases h1 : bt a i = 92
  · rw [if_pos h1, if_pos h1]
    rcases Nat.lt_or_ge (i + 1) a.size with h2 | h2
    · rw [esc_left hf h2]; exact id
    · have : esc a i = .bad 4 := by unfold esc escOf; rw [if_pos (sy_neg.2 h2)]
      rw [this]; intro h; cases h
  · rw [if_neg h1, if_neg h1]
    by_cases h2 : bt a i = 91
    · rw [if_pos h2, if_pos h2]
      cases hc : cls a i with
      | error f => intro h; cases h
      | ok y => rw [cls_left hf hc]; exact id
    · rw [if_neg h2, if_neg h2]
      by_cases h3 : bt a i = 123
      · rw [if_pos h3, if_pos h3]
        cases hc : braces a i with
        | error f => intro h; cases h
        | ok y => rw [braces_left hc]; exact id
      · rw [if_neg h3, if_neg h3]
        by_cases h40 : bt a i = 40
        · rcases Nat.lt_or_ge (i + 1) a.size with n1 | n1
          · rw [bt_left n1]
            by_cases h63 : bt a (i + 1) = 63
            · rcases Nat.lt_or_ge (i + 2) a.size with n2 | n2
              · rw [bt_left n2]; exact id
              · have e : i + 2 = a.size := by omega
                rw [if_neg (c := bt a (i + 1) = 63 ∧ bt (a ++ b) (i + 2) = 58) (fun h => by rw [e, hb] at h; exact hn.2.2 h.2), if_neg (c := bt a (i + 1) = 63 ∧ bt a (i + 2) = 58) (fun h => by have h2 := h.2; rw [bt_out (by omega)] at h2; omega)]; exact id
            · rw [if_neg (c := bt a (i + 1) = 63 ∧ bt (a ++ b) (i + 2) = 58) (fun h => h63 h.1), if_neg (c := bt a (i + 1) = 63 ∧ bt a (i + 2) = 58) (fun h => h63 h.1)]; exact id
          · have e : i + 1 = a.size := by omega
            rw [if_neg (c := bt (a ++ b) (i + 1) = 63 ∧ bt (a ++ b) (i + 2) = 58) (fun h => by rw [e, hb] at h; exact hn.2.1 h.1), if_neg (c := bt a (i + 1) = 63 ∧ bt a (i + 2) = 58) (fun h => by rw [bt_out (by omega)] at h; omega)]; exact id
        · rw [if_neg h40, if_neg h40]; exact id
theorem Run.nice (hn : Nice b) : ∀ {l : List T} {i p : Nat}, Run a i l p → p ≤ a.size → Run (a ++ b) i l p
  | [], i, p, h, _ => h
  | x :: l, i, p, h, hp => by
    obtain ⟨hi, j, hv, hij, hr⟩ := h
    exact ⟨by rw [size_cat]; omega, j, word_nice hn hi hv, hij, Run.nice hn hr hp⟩
/-- A word, moved. -/
def mvT (n : Nat) (t : T) : T := ⟨t.kind, t.at_ + n, t.set, t.mn, t.mx⟩
theorem Run.right : ∀ {l : List T} {i p : Nat}, Run b i l p → Run (a ++ b) (a.size + i) (l.map (mvT a.size)) (a.size + p)
  | [], i, p, h => by have h : p = i := h; subst h; rfl
  | x :: l, i, p, h => by
    obtain ⟨hi, j, hv, hij, hr⟩ := h
    refine ⟨by rw [size_cat]; omega, a.size + j, ?_, by omega, Run.right hr⟩
    rw [word_right, hv]
    rfl
theorem Run.app {s : ByteArray} : ∀ {l m : List T} {i p q : Nat}, Run s i l p → Run s p m q → Run s i (l ++ m) q
  | [], m, i, p, q, h, k => by have h : p = i := h; subst h; exact k
  | x :: l, m, i, p, q, h, k => by
    obtain ⟨hi, j, hv, hij, hr⟩ := h
    exact ⟨hi, j, hv, hij, Run.app hr k⟩
/-- Two texts, the second nice: their words one behind the other. -/
theorem Run.cat (hn : Nice b) {l m : List T} (h : Run a 0 l a.size) (k : Run b 0 m b.size) : Run (a ++ b) 0 (l ++ m.map (mvT a.size)) (a ++ b).size := by
  have h1 := Run.nice hn h (Nat.le_refl _)
  have h2 := Run.right (a := a) k
  rw [Nat.add_zero] at h2
  rw [size_cat]
  exact Run.app h1 h2
end
theorem Run.all {s : ByteArray} {l : List T} (h : Run s 0 l s.size) : ObLex.toks s 0 = .ok l := by
  rw [h.toks, toks_end (Nat.le_refl _)]
  simp [ObLex.pre]
end ObLex
namespace ObParse
open ObTree ObLex ObUtf
open Go.Proofs.YtceeimolfalmpaaDoor.T (AL fin outc)

abbrev pc3 : ByteArray := ⟨#[40, 97, 41]⟩
abbrev pcs : ByteArray := ⟨#[42]⟩
/-- So many groups in a row. -/
def rowT : Nat → ByteArray
  | 0 => ⟨#[]⟩
  | k + 1 => rowT k ++ pc3
def rowW : Nat → List T
  | 0 => []
  | k + 1 => rowW k ++ [⟨2, (3 * k : Nat), [], 0, 0⟩, ⟨1, (3 * k + 1 : Nat), [(97, 97)], 0, 0⟩, ⟨4, (3 * k + 2 : Nat), [], 0, 0⟩]
theorem rowT_size : ∀ k, (rowT k).size = 3 * k
  | 0 => rfl
  | k + 1 => by unfold rowT; rw [size_cat, rowT_size k]; rfl
theorem rowT_run : ∀ k, Run (rowT k) 0 (rowW k) (rowT k).size
  | 0 => rfl
  | k + 1 => by
    have h : Run pc3 0 [⟨2, 0, [], 0, 0⟩, ⟨1, 1, [(97, 97)], 0, 0⟩, ⟨4, 2, [], 0, 0⟩] pc3.size :=
      ⟨by decide, 1, by rfl, by decide, by decide, 2, by rfl, by decide, by decide, 3, by rfl, by decide, rfl⟩
    have g := Run.cat (b := pc3) ⟨by decide, by decide, by decide⟩ (rowT_run k) h
    have e : rowW k ++ [⟨2, 0, [], 0, 0⟩, ⟨1, 1, [(97, 97)], 0, 0⟩, ⟨4, 2, [], 0, 0⟩].map (mvT (rowT k).size) = rowW (k + 1) := by
      have h0 : (0 : Int) + ((3 * k : Nat) : Int) = ((3 * k : Nat) : Int) := by omega
      have h1 : (1 : Int) + ((3 * k : Nat) : Int) = ((3 * k + 1 : Nat) : Int) := by omega
      have h2 : (2 : Int) + ((3 * k : Nat) : Int) = ((3 * k + 2 : Nat) : Int) := by omega
      simp only [List.map_cons, List.map_nil, mvT, rowT_size, h0, h1, h2]
      rfl
    rw [e] at g
    exact g
/-- The text and its words, with a star behind it or without. -/
def manyT (k : Nat) (st : Bool) : ByteArray := if st then rowT k ++ pcs else rowT k
def manyW (k : Nat) (st : Bool) : List T := if st then rowW k ++ [⟨6, (3 * k : Nat), [], 0, -1⟩] else rowW k
theorem many_toks (k : Nat) (st : Bool) : toks (manyT k st) 0 = .ok (manyW k st) := by
  cases st with
  | false => exact (rowT_run k).all
  | true =>
    have h : Run pcs 0 [⟨6, 0, [], 0, -1⟩] pcs.size := ⟨by decide, 1, by rfl, by decide, rfl⟩
    have g := Run.cat (b := pcs) ⟨by decide, by decide, by decide⟩ (rowT_run k) h
    have e : rowW k ++ [⟨6, 0, [], 0, -1⟩].map (mvT (rowT k).size) = manyW k true := by
      unfold manyW mvT
      rw [rowT_size]
      simp
    rw [e] at g
    exact g.all
/-- How many groups with numbers stand ahead. -/
def capsN (L : List Nd) (i : Nat) : Nat := ((L.take i).filter (fun x => x.kind == 8)).length
/-- Groups are numbered as they stand, so many of them. -/
def PMs (L : List Nd) (i : Nat) : Prop := (∀ (j : Nat) (x : Nd), L[j]? = some x → x.kind = 8 → x.n = ((capsN L j : Nat) : Int) + 1) ∧ capsN L L.length = i
theorem capsN_in (L : List Nd) (x : Nd) {j : Nat} (h : j ≤ L.length) : capsN (L ++ [x]) j = capsN L j := by
  unfold capsN
  rw [List.take_append_of_le_length h]
theorem capsN_end (L : List Nd) (x : Nd) : capsN (L ++ [x]) (L ++ [x]).length = capsN L L.length + (if x.kind = 8 then 1 else 0) := by
  unfold capsN
  rw [List.take_length, List.take_length, List.filter_append, List.length_append]
  by_cases h : x.kind = 8
  · simp [h]
  · simp [h]
theorem PMs.nil : PMs [] 0 := ⟨fun j x h => by simp at h, rfl⟩
theorem PMs.put {L : List Nd} {i : Nat} (h : PMs L i) {x : Nd} (hx : x.kind ≠ 8) : PMs (L ++ [x]) i := by
  refine ⟨fun j y hy hk => ?_, ?_⟩
  · rcases Nat.lt_or_ge j L.length with hj | hj
    · rw [List.getElem?_append_left hj] at hy
      rw [capsN_in L x (Nat.le_of_lt hj)]
      exact h.1 j y hy hk
    · rw [List.getElem?_append_right hj] at hy
      have : y = x := by
        cases hjj : j - L.length with
        | zero => rw [hjj] at hy; simpa using hy.symm
        | succ n => rw [hjj] at hy; simp at hy
      subst this
      exact absurd hk hx
  · rw [capsN_end, if_neg hx, h.2]; omega
theorem PMs.cap {L : List Nd} {i : Nat} (h : PMs L i) {x : Nd} (hx : x.kind = 8) (hn : x.n = (i : Int) + 1) : PMs (L ++ [x]) (i + 1) := by
  refine ⟨fun j y hy hk => ?_, ?_⟩
  · rcases Nat.lt_or_ge j L.length with hj | hj
    · rw [List.getElem?_append_left hj] at hy
      rw [capsN_in L x (Nat.le_of_lt hj)]
      exact h.1 j y hy hk
    · rw [List.getElem?_append_right hj] at hy
      cases hjj : j - L.length with
      | zero =>
        rw [hjj] at hy
        have : y = x := by simpa using hy.symm
        subst this
        have e : j = L.length := by omega
        subst e
        rw [capsN_in L y (Nat.le_refl _), h.2, hn]
      | succ n => rw [hjj] at hy; simp at hy
  · rw [capsN_end, if_pos hx, h.2]
section
variable {W : List T}
theorem rowL_stop {kind : Int} {more : St → Option St} {part : St → PR} {s : St} (h : more s = none) (f : Nat) (a : Int) : rowL W kind more part f s a = .ok (s, a) := by
  cases f with
  | zero => rfl
  | succ f => unfold rowL; rw [h]
theorem repL_stop {s : St} (h6 : kd W s.k ≠ 6) (h7 : kd W s.k ≠ 7) (f : Nat) (a : Int) : repL W f s a = (s, a) := by
  cases f with
  | zero => rfl
  | succ f =>
    unfold repL
    cases hw : W[s.k]? with
    | none => rfl
    | some t =>
      have hk : kd W s.k = t.kind := by unfold kd; rw [hw]
      dsimp only
      rw [if_neg (by omega), if_neg (by omega)]
/-- A letter ahead of a word that closes a group, or of the end. -/
theorem alt_letter {j : Nat} {s : St} {t : T} (h0 : W[s.k]? = some t) (hk : t.kind = 1) (h1 : kd W (s.k + 1) = 4 ∨ kd W (s.k + 1) = 0) :
    AL W j s = .ok (⟨s.k + 1, s.L ++ [⟨2, 0, 0, t.set, 0, 0, 0⟩], s.caps⟩, (s.L.length : Int)) := by
  have hkd : kd W s.k = 1 := by unfold kd; rw [h0]; exact hk
  have hat : atom W (alts W j) s = .ok (put (nxt s) ⟨2, 0, 0, t.set, 0, 0, 0⟩) := by unfold atom; rw [h0]; dsimp only; rw [if_pos hk]
  have hrep : rep W (alts W j) s = .ok (put (nxt s) ⟨2, 0, 0, t.set, 0, 0, 0⟩) := by
    unfold rep
    rw [hat]
    dsimp only
    rw [repL_stop (by simp only [put, nxt]; omega) (by simp only [put, nxt]; omega)]
  have hcat : cat W (alts W j) s = .ok (put (nxt s) ⟨2, 0, 0, t.set, 0, 0, 0⟩) := by
    unfold cat
    rw [if_pos (by rw [hkd]; exact .inl rfl), hrep]
    dsimp only
    rw [rowL_stop (by unfold moreC; rw [if_neg]; simp only [put, nxt]; unfold beg; omega)]
  show alt W (alts W j) s = _
  unfold alt
  rw [hcat]
  dsimp only
  rw [rowL_stop (by unfold moreA; rw [if_neg]; simp only [put, nxt]; omega)]
  rfl
/-- A letter in a group with a number. -/
theorem rep_group {j : Nat} {s : St} {t0 t1 t2 : T} (h0 : W[s.k]? = some t0) (k0 : t0.kind = 2) (h1 : W[s.k + 1]? = some t1) (k1 : t1.kind = 1) (h2 : W[s.k + 2]? = some t2) (k2 : t2.kind = 4) (hc : s.caps < 99) :
    atom W (some (AL W j)) s = .ok (⟨s.k + 3, s.L ++ [⟨2, 0, 0, t1.set, 0, 0, 0⟩] ++ [⟨8, (s.L.length : Int), 0, [], 0, 0, (s.caps : Int) + 1⟩], s.caps + 1⟩, ((s.L.length + 1 : Nat) : Int)) := by
  have ha := alt_letter (j := j) (s := ⟨s.k + 1, s.L, s.caps + 1⟩) h1 k1 (.inl (by show kd W (s.k + 2) = 4; unfold kd; rw [h2]; exact k2))
  have hlt : s.k + 2 < W.length := (List.getElem?_eq_some_iff.1 h2).1
  unfold atom
  rw [h0]
  dsimp only
  rw [if_neg (by omega), if_neg (by omega), if_neg (by omega), if_pos k0, if_neg (by omega)]
  unfold grp
  simp only [if_true]
  rw [ha]
  dsimp only
  rw [if_pos hlt]
  simp only [put, nxt, List.length_append, List.length_singleton]
end
theorem rowW_len : ∀ k, (rowW k).length = 3 * k
  | 0 => rfl
  | k + 1 => by unfold rowW; rw [List.length_append, rowW_len k]; simp; omega
theorem rowW_get : ∀ (k i : Nat), i < k → (rowW k)[3 * i]? = some ⟨2, (3 * i : Nat), [], 0, 0⟩ ∧ (rowW k)[3 * i + 1]? = some ⟨1, (3 * i + 1 : Nat), [(97, 97)], 0, 0⟩ ∧ (rowW k)[3 * i + 2]? = some ⟨4, (3 * i + 2 : Nat), [], 0, 0⟩
  | 0, i, h => by omega
  | k + 1, i, h => by
    unfold rowW
    have hl := rowW_len k
    rcases Nat.lt_or_ge i k with hi | hi
    · have g := rowW_get k i hi
      rw [List.getElem?_append_left (by omega), List.getElem?_append_left (by omega), List.getElem?_append_left (by omega)]
      exact g
    · obtain rfl : i = k := by omega
      rw [List.getElem?_append_right (by omega), List.getElem?_append_right (by omega), List.getElem?_append_right (by omega), hl]
      rw [show 3 * i - 3 * i = 0 by omega, show 3 * i + 1 - 3 * i = 1 by omega, show 3 * i + 2 - 3 * i = 2 by omega]
      exact ⟨rfl, rfl, rfl⟩
theorem manyW_get (k : Nat) (st : Bool) : (manyW k st).length = 3 * k + (if st then 1 else 0) ∧ (∀ i, i < k → (manyW k st)[3 * i]? = some ⟨2, (3 * i : Nat), [], 0, 0⟩ ∧ (manyW k st)[3 * i + 1]? = some ⟨1, (3 * i + 1 : Nat), [(97, 97)], 0, 0⟩ ∧ (manyW k st)[3 * i + 2]? = some ⟨4, (3 * i + 2 : Nat), [], 0, 0⟩) ∧ (manyW k st)[3 * k]? = if st then some ⟨6, (3 * k : Nat), [], 0, -1⟩ else none := by
  have hl := rowW_len k
  cases st with
  | false =>
    refine ⟨hl, fun i hi => rowW_get k i hi, ?_⟩
    show (rowW k)[3 * k]? = none
    rw [List.getElem?_eq_none (by omega)]
  | true =>
    refine ⟨by show (rowW k ++ _).length = _; rw [List.length_append, hl]; rfl, fun i hi => ?_, ?_⟩
    · show (rowW k ++ [_])[3 * i]? = _ ∧ (rowW k ++ [_])[3 * i + 1]? = _ ∧ (rowW k ++ [_])[3 * i + 2]? = _
      rw [List.getElem?_append_left (by omega), List.getElem?_append_left (by omega), List.getElem?_append_left (by omega)]
      exact rowW_get k i hi
    · show (rowW k ++ [_])[3 * k]? = _
      rw [List.getElem?_append_right (by omega), hl, show 3 * k - 3 * k = 0 by omega]
      rfl
/-- Where so many groups have been read. -/
def Mid (k : Nat) (st : Bool) (i : Nat) (s : St) : Prop := s.k = 3 * i + (if i = k ∧ st = true then 1 else 0) ∧ s.caps = i ∧ PMs s.L i ∧ (2 ≤ i → ∃ x, s.L[s.L.length - 1]? = some x ∧ x.kind = 5)
/-- One more group. -/
theorem many_rep {k : Nat} {st : Bool} {i : Nat} {s : St} (hk : i < k) (hs : s.k = 3 * i) (hc : s.caps = i) (hp : PMs s.L i) :
    if i < 99 then ∃ s' a, rep (manyW k st) (alts (manyW k st) 64) s = .ok (s', a) ∧ s'.k = 3 * (i + 1) + (if i + 1 = k ∧ st = true then 1 else 0) ∧ s'.caps = i + 1 ∧ PMs s'.L (i + 1) else (99 ≤ i → rep (manyW k st) (alts (manyW k st) 64) s = .error (some (7, (3 * i : Nat)))) := by
  obtain ⟨hl, hg, hend⟩ := manyW_get k st
  obtain ⟨w0, w1, w2⟩ := hg i hk
  have h0 : (manyW k st)[s.k]? = some ⟨2, (3 * i : Nat), [], 0, 0⟩ := by rw [hs]; exact w0
  have h1 : (manyW k st)[s.k + 1]? = some ⟨1, (3 * i + 1 : Nat), [(97, 97)], 0, 0⟩ := by rw [hs]; exact w1
  have h2 : (manyW k st)[s.k + 2]? = some ⟨4, (3 * i + 2 : Nat), [], 0, 0⟩ := by rw [hs]; exact w2
  have hal : alts (manyW k st) 64 = some (AL (manyW k st) 63) := rfl
  split
  · rename_i h99
    have ha := rep_group (j := 63) h0 rfl h1 rfl h2 rfl (by omega)
    have hpm : PMs (s.L ++ [⟨2, 0, 0, [(97, 97)], 0, 0, 0⟩] ++ [⟨8, (s.L.length : Int), 0, [], 0, 0, (s.caps : Int) + 1⟩]) (i + 1) := PMs.cap (PMs.put hp (by show (2 : Int) ≠ 8; decide)) rfl (by show (s.caps : Int) + 1 = (i : Int) + 1; rw [hc])
    by_cases hst : i + 1 = k ∧ st = true
    · have hw3 : (manyW k st)[s.k + 3]? = some ⟨6, (3 * k : Nat), [], 0, -1⟩ := by rw [hs, show 3 * i + 3 = 3 * k by omega, hend, if_pos hst.2]
      have hlen : (manyW k st).length = s.k + 4 := by rw [hl, if_pos hst.2]; omega
      refine ⟨⟨s.k + 4, (s.L ++ [⟨2, 0, 0, [(97, 97)], 0, 0, 0⟩] ++ [⟨8, (s.L.length : Int), 0, [], 0, 0, (s.caps : Int) + 1⟩]) ++ [⟨7, ((s.L.length + 1 : Nat) : Int), 0, [], 0, -1, 0⟩], s.caps + 1⟩, ((List.length (s.L ++ [(⟨2, 0, 0, [(97, 97)], 0, 0, 0⟩ : Nd)] ++ [(⟨8, (s.L.length : Int), 0, [], 0, 0, (s.caps : Int) + 1⟩ : Nd)]) : Nat) : Int), ?_, ?_, ?_, PMs.put hpm (by show (7 : Int) ≠ 8; decide)⟩
      · unfold rep
        rw [hal, ha]
        dsimp only
        have : repL (manyW k st) (manyW k st).length ⟨s.k + 3, s.L ++ [⟨2, 0, 0, [(97, 97)], 0, 0, 0⟩] ++ [⟨8, (s.L.length : Int), 0, [], 0, 0, (s.caps : Int) + 1⟩], s.caps + 1⟩ ((s.L.length + 1 : Nat) : Int) = (put ⟨s.k + 4, s.L ++ [⟨2, 0, 0, [(97, 97)], 0, 0, 0⟩] ++ [⟨8, (s.L.length : Int), 0, [], 0, 0, (s.caps : Int) + 1⟩], s.caps + 1⟩ ⟨7, ((s.L.length + 1 : Nat) : Int), 0, [], 0, -1, 0⟩) := by
          rw [hlen]
          unfold repL
          rw [hw3]
          dsimp only
          rw [if_pos rfl]
          have hkz : kd (manyW k st) (s.k + 3 + 1) = 0 := kd_out (by omega)
          rw [repL_stop (by simp only [put, nxt]; rw [hkz]; decide) (by simp only [put, nxt]; rw [hkz]; decide)]
          rfl
        rw [this]
        rfl
      · rw [if_pos hst]; show s.k + 4 = _; omega
      · show s.caps + 1 = _; omega
    · have hk3 : kd (manyW k st) (s.k + 3) ≠ 6 ∧ kd (manyW k st) (s.k + 3) ≠ 7 := by
        rcases Nat.lt_or_ge (i + 1) k with g | g
        · have := (hg (i + 1) g).1
          unfold kd
          rw [hs, show 3 * i + 3 = 3 * (i + 1) by omega, this]
          exact ⟨by show (2 : Int) ≠ 6; decide, by show (2 : Int) ≠ 7; decide⟩
        · have e : i + 1 = k := by omega
          have hf : st = false := by cases st with | false => rfl | true => exact absurd ⟨e, rfl⟩ hst
          have : kd (manyW k st) (s.k + 3) = 0 := kd_out (by rw [hl, hf]; simp; omega)
          omega
      refine ⟨⟨s.k + 3, s.L ++ [⟨2, 0, 0, [(97, 97)], 0, 0, 0⟩] ++ [⟨8, (s.L.length : Int), 0, [], 0, 0, (s.caps : Int) + 1⟩], s.caps + 1⟩, ((s.L.length + 1 : Nat) : Int), ?_, ?_, ?_, hpm⟩
      · unfold rep
        rw [hal, ha]
        dsimp only
        rw [repL_stop hk3.1 hk3.2]
      · rw [if_neg hst]; show s.k + 3 = _; omega
      · show s.caps + 1 = _; omega
  · intro h99
    unfold rep atom
    rw [h0, hal]
    dsimp only
    rw [if_neg (by decide), if_neg (by decide), if_neg (by decide), if_pos rfl, if_pos (by omega)]
/-- What so many groups in a row are parsed to. -/
def Done (k : Nat) (st : Bool) (r : PR) : Prop := if k ≤ 99 then ∃ s' a, r = .ok (s', a) ∧ s'.k = 3 * k + (if st = true then 1 else 0) ∧ PMs s'.L k ∧ (∃ x, s'.L[s'.L.length - 1]? = some x ∧ x.kind = 5) else r = .error (some (7, 297))
theorem many_row {k : Nat} {st : Bool} (hk2 : 2 ≤ k) : ∀ (d i f : Nat) (s : St) (a : Int), k - i = d → 1 ≤ i → i ≤ k → i ≤ 99 → Mid k st i s → (manyW k st).length ≤ s.k + f →
    Done k st (rowL (manyW k st) 5 (moreC (manyW k st)) (rep (manyW k st) (alts (manyW k st) 64)) f s a)
  | 0, i, f, s, a, hd, h1, hik, h99, hm, hf => by
    have e : i = k := by omega
    subst e
    obtain ⟨m1, m2, m3, m4⟩ := hm
    have hmore : moreC (manyW i st) s = none := by
      obtain ⟨hl, _, _⟩ := manyW_get i st
      unfold moreC
      rw [if_neg]
      have : kd (manyW i st) s.k = 0 := kd_out (by rw [hl, m1]; cases st <;> simp)
      rw [this]; unfold beg; omega
    rw [rowL_stop hmore]
    unfold Done
    rw [if_pos h99]
    exact ⟨s, a, rfl, by rw [m1]; simp, m3, m4 hk2⟩
  | d + 1, i, f, s, a, hd, h1, hik, h99, hm, hf => by
    have m1 := hm.1; have m2 := hm.2.1; have m3 := hm.2.2.1
    clear hm
    have hlt : i < k := by omega
    have hs : s.k = 3 * i := by rw [m1, if_neg (by omega)]; omega
    obtain ⟨hl, hg, _⟩ := manyW_get k st
    have hmore : moreC (manyW k st) s = some s := by
      unfold moreC
      rw [if_pos]
      unfold kd
      rw [hs, (hg i hlt).1]
      exact .inr (.inr (.inr (.inl rfl)))
    obtain ⟨g, rfl⟩ : ∃ g, f = g + 1 := ⟨f - 1, by omega⟩
    have hrep := many_rep (st := st) hlt hs m2 m3
    by_cases h : i < 99
    · rw [if_pos h] at hrep
      obtain ⟨s', b, r1, r2, r3, r4⟩ := hrep
      have hstep : rowL (manyW k st) 5 (moreC (manyW k st)) (rep (manyW k st) (alts (manyW k st) 64)) (g + 1) s a = rowL (manyW k st) 5 (moreC (manyW k st)) (rep (manyW k st) (alts (manyW k st) 64)) g (put s' ⟨5, a, b, [], 0, 0, 0⟩).1 (put s' ⟨5, a, b, [], 0, 0, 0⟩).2 := by
        conv => lhs; unfold rowL
        rw [hmore]; dsimp only; rw [r1]
      rw [hstep]
      refine many_row hk2 d (i + 1) g _ _ (by omega) (by omega) (by omega) (by omega) ⟨?_, ?_, PMs.put r4 (by show (5 : Int) ≠ 8; decide), fun _ => ⟨⟨5, a, b, [], 0, 0, 0⟩, ?_, rfl⟩⟩ ?_
      · simp only [put]; exact r2
      · simp only [put]; exact r3
      · simp only [put, List.length_append, List.length_singleton, Nat.add_sub_cancel]
        rw [List.getElem?_append_right (Nat.le_refl _), Nat.sub_self]; rfl
      · simp only [put]; omega
    · rw [if_neg h] at hrep
      have e : i = 99 := by omega
      subst e
      have hstep : rowL (manyW k st) 5 (moreC (manyW k st)) (rep (manyW k st) (alts (manyW k st) 64)) (g + 1) s a = .error (some (7, 297)) := by
        unfold rowL
        rw [hmore]; dsimp only; rw [hrep (Nat.le_refl _)]; rfl
      rw [hstep]
      unfold Done
      rw [if_neg (by omega)]
/-- The nodes of so many groups in a row. -/
theorem many_fin {k : Nat} (st : Bool) (hk : 2 ≤ k) : if k ≤ 99 then ∃ s', fin (manyW k st) = .ok s' ∧ PMs s'.L k ∧ (∃ x, s'.L[s'.L.length - 1]? = some x ∧ x.kind = 5) ∧ s'.L.length ≤ 6 * k + 3 else fin (manyW k st) = .error (some (7, 297)) := by
  obtain ⟨hl, hg, hend⟩ := manyW_get k st
  have hrep := many_rep (st := st) (i := 0) (s := ⟨0, [], 0⟩) (show 0 < k by omega) rfl rfl PMs.nil
  rw [if_pos (by decide)] at hrep
  obtain ⟨s1, b, r1, r2, r3, r4⟩ := hrep
  have hb : beg (kd (manyW k st) 0) := by
    unfold kd
    rw [(hg 0 (by omega)).1]
    exact .inr (.inr (.inr (.inl rfl)))
  have hcat : cat (manyW k st) (alts (manyW k st) 64) ⟨0, [], 0⟩ = rowL (manyW k st) 5 (moreC (manyW k st)) (rep (manyW k st) (alts (manyW k st) 64)) (manyW k st).length s1 b := by
    unfold cat
    rw [if_pos hb, r1]
  have hd := many_row (st := st) hk (k - 1) 1 (manyW k st).length s1 b rfl (Nat.le_refl _) (by omega) (by decide) ⟨r2, r3, r4, fun h => by omega⟩ (by omega)
  rw [← hcat] at hd
  unfold Done at hd
  by_cases h99 : k ≤ 99
  · rw [if_pos h99] at hd ⊢
    obtain ⟨s', a, h1, h4, h2, h3⟩ := hd
    have hlen : ¬ s'.k < (manyW k st).length := by rw [hl, h4]; cases st <;> simp
    have hal : AL (manyW k st) 64 ⟨0, [], 0⟩ = .ok (s', a) := by
      show alt _ _ _ = _
      unfold alt
      rw [h1]
      dsimp only
      rw [rowL_stop (by unfold moreA; rw [if_neg]; rw [kd_out (by omega)]; decide)]
    refine ⟨s', ?_, h2, h3, by have := alt_fit (alts_fit (manyW k st) 64) ⟨0, [], 0⟩ s' a (Nat.zero_le _) hal; simp only [List.length_nil] at this; rw [hl] at this; split at this <;> omega⟩
    unfold fin
    rw [hal]
    dsimp only
    rw [if_neg hlen]
  · rw [if_neg h99] at hd ⊢
    unfold fin
    have hal : AL (manyW k st) 64 ⟨0, [], 0⟩ = .error (some (7, 297)) := by
      show alt _ _ _ = _
      unfold alt
      rw [hd]
    rw [hal]
end ObParse
