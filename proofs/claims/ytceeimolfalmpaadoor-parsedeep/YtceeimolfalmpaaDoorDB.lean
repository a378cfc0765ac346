/-
  Groups within one another, of either kind: their words, and what they are parsed to (plain).
-/
import Derived.Test.YtceeimolfalmpaaDoorDA
namespace ObParse
open ObTree ObLex ObUtf
open Go.Proofs.YtceeimolfalmpaaDoor.T (AL fin outc)

abbrev pcO : ByteArray := ⟨#[40]⟩
abbrev pcP : ByteArray := ⟨#[40, 63, 58]⟩
abbrev pcA : ByteArray := ⟨#[97]⟩
abbrev pcC : ByteArray := ⟨#[41]⟩
def openT (fl : Nat → Bool) : Nat → ByteArray
  | 0 => ⟨#[]⟩
  | i + 1 => if fl i then openT fl i ++ pcP else openT fl i ++ pcO
def closeT : Nat → ByteArray
  | 0 => ⟨#[]⟩
  | i + 1 => closeT i ++ pcC
def openW (fl : Nat → Bool) : Nat → List T
  | 0 => []
  | i + 1 => openW fl i ++ [⟨if fl i then 3 else 2, ((openT fl i).size : Nat), [], 0, 0⟩]
def closeW : Nat → List T
  | 0 => []
  | i + 1 => closeW i ++ [⟨4, (i : Nat), [], 0, 0⟩]
/-- How many of the first groups have numbers. -/
def cpN (fl : Nat → Bool) : Nat → Nat
  | 0 => 0
  | i + 1 => if fl i then cpN fl i else cpN fl i + 1
theorem cpN_le (fl : Nat → Bool) : ∀ i, cpN fl i ≤ i
  | 0 => Nat.le_refl _
  | i + 1 => by have := cpN_le fl i; unfold cpN; split <;> omega
theorem openT_size (fl : Nat → Bool) : ∀ i, (openT fl i).size ≤ 3 * i
  | 0 => Nat.le_refl _
  | i + 1 => by
    have := openT_size fl i
    unfold openT
    split
    · rw [size_cat]; have : pcP.size = 3 := rfl; omega
    · rw [size_cat]; have : pcO.size = 1 := rfl; omega
theorem closeT_size : ∀ i, (closeT i).size = i
  | 0 => rfl
  | i + 1 => by unfold closeT; rw [size_cat, closeT_size i]; rfl
theorem openW_run (fl : Nat → Bool) : ∀ k, Run (openT fl k) 0 (openW fl k) (openT fl k).size
  | 0 => rfl
  | k + 1 => by
    have ih := openW_run fl k
    have h0 : (0 : Int) + (((openT fl k).size : Nat) : Int) = (((openT fl k).size : Nat) : Int) := by omega
    unfold openT openW
    cases hf : fl k with
    | true =>
      have g := Run.cat (b := pcP) ⟨by decide, by decide, by decide⟩ ih (m := [⟨3, 0, [], 0, 0⟩]) ⟨by decide, 3, by rfl, by decide, rfl⟩
      simp only [List.map_cons, List.map_nil, mvT, h0] at g
      simpa using g
    | false =>
      have g := Run.cat (b := pcO) ⟨by decide, by decide, by decide⟩ ih (m := [⟨2, 0, [], 0, 0⟩]) ⟨by decide, 1, by rfl, by decide, rfl⟩
      simp only [List.map_cons, List.map_nil, mvT, h0] at g
      simpa using g
theorem closeW_run : ∀ k, Run (closeT k) 0 (closeW k) (closeT k).size
  | 0 => rfl
  | k + 1 => by
    have g := Run.cat (b := pcC) ⟨by decide, by decide, by decide⟩ (closeW_run k) (m := [⟨4, 0, [], 0, 0⟩]) ⟨by decide, 1, by rfl, by decide, rfl⟩
    have h0 : (0 : Int) + ((k : Nat) : Int) = ((k : Nat) : Int) := by omega
    simp only [List.map_cons, List.map_nil, mvT, closeT_size, h0] at g
    unfold closeT closeW
    rw [size_cat, closeT_size] at *
    exact g
theorem closeT_nice (c : Nat) : Nice (closeT c) := by
  have : bt (closeT c) 0 = 41 ∨ bt (closeT c) 0 = 0 := by
    induction c with
    | zero => right; rfl
    | succ c ih =>
      left
      unfold closeT
      cases c with
      | zero => rfl
      | succ c =>
        rw [bt_left (by rw [closeT_size]; omega)]
        rcases ih with h | h
        · exact h
        · exfalso
          have h2 : bt (closeT (c + 1)) 0 = 0 := h
          revert h2
          clear h
          induction c with
          | zero => decide
          | succ c ih2 =>
            unfold closeT
            rw [bt_left (by rw [closeT_size]; omega)]
            exact ih2
  unfold Nice
  omega
/-- The whole text. -/
def deepT (fl : Nat → Bool) (k c : Nat) : ByteArray := openT fl k ++ pcA ++ closeT c
/-- What its words are. -/
structure DW (fl : Nat → Bool) (k c : Nat) (W : List T) : Prop where
  len : W.length = k + 1 + c
  op : ∀ i, i < k → W[i]? = some ⟨if fl i then 3 else 2, ((openT fl i).size : Nat), [], 0, 0⟩
  mid : ∃ t, W[k]? = some t ∧ t.kind = 1
  cl : ∀ j, j < c → ∃ t, W[k + 1 + j]? = some t ∧ t.kind = 4
theorem openW_len (fl : Nat → Bool) : ∀ k, (openW fl k).length = k
  | 0 => rfl
  | k + 1 => by unfold openW; rw [List.length_append, openW_len fl k]; rfl
theorem openW_get (fl : Nat → Bool) : ∀ (k i : Nat), i < k → (openW fl k)[i]? = some ⟨if fl i then 3 else 2, ((openT fl i).size : Nat), [], 0, 0⟩
  | 0, i, h => by omega
  | k + 1, i, h => by
    have hl := openW_len fl k
    unfold openW
    rcases Nat.lt_or_ge i k with hi | hi
    · rw [List.getElem?_append_left (by omega)]
      exact openW_get fl k i hi
    · obtain rfl : i = k := by omega
      rw [List.getElem?_append_right (by omega), hl, Nat.sub_self]
      rfl
theorem closeW_len : ∀ k, (closeW k).length = k
  | 0 => rfl
  | k + 1 => by unfold closeW; rw [List.length_append, closeW_len k]; rfl
theorem closeW_kind : ∀ (k : Nat), ∀ t ∈ closeW k, t.kind = 4
  | 0, t, h => by cases h
  | k + 1, t, h => by
    unfold closeW at h
    rcases List.mem_append.1 h with h | h
    · exact closeW_kind k t h
    · rw [List.mem_singleton.1 h]
theorem deep_toks (fl : Nat → Bool) (k c : Nat) : ∃ W, toks (deepT fl k c) 0 = .ok W ∧ DW fl k c W := by
  have g1 := Run.cat (b := pcA) ⟨by decide, by decide, by decide⟩ (openW_run fl k) (m := [⟨1, 0, [(97, 97)], 0, 0⟩]) ⟨by decide, 1, by rfl, by decide, rfl⟩
  have g2 := Run.cat (closeT_nice c) g1 (closeW_run c)
  have ho := openW_len fl k
  have hc := closeW_len c
  refine ⟨_, g2.all, ⟨?_, fun i hi => ?_, ?_, fun j hj => ?_⟩⟩
  · simp only [List.length_append, List.length_map, List.length_cons, List.length_nil]; omega
  · rw [List.append_assoc, List.getElem?_append_left (by omega)]
    exact openW_get fl k i hi
  · rw [List.append_assoc, List.getElem?_append_right (by omega), ho, Nat.sub_self]
    exact ⟨_, rfl, rfl⟩
  · have hl : (openW fl k ++ List.map (mvT (openT fl k).size) [⟨1, 0, [(97, 97)], 0, 0⟩]).length = k + 1 := by rw [List.length_append, ho]; rfl
    rw [List.getElem?_append_right (by omega), hl, show k + 1 + j - (k + 1) = j by omega, List.getElem?_map]
    have hj2 : j < (closeW c).length := by omega
    rw [List.getElem?_eq_getElem hj2]
    refine ⟨_, rfl, ?_⟩
    exact closeW_kind c ((closeW c)[j]) (List.getElem_mem hj2)
section
variable {fl : Nat → Bool} {k c : Nat} {W : List T}
theorem DW.after (h : DW fl k c W) {i : Nat} (hi : k + 1 ≤ i) : kd W i = 4 ∨ kd W i = 0 := by
  rcases Nat.lt_or_ge i (k + 1 + c) with g | g
  · obtain ⟨t, ht, hk⟩ := h.cl (i - (k + 1)) (by omega)
    rw [show k + 1 + (i - (k + 1)) = i by omega] at ht
    left; unfold kd; rw [ht]; exact hk
  · right; exact kd_out (by rw [h.len]; omega)
/-- An alt that is one atom, with nothing of note behind it. -/
theorem alt_one {al : Option (St → PR)} {s s' : St} {a : Int} (hb : beg (kd W s.k)) (ha : atom W al s = .ok (s', a)) (hn : kd W s'.k = 4 ∨ kd W s'.k = 0) : alt W al s = .ok (s', a) := by
  have hrep : rep W al s = .ok (s', a) := by
    unfold rep
    rw [ha]
    dsimp only
    rw [repL_stop (by omega) (by omega)]
  have hcat : cat W al s = .ok (s', a) := by
    unfold cat
    rw [if_pos hb, hrep]
    dsimp only
    rw [rowL_stop (by unfold moreC; rw [if_neg]; unfold beg; omega)]
  unfold alt
  rw [hcat]
  dsimp only
  rw [rowL_stop (by unfold moreA; rw [if_neg]; omega)]
theorem alt_bad {al : Option (St → PR)} {s : St} {er : Er} (hb : beg (kd W s.k)) (ha : atom W al s = .error er) : alt W al s = .error er := by
  unfold alt cat
  rw [if_pos hb]
  unfold rep
  rw [ha]
theorem DW.op3 (h : DW fl k c W) {i : Nat} (hi : i < k) (hf : fl i = true) : W[i]? = some ⟨3, ((openT fl i).size : Nat), [], 0, 0⟩ := by rw [h.op i hi, hf]; rfl
theorem DW.op2 (h : DW fl k c W) {i : Nat} (hi : i < k) (hf : fl i = false) : W[i]? = some ⟨2, ((openT fl i).size : Nat), [], 0, 0⟩ := by rw [h.op i hi, hf]; rfl
theorem DW.beg (h : DW fl k c W) {i : Nat} (hi : i < k) : ObParse.beg (kd W i) := by
  unfold kd
  rw [h.op i hi]
  show ObParse.beg (if fl i = true then 3 else 2)
  split
  · exact .inr (.inr (.inr (.inr rfl)))
  · exact .inr (.inr (.inr (.inl rfl)))
/-- Groups that are closed. -/
theorem deep_ok (h : DW fl k c W) (hk : k ≤ 64) : ∀ (d i : Nat) (s : St), k - i = d → i ≤ k → k - i ≤ c → s.k = i → s.caps = cpN fl i →
    ∃ s' a, AL W (64 - i) s = .ok (s', a) ∧ s'.k = k + 1 + (k - i) ∧ s'.caps = cpN fl k ∧ s'.L.length + cpN fl i = s.L.length + 1 + cpN fl k ∧ capsN s'.L s'.L.length + cpN fl i = capsN s.L s.L.length + cpN fl k
  | 0, i, s, hd, hik, hc, hs, hcp => by
    obtain rfl : i = k := by omega
    obtain ⟨t, ht, hk1⟩ := h.mid
    have g := alt_letter (j := 64 - i) (s := s) (by rw [hs]; exact ht) hk1 (h.after (by omega))
    refine ⟨_, _, g, by show s.k + 1 = _; omega, hcp, by simp, ?_⟩
    rw [capsN_end]
    simp
  | d + 1, i, s, hd, hik, hc, hs, hcp => by
    have hlt : i < k := by omega
    obtain ⟨j, hj⟩ : ∃ j, 64 - i = j + 1 := ⟨63 - i, by omega⟩
    have hj2 : 64 - (i + 1) = j := by omega
    have hop := h.op i hlt
    rw [hj]
    have hb : ObParse.beg (kd W s.k) := by rw [hs]; exact h.beg hlt
    have hcl := cpN_le fl i
    cases hf : fl i with
    | true =>
      have hcp1 : cpN fl (i + 1) = cpN fl i := by show (if fl i then _ else _) = _; rw [hf]; rfl
      obtain ⟨s2, a2, g1, g2, g3, g4, g5⟩ := deep_ok h hk d (i + 1) ⟨i + 1, s.L, s.caps⟩ (by omega) (by omega) (by omega) rfl (by rw [hcp1]; exact hcp)
      rw [hj2] at g1
      rw [hcp1] at g4 g5
      have hat : atom W (alts W (j + 1)) s = .ok (nxt s2, a2) := by
        unfold atom
        rw [hs, h.op3 (by omega) hf]
        dsimp only
        rw [if_neg (by decide), if_neg (by decide), if_neg (by decide), show alts W (j + 1) = some (AL W j) from rfl]
        dsimp only
        rw [if_neg (by decide)]
        unfold grp
        simp only [Bool.false_eq_true, if_false]
        rw [hs, g1]
        dsimp only
        rw [if_pos (by rw [h.len]; omega)]
      refine ⟨nxt s2, a2, alt_one hb hat (h.after (by show k + 1 ≤ s2.k + 1; omega)), by show s2.k + 1 = _; omega, g3, g4, g5⟩
    | false =>
      have hcp1 : cpN fl (i + 1) = cpN fl i + 1 := by show (if fl i then _ else _) = _; rw [hf]; rfl
      obtain ⟨s2, a2, g1, g2, g3, g4, g5⟩ := deep_ok h hk d (i + 1) ⟨i + 1, s.L, s.caps + 1⟩ (by omega) (by omega) (by omega) rfl (by rw [hcp1, ← hcp])
      rw [hj2] at g1
      rw [hcp1] at g4 g5
      have hat : atom W (alts W (j + 1)) s = .ok (put (nxt s2) ⟨8, a2, 0, [], 0, 0, (s.caps : Int) + 1⟩) := by
        unfold atom
        rw [hs, h.op2 (by omega) hf]
        dsimp only
        rw [if_neg (by decide), if_neg (by decide), if_neg (by decide), show alts W (j + 1) = some (AL W j) from rfl]
        dsimp only
        rw [if_pos rfl, if_neg (by omega)]
        unfold grp
        simp only [if_true]
        rw [hs, g1]
        dsimp only
        rw [if_pos (by rw [h.len]; omega)]
      refine ⟨_, _, alt_one hb hat (h.after (by show k + 1 ≤ s2.k + 1; omega)), by show s2.k + 1 = _; omega, g3, ?_, ?_⟩
      · show (s2.L ++ [_]).length + _ = _
        rw [List.length_append]
        dsimp only at g4
        simp only [List.length_singleton]
        omega
      · show capsN (s2.L ++ [_]) (s2.L ++ [_]).length + _ = _
        rw [capsN_end, if_pos rfl]
        dsimp only at g5
        omega
/-- The outermost group is open at the end. -/
theorem deep_open (h : DW fl k c W) (hk : k ≤ 64) (hk1 : 1 ≤ k) (hc : c + 1 = k) : AL W 64 ⟨0, [], 0⟩ = .error none := by
  have hop := h.op 0 (by omega)
  have hb : ObParse.beg (kd W 0) := h.beg (by omega)
  refine alt_bad (s := ⟨0, [], 0⟩) hb ?_
  show atom W (some (AL W 63)) ⟨0, [], 0⟩ = _
  unfold atom
  cases hf : fl 0 with
  | true =>
    obtain ⟨s2, a2, g1, g2, _⟩ := deep_ok h hk (k - 1) 1 ⟨1, [], 0⟩ rfl hk1 (by omega) rfl (by show 0 = (if fl 0 then _ else _); rw [hf]; rfl)
    show (match W[0]? with | none => _ | some t => _) = _
    rw [h.op3 (by omega) hf]
    dsimp only
    rw [if_neg (by decide), if_neg (by decide), if_neg (by decide), if_neg (by decide)]
    unfold grp
    simp only [Bool.false_eq_true, if_false]
    show (match AL W (64 - 1) ⟨1, [], 0⟩ with | .error e => _ | .ok (s', a) => _) = _
    rw [g1]
    dsimp only
    rw [if_neg (by rw [h.len]; omega)]
  | false =>
    obtain ⟨s2, a2, g1, g2, _⟩ := deep_ok h hk (k - 1) 1 ⟨1, [], 1⟩ rfl hk1 (by omega) rfl (by show 1 = (if fl 0 then _ else _); rw [hf]; rfl)
    show (match W[0]? with | none => _ | some t => _) = _
    rw [h.op2 (by omega) hf]
    dsimp only
    rw [if_neg (by decide), if_neg (by decide), if_neg (by decide), if_pos rfl, if_neg (by decide)]
    unfold grp
    simp only [if_true]
    show (match AL W (64 - 1) ⟨1, [], 1⟩ with | .error e => _ | .ok (s', a) => _) = _
    rw [g1]
    dsimp only
    rw [if_neg (by rw [h.len]; omega)]
/-- One group too deep. -/
theorem deep_bad (h : DW fl k c W) (hk : 64 < k) : ∀ (d i : Nat) (s : St), 64 - i = d → i ≤ 64 → s.k = i → s.caps ≤ i → AL W d s = .error (some (6, ((openT fl 64).size : Nat)))
  | 0, i, s, hd, hi, hs, hcp => by
    obtain rfl : i = 64 := by omega
    have hop := h.op 64 hk
    refine alt_bad (by rw [hs]; exact h.beg hk) ?_
    show atom W none s = _
    unfold atom
    cases hf : fl 64 with
    | true => rw [hs, h.op3 hk hf]; rfl
    | false => rw [hs, h.op2 hk hf]; rfl
  | d + 1, i, s, hd, hi, hs, hcp => by
    have hop := h.op i (by omega)
    refine alt_bad (by rw [hs]; exact h.beg (by omega)) ?_
    show atom W (some (AL W d)) s = _
    unfold atom
    cases hf : fl i with
    | true =>
      have ih := deep_bad h hk d (i + 1) ⟨i + 1, s.L, s.caps⟩ (by omega) (by omega) rfl (by show s.caps ≤ i + 1; omega)
      rw [hs, h.op3 (by omega) hf]
      dsimp only
      rw [if_neg (by decide), if_neg (by decide), if_neg (by decide), if_neg (by decide)]
      unfold grp
      simp only [Bool.false_eq_true, if_false]
      rw [hs, ih]
    | false =>
      have ih := deep_bad h hk d (i + 1) ⟨i + 1, s.L, s.caps + 1⟩ (by omega) (by omega) rfl (by show s.caps + 1 ≤ i + 1; omega)
      rw [hs, h.op2 (by omega) hf]
      dsimp only
      rw [if_neg (by decide), if_neg (by decide), if_neg (by decide), if_pos rfl, if_neg (by omega)]
      unfold grp
      simp only [if_true]
      rw [hs, ih]
end
theorem deep_fin (fl : Nat → Bool) (k c : Nat) (hk1 : 1 ≤ k) : ∃ W, toks (deepT fl k c) 0 = .ok W ∧
    (k ≤ 64 → c = k → ∃ s', fin W = .ok s' ∧ s'.L.length = 1 + cpN fl k ∧ capsN s'.L s'.L.length = cpN fl k) ∧
    (k ≤ 64 → c + 1 = k → fin W = .error none) ∧ (64 < k → fin W = .error (some (6, ((openT fl 64).size : Nat)))) := by
  obtain ⟨W, h1, h2⟩ := deep_toks fl k c
  refine ⟨W, h1, fun hk hc => ?_, fun hk hc => ?_, fun hk => ?_⟩
  · obtain ⟨s', a, g1, g2, g3, g4, g5⟩ := deep_ok h2 hk k 0 ⟨0, [], 0⟩ rfl (Nat.zero_le _) (by omega) rfl rfl
    refine ⟨s', ?_, ?_, ?_⟩
    · unfold fin
      show (match AL W (64 - 0) ⟨0, [], 0⟩ with | .error e => _ | .ok p => _) = _
      rw [g1]
      dsimp only
      rw [if_neg (by rw [h2.len]; omega)]
    · have : cpN fl 0 = 0 := rfl
      simp only [List.length_nil] at g4
      omega
    · have : cpN fl 0 = 0 := rfl
      have e : capsN ([] : List Nd) 0 = 0 := rfl
      simp only [List.length_nil] at g5
      omega
  · unfold fin
    rw [deep_open h2 hk hk1 hc]
  · unfold fin
    rw [deep_bad h2 hk 64 0 ⟨0, [], 0⟩ rfl (Nat.zero_le _) rfl (Nat.le_refl _)]
end ObParse
