/-
  Sets of symbols as plain lists of ranges: what a list has, which lists are normal, that a set has one normal list, and how it is made. No program.
  And, Not, Fold and how many symbols, of plain lists of ranges. No program.
  Folded lists and how many symbols a list has, of plain lists of ranges. No program.
-/
namespace ObSets
abbrev R := Int × Int

def sym (x : Int) : Bool := decide ((0 ≤ x ∧ x ≤ 55295) ∨ (57344 ≤ x ∧ x ≤ 1114111) ∨ (1114240 ≤ x ∧ x ≤ 1114367))
def nx (x : Int) : Int := if x < 0 then 0 else if x < 55295 then x + 1 else if x < 57344 then 57344 else if x < 1114111 then x + 1 else if x < 1114240 then 1114240 else if x < 1114367 then x + 1 else -1
def pv (x : Int) : Int := if 1114367 < x then 1114367 else if 1114240 < x then x - 1 else if 1114111 < x then 1114111 else if 57344 < x then x - 1 else if 55295 < x then 55295 else if 0 < x then x - 1 else -1

theorem sym_iff {x : Int} : sym x = true ↔ (0 ≤ x ∧ x ≤ 55295) ∨ (57344 ≤ x ∧ x ≤ 1114111) ∨ (1114240 ≤ x ∧ x ≤ 1114367) := by simp [sym]
theorem sym_pos {x : Int} (h : sym x = true) : 0 ≤ x ∧ x ≤ 1114367 := by rw [sym_iff] at h; omega
theorem nx_top {x : Int} : nx x = -1 ↔ 1114367 ≤ x := by
  unfold nx; (repeat' split) <;> omega
theorem nx_gt {x : Int} (h : nx x ≠ -1) : x < nx x := by
  rw [Ne, nx_top] at h; unfold nx; (repeat' split) <;> omega
theorem nx_sym {x : Int} (h : nx x ≠ -1) : sym (nx x) = true := by
  rw [Ne, nx_top] at h; rw [sym_iff]; unfold nx; (repeat' split) <;> omega
theorem nx_least {x y : Int} (hy : sym y = true) (h : x < y) : nx x ≤ y := by
  rw [sym_iff] at hy; unfold nx; (repeat' split) <;> omega
theorem nx_some {x y : Int} (hy : sym y = true) (h : x < y) : nx x ≠ -1 := by
  rw [sym_iff] at hy; rw [Ne, nx_top]; omega
theorem nx_ge {x : Int} : -1 ≤ nx x := by unfold nx; (repeat' split) <;> omega
theorem pv_bot {x : Int} : pv x = -1 ↔ x ≤ 0 := by
  unfold pv; (repeat' split) <;> omega
theorem pv_lt {x : Int} (h : pv x ≠ -1) : pv x < x := by
  rw [Ne, pv_bot] at h; unfold pv; (repeat' split) <;> omega
theorem pv_sym {x : Int} (h : pv x ≠ -1) : sym (pv x) = true := by
  rw [Ne, pv_bot] at h; rw [sym_iff]; unfold pv; (repeat' split) <;> omega
theorem pv_most {x y : Int} (hy : sym y = true) (h : y < x) : y ≤ pv x := by
  rw [sym_iff] at hy; unfold pv; (repeat' split) <;> omega
theorem nx_pv {x : Int} (hx : sym x = true) (h : 0 < x) : nx (pv x) = x := by
  rw [sym_iff] at hx; unfold pv nx; (repeat' split) <;> omega

/-- The symbols of a range. -/
def inR (r : R) (x : Int) : Bool := decide (r.1 ≤ x) && decide (x ≤ r.2)
theorem inR_iff {r : R} {x : Int} : inR r x = true ↔ r.1 ≤ x ∧ x ≤ r.2 := by simp [inR]
def has (l : List R) (x : Int) : Bool := sym x && l.any fun r => inR r x
theorem has_iff {l : List R} {x : Int} : has l x = true ↔ sym x = true ∧ ∃ r ∈ l, r.1 ≤ x ∧ x ≤ r.2 := by
  unfold has; rw [Bool.and_eq_true, List.any_eq_true]; simp only [inR_iff]
theorem has_nil (x : Int) : has [] x = false := by simp [has]
theorem has_append (a b : List R) (x : Int) : has (a ++ b) x = (has a x || has b x) := by
  unfold has; cases sym x <;> simp
theorem has_cons (r : R) (l : List R) (x : Int) : has (r :: l) x = (has [r] x || has l x) := has_append [r] l x
theorem has_sym {l : List R} {x : Int} (h : has l x = true) : sym x = true := (has_iff.1 h).1

/-- Both ends are symbols, the first not above the second. -/
def V (r : R) : Prop := sym r.1 = true ∧ sym r.2 = true ∧ r.1 ≤ r.2
/-- The second range begins behind the symbol that follows the first. -/
def ap (a b : R) : Bool := decide (nx a.2 ≠ -1) && decide (nx a.2 < b.1)
theorem ap_iff {a b : R} : ap a b = true ↔ nx a.2 ≠ -1 ∧ nx a.2 < b.1 := by simp [ap]
def Nrm (l : List R) : Prop := (∀ r ∈ l, V r) ∧ l.Pairwise fun a b => ap a b = true
theorem Nrm.nil : Nrm [] := ⟨by simp, List.Pairwise.nil⟩
theorem Nrm.tail {r : R} {l : List R} (h : Nrm (r :: l)) : Nrm l := ⟨fun q hq => h.1 q (List.mem_cons_of_mem _ hq), (List.pairwise_cons.1 h.2).2⟩
theorem Nrm.head {r : R} {l : List R} (h : Nrm (r :: l)) : V r := h.1 r (List.mem_cons_self ..)
theorem Nrm.rel {r : R} {l : List R} (h : Nrm (r :: l)) : ∀ q ∈ l, nx r.2 ≠ -1 ∧ nx r.2 < q.1 := fun q hq => ap_iff.1 ((List.pairwise_cons.1 h.2).1 q hq)
theorem Nrm.cons {r : R} {l : List R} (hv : V r) (hr : ∀ q ∈ l, nx r.2 ≠ -1 ∧ nx r.2 < q.1) (h : Nrm l) : Nrm (r :: l) :=
  ⟨fun q hq => by rcases List.mem_cons.1 hq with rfl | hq; exact hv; exact h.1 q hq, List.pairwise_cons.2 ⟨fun q hq => ap_iff.2 (hr q hq), h.2⟩⟩

theorem head_has {r : R} {l : List R} (hv : V r) : has (r :: l) r.1 = true := has_iff.2 ⟨hv.1, r, List.mem_cons_self .., Int.le_refl _, hv.2.2⟩
theorem head_least {r : R} {l : List R} (h : Nrm (r :: l)) {x : Int} (hx : has (r :: l) x = true) : r.1 ≤ x := by
  obtain ⟨_, q, hq, h1, h2⟩ := has_iff.1 hx
  rcases List.mem_cons.1 hq with rfl | hq
  · exact h1
  · have := h.rel q hq; have h3 := nx_gt this.1; have := h.head.2.2; omega
theorem tail_has {r : R} {l : List R} (h : Nrm (r :: l)) (x : Int) : has l x = true ↔ has (r :: l) x = true ∧ r.2 < x := by
  rw [has_iff, has_iff]
  constructor
  · rintro ⟨hs, q, hq, h1, h2⟩
    have := h.rel q hq; have h3 := nx_gt this.1
    exact ⟨⟨hs, q, List.mem_cons_of_mem _ hq, h1, h2⟩, by omega⟩
  · rintro ⟨⟨hs, q, hq, h1, h2⟩, h3⟩
    rcases List.mem_cons.1 hq with rfl | hq
    · omega
    · exact ⟨hs, q, hq, h1, h2⟩
theorem hi_le {r q : R} {l m : List R} (hl : Nrm (r :: l)) (hm : Nrm (q :: m)) (h1 : r.1 = q.1) (h : ∀ x, has (q :: m) x = true → has (r :: l) x = true) : q.2 ≤ r.2 := by
  apply Int.not_lt.1
  intro hlt
  have hn := nx_some hm.head.2.1 hlt
  have hg := nx_gt hn
  have hle := nx_least hm.head.2.1 hlt
  have hv := hl.head.2.2
  obtain ⟨_, p, hp, h2, h3⟩ := has_iff.1 (h (nx r.2) (has_iff.2 ⟨nx_sym hn, q, List.mem_cons_self .., by omega, hle⟩))
  rcases List.mem_cons.1 hp with rfl | hp
  · omega
  · have := hl.rel p hp; omega
/-- A set has one normal list. -/
theorem once : ∀ {l m : List R}, Nrm l → Nrm m → (∀ x, has l x = true ↔ has m x = true) → l = m
  | [], [], _, _, _ => rfl
  | [], q :: m, _, hm, h => by have := (h q.1).2 (head_has hm.head); simp [has_nil] at this
  | r :: l, [], hl, _, h => by have := (h r.1).1 (head_has hl.head); simp [has_nil] at this
  | r :: l, q :: m, hl, hm, h => by
    have h1 : r.1 = q.1 := by
      have a := head_least hm ((h r.1).1 (head_has hl.head))
      have b := head_least hl ((h q.1).2 (head_has hm.head))
      omega
    have h2 : r.2 = q.2 := by
      have a := hi_le hl hm h1 fun x => (h x).2
      have b := hi_le hm hl h1.symm fun x => (h x).1
      omega
    have e : r = q := Prod.ext h1 h2
    subst e
    congr 1
    exact once hl.tail hm.tail fun x => by rw [tail_has hl, tail_has hm, h x]

/-- A range's ends at symbols. -/
def cut (r : R) : R := (if sym r.1 = true then r.1 else nx r.1, if sym r.2 = true then r.2 else pv r.2)
def ok (r : R) : Bool := decide (0 ≤ (cut r).1) && decide ((cut r).1 ≤ (cut r).2)
theorem ok_iff {r : R} : ok r = true ↔ 0 ≤ (cut r).1 ∧ (cut r).1 ≤ (cut r).2 := by simp [ok]
theorem cut_V {r : R} (h : ok r = true) : V (cut r) := by
  rw [ok_iff] at h
  refine ⟨?_, ?_, h.2⟩
  · have h1 := h.1
    unfold cut at h1 ⊢
    simp only at h1 ⊢
    split at h1
    · rename_i hs; rw [if_pos hs]; exact hs
    · rename_i hs; rw [if_neg hs]; exact nx_sym (by omega)
  · have h1 : 0 ≤ (cut r).2 := by omega
    unfold cut at h1 ⊢
    simp only at h1 ⊢
    split at h1
    · rename_i hs; rw [if_pos hs]; exact hs
    · rename_i hs; rw [if_neg hs]; exact pv_sym (by omega)
theorem cut_in {r : R} {x : Int} (hx : sym x = true) : (r.1 ≤ x ∧ x ≤ r.2) ↔ (ok r = true ∧ (cut r).1 ≤ x ∧ x ≤ (cut r).2) := by
  have e1 : (cut r).1 ≤ x ∧ 0 ≤ (cut r).1 ↔ r.1 ≤ x := by
    unfold cut
    simp only
    split
    · rename_i hs; have := sym_pos hs; omega
    · rename_i hs
      constructor
      · rintro ⟨h1, h2⟩; have := nx_gt (x := r.1) (by omega); omega
      · intro h
        rcases Int.lt_or_eq_of_le h with h | h
        · have h1 := nx_least hx h
          have h2 := nx_some hx h
          have := sym_pos (nx_sym h2)
          omega
        · rw [h] at hs; exact absurd hx hs
  have e2 : x ≤ (cut r).2 ↔ x ≤ r.2 := by
    unfold cut
    simp only
    split
    · exact Iff.rfl
    · rename_i hs
      constructor
      · intro h1
        have h0 := sym_pos hx
        have := pv_lt (x := r.2) (by omega); omega
      · intro h
        rcases Int.lt_or_eq_of_le h with h | h
        · exact pv_most hx h
        · rw [← h] at hs; exact absurd hx hs
  rw [ok_iff]
  constructor
  · rintro ⟨h1, h2⟩
    have a := e1.2 h1
    have b := e2.2 h2
    exact ⟨⟨a.2, by omega⟩, a.1, b⟩
  · rintro ⟨⟨h1, h2⟩, h3, h4⟩
    exact ⟨e1.1 ⟨h3, h1⟩, e2.1 h4⟩
/-- The ranges that have symbols, cut. -/
def cuts (l : List R) : List R := (l.filter ok).map cut
theorem cuts_nil : cuts [] = [] := rfl
theorem cuts_append (a b : List R) : cuts (a ++ b) = cuts a ++ cuts b := by simp [cuts]
theorem cuts_one_ok {r : R} (h : ok r = true) : cuts [r] = [cut r] := by simp [cuts, h]
theorem cuts_one_no {r : R} (h : ok r = false) : cuts [r] = [] := by simp [cuts, h]
theorem cuts_len (l : List R) : (cuts l).length ≤ l.length := by
  unfold cuts; rw [List.length_map]; exact List.length_filter_le _ _
theorem cuts_V {l : List R} : ∀ r ∈ cuts l, V r := by
  intro r hr
  obtain ⟨q, hq, rfl⟩ := List.mem_map.1 hr
  exact cut_V (List.mem_filter.1 hq).2
theorem cuts_has (l : List R) (x : Int) : has (cuts l) x = has l x := by
  rw [Bool.eq_iff_iff, has_iff, has_iff]
  constructor
  · rintro ⟨hs, r, hr, h⟩
    obtain ⟨q, hq, rfl⟩ := List.mem_map.1 hr
    have hq := List.mem_filter.1 hq
    exact ⟨hs, q, hq.1, (cut_in hs).2 ⟨hq.2, h⟩⟩
  · rintro ⟨hs, r, hr, h⟩
    have := (cut_in hs).1 h
    exact ⟨hs, cut r, List.mem_map.2 ⟨r, List.mem_filter.2 ⟨hr, this.1⟩, rfl⟩, this.2⟩

/-- One range more behind a normal list: joined with its last one, or put behind it. -/
def step (out : List R) (r : R) : List R :=
  match out.getLast? with
  | none => [r]
  | some q => if ap q r = true then out ++ [r] else out.dropLast ++ [(q.1, max q.2 r.2)]
def mg (cs : List R) : List R := cs.foldl step []
theorem mg_snoc (cs : List R) (r : R) : mg (cs ++ [r]) = step (mg cs) r := by simp [mg]
theorem step_nil (r : R) : step [] r = [r] := rfl
theorem step_apart {p : List R} {q r : R} (h : ap q r = true) : step (p ++ [q]) r = p ++ [q] ++ [r] := by simp [step, h]
theorem step_join {p : List R} {q r : R} (h : ap q r = false) : step (p ++ [q]) r = p ++ [(q.1, max q.2 r.2)] := by simp [step, h]
theorem nrm_snoc {p : List R} {q : R} : Nrm (p ++ [q]) ↔ Nrm p ∧ V q ∧ ∀ a ∈ p, ap a q = true := by
  unfold Nrm
  rw [List.pairwise_append]
  simp only [List.mem_append, List.mem_singleton, List.pairwise_singleton, true_and, forall_eq]
  constructor
  · rintro ⟨h1, h2, h3⟩
    exact ⟨⟨fun r hr => h1 r (Or.inl hr), h2⟩, h1 q (Or.inr rfl), h3⟩
  · rintro ⟨⟨h1, h2⟩, h3, h4⟩
    exact ⟨fun r hr => by rcases hr with hr | rfl; exact h1 r hr; exact h3, h2, h4⟩
theorem V_max {q r : R} (hq : V q) (hr : V r) : V (q.1, max q.2 r.2) := by
  refine ⟨hq.1, ?_, ?_⟩
  · show sym (max q.2 r.2) = true
    rcases Int.le_total q.2 r.2 with h | h
    · rw [Int.max_eq_right h]; exact hr.2.1
    · rw [Int.max_eq_left h]; exact hq.2.1
  · have := hq.2.2; show q.1 ≤ max q.2 r.2; omega
theorem step_ok {out : List R} {r : R} (h : Nrm out) (hv : V r) (hlo : ∀ q ∈ out, q.1 ≤ r.1) : Nrm (step out r) ∧ (∀ q ∈ step out r, q.1 ≤ r.1) ∧ ∀ x, has (step out r) x = has (out ++ [r]) x := by
  rcases List.eq_nil_or_concat out with rfl | ⟨p, q, rfl⟩
  · rw [step_nil]
    exact ⟨nrm_snoc (p := []) (q := r) |>.2 ⟨Nrm.nil, hv, by simp⟩, by simp, fun x => rfl⟩
  · rw [List.concat_eq_append] at h hlo ⊢
    obtain ⟨hp, hq, hpq⟩ := nrm_snoc.1 h
    have hq1 : q.1 ≤ r.1 := hlo q (by simp)
    cases ha : ap q r with
    | true =>
      rw [step_apart ha]
      refine ⟨nrm_snoc.2 ⟨h, hv, fun a hm => ?_⟩, ?_, fun x => rfl⟩
      · rcases List.mem_append.1 hm with hm | hm
        · have h1 := ap_iff.1 (hpq a hm)
          have h2 := hq.2.2
          exact ap_iff.2 ⟨h1.1, by omega⟩
        · rw [List.mem_singleton.1 hm]; exact ha
      · intro a hm
        rcases List.mem_append.1 hm with hm | hm
        · exact hlo a hm
        · rw [List.mem_singleton.1 hm]; exact Int.le_refl _
    | false =>
      rw [step_join ha]
      have hna : ¬ (nx q.2 ≠ -1 ∧ nx q.2 < r.1) := fun g => by rw [ap_iff.2 g] at ha; cases ha
      refine ⟨nrm_snoc.2 ⟨hp, V_max hq hv, fun a hm => ap_iff.2 (ap_iff.1 (hpq a hm))⟩, ?_, fun x => ?_⟩
      · intro a hm
        rcases List.mem_append.1 hm with hm | hm
        · exact hlo a (List.mem_append_left _ hm)
        · rw [List.mem_singleton.1 hm]; exact hq1
      · rw [List.append_assoc, has_append, has_append]
        congr 1
        rw [Bool.eq_iff_iff, has_iff, has_iff]
        simp only [List.cons_append, List.nil_append, List.mem_cons, List.not_mem_nil, or_false, exists_eq_left, exists_eq_or_imp]
        constructor
        · rintro ⟨hs, h1, h2⟩
          refine ⟨hs, ?_⟩
          rcases (show q.2 < x ∨ x ≤ q.2 by omega) with h3 | h3
          · have h4 := nx_some hs h3
            have h5 := nx_least hs h3
            right; omega
          · left; omega
        · rintro ⟨hs, h⟩
          exact ⟨hs, by omega, by omega⟩

def Srt (l : List R) : Prop := l.Pairwise fun a b => a.1 ≤ b.1
theorem mg_ok : ∀ {n : Nat} {cs : List R}, cs.length = n → (∀ r ∈ cs, V r) → Srt cs → Nrm (mg cs) ∧ (∀ q ∈ mg cs, ∀ r, Srt (cs ++ [r]) → q.1 ≤ r.1) ∧ ∀ x, has (mg cs) x = has cs x
  | 0, cs, hn, _, _ => by
    obtain rfl := List.eq_nil_of_length_eq_zero hn
    exact ⟨Nrm.nil, by simp [mg], fun _ => rfl⟩
  | n + 1, cs, hn, hv, hs => by
    rcases List.eq_nil_or_concat cs with rfl | ⟨p, q, rfl⟩
    · simp at hn
    · rw [List.concat_eq_append] at hn hv hs ⊢
      have hps := (List.pairwise_append.1 hs).1
      obtain ⟨h1, h2, h3⟩ := mg_ok (n := n) (cs := p) (by simpa using hn) (fun r hr => hv r (by simp [hr])) hps
      obtain ⟨g1, g2, g3⟩ := step_ok h1 (hv q (by simp)) fun r hr => h2 r hr q hs
      rw [mg_snoc]
      refine ⟨g1, fun a ha r hr => ?_, fun x => ?_⟩
      · have h4 := (List.pairwise_append.1 hr).2.2 q (by simp) r (by simp)
        have := g2 a ha
        omega
      · rw [g3, has_append, has_append, h3]

/-- A range put where it stands among sorted ones: behind those with its Lo. -/
def insR (r : R) : List R → List R
  | [] => [r]
  | q :: l => if r.1 < q.1 then r :: q :: l else q :: insR r l
theorem ins_perm (r : R) : ∀ l, (insR r l).Perm (r :: l)
  | [] => List.Perm.refl _
  | q :: l => by
    unfold insR
    split
    · exact List.Perm.refl _
    · exact ((ins_perm r l).cons q).trans (List.Perm.swap r q l)
theorem ins_srt (r : R) : ∀ {l}, Srt l → Srt (insR r l)
  | [], _ => List.pairwise_singleton _ _
  | q :: l, h => by
    have hq := List.pairwise_cons.1 h
    unfold insR
    split
    · rename_i hlt
      refine List.pairwise_cons.2 ⟨fun a ha => ?_, h⟩
      rcases List.mem_cons.1 ha with rfl | ha
      · omega
      · have := hq.1 a ha; omega
    · rename_i hlt
      refine List.pairwise_cons.2 ⟨fun a ha => ?_, ins_srt r hq.2⟩
      rcases List.mem_cons.1 ((ins_perm r l).mem_iff.1 ha) with rfl | ha
      · omega
      · exact hq.1 a ha
def isort : List R → List R
  | [] => []
  | r :: l => insR r (isort l)
theorem isort_perm : ∀ l, (isort l).Perm l
  | [] => List.Perm.refl _
  | r :: l => (ins_perm r _).trans ((isort_perm l).cons r)
theorem isort_srt : ∀ l, Srt (isort l)
  | [] => List.Pairwise.nil
  | r :: l => ins_srt r (isort_srt l)
theorem has_perm {a b : List R} (h : a.Perm b) (x : Int) : has a x = has b x := by
  rw [Bool.eq_iff_iff, has_iff, has_iff]
  constructor
  · rintro ⟨hs, r, hr, g⟩; exact ⟨hs, r, h.mem_iff.1 hr, g⟩
  · rintro ⟨hs, r, hr, g⟩; exact ⟨hs, r, h.mem_iff.2 hr, g⟩

/-- The normal list of a list. -/
def nrm (l : List R) : List R := mg (isort (cuts l))
theorem nrm_ok (l : List R) : Nrm (nrm l) ∧ ∀ x, has (nrm l) x = has l x := by
  have h := mg_ok rfl (cs := isort (cuts l)) (fun r hr => cuts_V r ((isort_perm _).mem_iff.1 hr)) (isort_srt _)
  exact ⟨h.1, fun x => by rw [nrm, h.2.2, has_perm (isort_perm _), cuts_has]⟩
theorem nrm_of {l m : List R} (hm : Nrm m) (h : ∀ x, has m x = has l x) : m = nrm l :=
  once hm (nrm_ok l).1 fun x => by rw [h, (nrm_ok l).2]
theorem nrm_congr {l m : List R} (h : ∀ x, has l x = has m x) : nrm l = nrm m :=
  nrm_of (nrm_ok l).1 fun x => by rw [(nrm_ok l).2, h]
theorem nrm_iff {l m : List R} : nrm l = nrm m ↔ ∀ x, has l x = has m x := by
  constructor
  · intro h x; rw [← (nrm_ok l).2, ← (nrm_ok m).2, h]
  · exact nrm_congr
/-- Whatever sorts the cut ranges: what is made of them is the normal list. -/
theorem mg_nrm {l cs : List R} (hp : cs.Perm (cuts l)) (hs : Srt cs) : mg cs = nrm l := by
  have h := mg_ok rfl (cs := cs) (fun r hr => cuts_V r (hp.mem_iff.1 hr)) hs
  exact nrm_of h.1 fun x => by rw [h.2.2, has_perm hp, cuts_has]
theorem nrm_self {l : List R} (h : Nrm l) : nrm l = l := (nrm_of h fun _ => rfl).symm
theorem mg_len (cs : List R) : (mg cs).length ≤ cs.length := by
  suffices h : ∀ n (cs : List R), cs.length = n → (mg cs).length ≤ cs.length from h _ cs rfl
  intro n
  induction n with
  | zero => intro cs hn; obtain rfl := List.eq_nil_of_length_eq_zero hn; simp [mg]
  | succ n ih =>
    intro cs hn
    rcases List.eq_nil_or_concat cs with rfl | ⟨p, q, rfl⟩
    · simp at hn
    · rw [List.concat_eq_append] at hn ⊢
      have h1 := ih p (by simpa using hn)
      rw [mg_snoc]
      have : (step (mg p) q).length ≤ (mg p).length + 1 := by
        rcases List.eq_nil_or_concat (mg p) with e | ⟨a, b, e⟩
        · rw [e]; simp [step]
        · rw [e, List.concat_eq_append]
          cases ha : ap b q with
          | true => rw [step_apart ha]; simp
          | false => rw [step_join ha]; simp
      simp; omega
theorem nrm_len (l : List R) : (nrm l).length ≤ l.length := by
  have h1 := mg_len (isort (cuts l))
  rw [(isort_perm (cuts l)).length_eq] at h1
  have h2 := cuts_len l
  unfold nrm; omega
end ObSets

namespace ObSets

/-- What two normal lists have in common, as it comes. -/
def andW : List R → List R → List R
  | [], _ => []
  | _ :: _, [] => []
  | r :: a, q :: b =>
    (if max r.1 q.1 ≤ min r.2 q.2 then [(max r.1 q.1, min r.2 q.2)] else []) ++
      (if r.2 < q.2 then andW a (q :: b) else andW (r :: a) b)
  termination_by a b => a.length + b.length
theorem andW_nil_left (b : List R) : andW [] b = [] := by unfold andW; rfl
theorem andW_nil_right (a : List R) : andW a [] = [] := by cases a <;> (unfold andW; rfl)
theorem andW_cons (r q : R) (a b : List R) : andW (r :: a) (q :: b) = (if max r.1 q.1 ≤ min r.2 q.2 then [(max r.1 q.1, min r.2 q.2)] else []) ++ (if r.2 < q.2 then andW a (q :: b) else andW (r :: a) b) := by
  rw [andW]
theorem andW_mem : ∀ (n : Nat) (a b : List R), a.length + b.length = n → ∀ p ∈ andW a b, ∃ r ∈ a, ∃ q ∈ b, p = (max r.1 q.1, min r.2 q.2) ∧ p.1 ≤ p.2
  | 0, a, b, hn, p, hp => by
    obtain rfl : a = [] := List.eq_nil_of_length_eq_zero (by omega)
    rw [andW_nil_left] at hp; simp at hp
  | n + 1, [], b, hn, p, hp => by rw [andW_nil_left] at hp; simp at hp
  | n + 1, r :: a, [], hn, p, hp => by rw [andW_nil_right] at hp; simp at hp
  | n + 1, r :: a, q :: b, hn, p, hp => by
    rw [andW_cons] at hp
    rcases List.mem_append.1 hp with hp | hp
    · split at hp
      · rename_i h
        rw [List.mem_singleton.1 hp]
        exact ⟨r, List.mem_cons_self .., q, List.mem_cons_self .., rfl, h⟩
      · simp at hp
    · split at hp
      · obtain ⟨r', hr, q', hq, e⟩ := andW_mem n a (q :: b) (by simp at hn ⊢; omega) p hp
        exact ⟨r', List.mem_cons_of_mem _ hr, q', hq, e⟩
      · obtain ⟨r', hr, q', hq, e⟩ := andW_mem n (r :: a) b (by simp at hn ⊢; omega) p hp
        exact ⟨r', hr, q', List.mem_cons_of_mem _ hq, e⟩
theorem sym_max {x y : Int} (hx : sym x = true) (hy : sym y = true) : sym (max x y) = true := by
  rcases Int.le_total x y with h | h
  · rw [Int.max_eq_right h]; exact hy
  · rw [Int.max_eq_left h]; exact hx
theorem sym_min {x y : Int} (hx : sym x = true) (hy : sym y = true) : sym (min x y) = true := by
  rcases Int.le_total x y with h | h
  · rw [Int.min_eq_left h]; exact hx
  · rw [Int.min_eq_right h]; exact hy
theorem andW_len : ∀ (n : Nat) (a b : List R), a.length + b.length = n → (andW a b).length ≤ n
  | 0, a, b, hn => by
    obtain rfl : a = [] := List.eq_nil_of_length_eq_zero (by omega)
    rw [andW_nil_left]; simp
  | n + 1, [], b, hn => by rw [andW_nil_left]; simp
  | n + 1, r :: a, [], hn => by rw [andW_nil_right]; simp
  | n + 1, r :: a, q :: b, hn => by
    rw [andW_cons, List.length_append]
    have h1 := andW_len n a (q :: b) (by simp at hn ⊢; omega)
    have h2 := andW_len n (r :: a) b (by simp at hn ⊢; omega)
    split <;> split <;> simp <;> omega
theorem andW_ok : ∀ (n : Nat) (a b : List R), a.length + b.length = n → Nrm a → Nrm b → Nrm (andW a b) ∧ ∀ x, has (andW a b) x = true ↔ (has a x = true ∧ has b x = true)
  | 0, a, b, hn, _, _ => by
    obtain rfl : a = [] := List.eq_nil_of_length_eq_zero (by omega)
    rw [andW_nil_left]; exact ⟨Nrm.nil, fun x => by simp [has_nil]⟩
  | n + 1, [], b, hn, _, _ => by rw [andW_nil_left]; exact ⟨Nrm.nil, fun x => by simp [has_nil]⟩
  | n + 1, r :: a, [], hn, _, _ => by rw [andW_nil_right]; exact ⟨Nrm.nil, fun x => by simp [has_nil]⟩
  | n + 1, r :: a, q :: b, hn, ha, hb => by
    have hr := ha.head; have hq := hb.head
    by_cases hlt : r.2 < q.2
    · obtain ⟨h1, h2⟩ := andW_ok n a (q :: b) (by simp at hn ⊢; omega) ha.tail hb
      have key : ∀ x, has (andW a (q :: b)) x = true ∨ (sym x = true ∧ max r.1 q.1 ≤ x ∧ x ≤ min r.2 q.2) ↔ (has (r :: a) x = true ∧ has (q :: b) x = true) := by
        intro x
        rw [h2, tail_has ha]
        constructor
        · rintro (⟨⟨g1, _⟩, g2⟩ | ⟨hs, g1, g2⟩)
          · exact ⟨g1, g2⟩
          · exact ⟨has_iff.2 ⟨hs, r, List.mem_cons_self .., by omega, by omega⟩, has_iff.2 ⟨hs, q, List.mem_cons_self .., by omega, by omega⟩⟩
        · rintro ⟨g1, g2⟩
          by_cases hx : r.2 < x
          · exact Or.inl ⟨⟨g1, hx⟩, g2⟩
          · right
            have hs := has_sym g1
            have l1 := head_least ha g1
            have l2 := head_least hb g2
            exact ⟨hs, by omega, by omega⟩
      by_cases hin : max r.1 q.1 ≤ min r.2 q.2
      · rw [andW_cons, if_pos hin, if_pos hlt]
        refine ⟨Nrm.cons ⟨sym_max hr.1 hq.1, sym_min hr.2.1 hq.2.1, hin⟩ (fun p hp => ?_) h1, fun x => ?_⟩
        · obtain ⟨r', hr', q', hq', e, _⟩ := andW_mem _ _ _ rfl p hp
          have := ha.rel r' hr'
          rw [e, show min r.2 q.2 = r.2 by omega]
          exact ⟨this.1, by show nx r.2 < max r'.1 q'.1; omega⟩
        · rw [List.singleton_append, has_cons, Bool.or_eq_true, ← key, has_iff (l := [_])]
          simp only [List.mem_singleton, exists_eq_left]
          exact Or.comm
      · rw [andW_cons, if_neg hin, if_pos hlt, List.nil_append]
        refine ⟨h1, fun x => ?_⟩
        rw [← key]
        constructor
        · exact Or.inl
        · rintro (g | ⟨_, g1, g2⟩)
          · exact g
          · omega
    · obtain ⟨h1, h2⟩ := andW_ok n (r :: a) b (by simp at hn ⊢; omega) ha hb.tail
      have key : ∀ x, has (andW (r :: a) b) x = true ∨ (sym x = true ∧ max r.1 q.1 ≤ x ∧ x ≤ min r.2 q.2) ↔ (has (r :: a) x = true ∧ has (q :: b) x = true) := by
        intro x
        rw [h2, tail_has hb]
        constructor
        · rintro (⟨g1, g2, _⟩ | ⟨hs, g1, g2⟩)
          · exact ⟨g1, g2⟩
          · exact ⟨has_iff.2 ⟨hs, r, List.mem_cons_self .., by omega, by omega⟩, has_iff.2 ⟨hs, q, List.mem_cons_self .., by omega, by omega⟩⟩
        · rintro ⟨g1, g2⟩
          by_cases hx : q.2 < x
          · exact Or.inl ⟨g1, g2, hx⟩
          · right
            have hs := has_sym g1
            have l1 := head_least ha g1
            have l2 := head_least hb g2
            exact ⟨hs, by omega, by omega⟩
      by_cases hin : max r.1 q.1 ≤ min r.2 q.2
      · rw [andW_cons, if_pos hin, if_neg hlt]
        refine ⟨Nrm.cons ⟨sym_max hr.1 hq.1, sym_min hr.2.1 hq.2.1, hin⟩ (fun p hp => ?_) h1, fun x => ?_⟩
        · obtain ⟨r', hr', q', hq', e, _⟩ := andW_mem _ _ _ rfl p hp
          have := hb.rel q' hq'
          rw [e, show min r.2 q.2 = q.2 by omega]
          exact ⟨this.1, by show nx q.2 < max r'.1 q'.1; omega⟩
        · rw [List.singleton_append, has_cons, Bool.or_eq_true, ← key, has_iff (l := [_])]
          simp only [List.mem_singleton, exists_eq_left]
          exact Or.comm
      · rw [andW_cons, if_neg hin, if_neg hlt, List.nil_append]
        refine ⟨h1, fun x => ?_⟩
        rw [← key]
        constructor
        · exact Or.inl
        · rintro (g | ⟨_, g1, g2⟩)
          · exact g
          · omega

/-- What both have. -/
def andL (a b : List R) : List R := andW (nrm a) (nrm b)
theorem andL_ok (a b : List R) : Nrm (andL a b) ∧ ∀ x, has (andL a b) x = (has a x && has b x) := by
  obtain ⟨h1, h2⟩ := andW_ok _ (nrm a) (nrm b) rfl (nrm_ok a).1 (nrm_ok b).1
  refine ⟨h1, fun x => ?_⟩
  rw [Bool.eq_iff_iff, Bool.and_eq_true, andL, h2, (nrm_ok a).2, (nrm_ok b).2]
theorem andL_len (a b : List R) : (andL a b).length ≤ a.length + b.length := by
  have := andW_len _ (nrm a) (nrm b) rfl
  have h1 := nrm_len a
  have h2 := nrm_len b
  unfold andL; omega

/-- What a normal list has not, from a symbol on. -/
def notF (lo : Int) : List R → List R
  | [] => if 0 ≤ lo then [(lo, 1114367)] else []
  | r :: m => (if lo < r.1 then [(lo, pv r.1)] else []) ++ notF (nx r.2) m
theorem notF_len : ∀ (m : List R) (lo : Int), (notF lo m).length ≤ m.length + 1
  | [], lo => by unfold notF; split <;> simp
  | r :: m, lo => by
    have := notF_len m (nx r.2)
    unfold notF; rw [List.length_append]; split <;> simp <;> omega
theorem notF_ok : ∀ (m : List R) (lo : Int), Nrm m → (lo = -1 ∧ m = [] ∨ sym lo = true ∧ ∀ r ∈ m, lo ≤ r.1) →
    Nrm (notF lo m) ∧ (∀ p ∈ notF lo m, lo ≤ p.1) ∧ ∀ x, has (notF lo m) x = true ↔ (sym x = true ∧ 0 ≤ lo ∧ lo ≤ x ∧ has m x = false)
  | [], lo, _, h => by
    rcases h with ⟨rfl, _⟩ | ⟨hs, _⟩
    · unfold notF; rw [if_neg (by omega)]
      exact ⟨Nrm.nil, by simp, fun x => by simp [has_nil]⟩
    · have h0 := sym_pos hs
      unfold notF; rw [if_pos h0.1]
      refine ⟨Nrm.cons ⟨hs, show sym 1114367 = true from by decide, h0.2⟩ (by simp) Nrm.nil, by simp, fun x => ?_⟩
      rw [has_iff]
      simp only [List.mem_singleton, exists_eq_left, has_nil, and_true]
      constructor
      · rintro ⟨g1, g2, g3⟩; exact ⟨g1, h0.1, g2⟩
      · rintro ⟨g1, g2, g3⟩; exact ⟨g1, g3, (sym_pos g1).2⟩
  | r :: m, lo, hm, h => by
    rcases h with ⟨_, h⟩ | ⟨hs, h⟩
    · cases h
    have h0 := sym_pos hs
    have hr := hm.head
    have hlo : lo ≤ r.1 := h r (List.mem_cons_self ..)
    have hcase : nx r.2 = -1 ∧ m = [] ∨ sym (nx r.2) = true ∧ ∀ q ∈ m, nx r.2 ≤ q.1 := by
      by_cases hn : nx r.2 = -1
      · left; refine ⟨hn, ?_⟩
        cases m with
        | nil => rfl
        | cons q m => exact absurd hn (hm.rel q (List.mem_cons_self ..)).1
      · right; exact ⟨nx_sym hn, fun q hq => by have := hm.rel q hq; omega⟩
    obtain ⟨h1, h2, h3⟩ := notF_ok m (nx r.2) hm.tail hcase
    have hge : ∀ p ∈ notF (nx r.2) m, nx r.2 ≠ -1 ∧ nx r.2 ≤ p.1 := by
      intro p hp
      refine ⟨fun e => ?_, h2 p hp⟩
      rcases hcase with ⟨_, rfl⟩ | ⟨hs2, _⟩
      · rw [e] at hp; unfold notF at hp; rw [if_neg (by omega)] at hp; simp at hp
      · rw [e] at hs2; have := sym_pos hs2; omega
    have later : ∀ x, has (notF (nx r.2) m) x = true ↔ (sym x = true ∧ r.2 < x ∧ has m x = false) := by
      intro x
      rw [h3]
      constructor
      · rintro ⟨g1, g2, g3, g4⟩
        have := nx_gt (x := r.2) (by omega)
        exact ⟨g1, by omega, g4⟩
      · rintro ⟨g1, g2, g3⟩
        have n1 := nx_some g1 g2
        have n2 := nx_least g1 g2
        have := sym_pos (nx_sym n1)
        exact ⟨g1, this.1, n2, g3⟩
    have hmem : ∀ x, sym x = true → (has (r :: m) x = false ↔ (x < r.1 ∨ (r.2 < x ∧ has m x = false))) := by
      intro x hx
      constructor
      · intro g
        rw [has_cons, Bool.or_eq_false_iff] at g
        rcases (show x < r.1 ∨ (r.1 ≤ x ∧ x ≤ r.2) ∨ r.2 < x by omega) with g1 | g1 | g1
        · exact Or.inl g1
        · have := has_iff.2 ⟨hx, r, List.mem_singleton.2 rfl, g1⟩
          rw [g.1] at this; cases this
        · exact Or.inr ⟨g1, g.2⟩
      · intro g
        rw [Bool.eq_false_iff]; intro g2
        rcases g with g | ⟨g, g3⟩
        · have := head_least hm g2; omega
        · have := (tail_has hm x).2 ⟨g2, g⟩
          rw [g3] at this; cases this
    by_cases hlt : lo < r.1
    · have hp0 : pv r.1 ≠ -1 := by rw [Ne, pv_bot]; omega
      have hps := pv_sym hp0
      have hplt := pv_lt hp0
      have hpge := pv_most hs hlt
      unfold notF; rw [if_pos hlt]
      refine ⟨Nrm.cons ⟨hs, hps, hpge⟩ (fun p hp => ?_) h1, ?_, fun x => ?_⟩
      · have g := hge p hp
        have hg := nx_gt g.1
        have hv := hr.2.2
        show nx (pv r.1) ≠ -1 ∧ nx (pv r.1) < p.1
        rw [nx_pv hr.1 (by omega)]
        exact ⟨by omega, by omega⟩
      · intro p hp
        rcases List.mem_append.1 hp with hp | hp
        · rw [List.mem_singleton.1 hp]; exact Int.le_refl _
        · have g := hge p hp; have hg := nx_gt g.1; have := hr.2.2; omega
      · rw [List.singleton_append, has_cons, Bool.or_eq_true, later, has_iff]
        simp only [List.mem_singleton, exists_eq_left]
        constructor
        · rintro (⟨g1, g2, g3⟩ | ⟨g1, g2, g3⟩)
          · exact ⟨g1, h0.1, g2, (hmem x g1).2 (Or.inl (by omega))⟩
          · have := hr.2.2
            exact ⟨g1, h0.1, by omega, (hmem x g1).2 (Or.inr ⟨g2, g3⟩)⟩
        · rintro ⟨g1, _, g3, g4⟩
          rcases (hmem x g1).1 g4 with g | g
          · exact Or.inl ⟨g1, g3, pv_most g1 g⟩
          · exact Or.inr ⟨g1, g⟩
    · unfold notF; rw [if_neg hlt, List.nil_append]
      refine ⟨h1, fun p hp => ?_, fun x => ?_⟩
      · have g := hge p hp; have hg := nx_gt g.1; have := hr.2.2; omega
      · rw [later]
        constructor
        · rintro ⟨g1, g2, g3⟩
          have := hr.2.2
          exact ⟨g1, h0.1, by omega, (hmem x g1).2 (Or.inr ⟨g2, g3⟩)⟩
        · rintro ⟨g1, _, g3, g4⟩
          rcases (hmem x g1).1 g4 with g | g
          · omega
          · exact ⟨g1, g⟩
/-- What a list has not. -/
def notL (l : List R) : List R := notF 0 (nrm l)
theorem notL_ok (l : List R) : Nrm (notL l) ∧ ∀ x, has (notL l) x = (sym x && !has l x) := by
  obtain ⟨h1, _, h3⟩ := notF_ok (nrm l) 0 (nrm_ok l).1 (Or.inr ⟨by decide, fun r hr => (sym_pos ((nrm_ok l).1.1 r hr).1).1⟩)
  refine ⟨h1, fun x => ?_⟩
  rw [Bool.eq_iff_iff, notL, h3, (nrm_ok l).2]
  simp only [Bool.and_eq_true, Bool.not_eq_true']
  constructor
  · rintro ⟨g1, _, _, g4⟩; exact ⟨g1, g4⟩
  · rintro ⟨g1, g2⟩; exact ⟨g1, by omega, (sym_pos g1).1, g2⟩
theorem notL_len (l : List R) : (notL l).length ≤ l.length + 1 := by
  have := notF_len (nrm l) 0
  have h1 := nrm_len l
  unfold notL; omega
end ObSets

namespace ObSets

def mv (d : Int) (r : R) : R := (r.1 + d, r.2 + d)
/-- What one of both has. -/
def orL (a b : List R) : List R := nrm (a ++ b)
theorem orL_ok (a b : List R) : Nrm (orL a b) ∧ ∀ x, has (orL a b) x = (has a x || has b x) := ⟨(nrm_ok _).1, fun x => by rw [orL, (nrm_ok _).2, has_append]⟩
theorem orL_len (a b : List R) : (orL a b).length ≤ a.length + b.length := by have := nrm_len (a ++ b); simpa [orL] using this
/-- Folded: a letter of either case with that of the other. -/
def fd (l : List R) (x : Int) : Bool := has l x || (decide (65 ≤ x ∧ x ≤ 90) && has l (x + 32)) || (decide (97 ≤ x ∧ x ≤ 122) && has l (x - 32))
theorem sym_small {x : Int} (h0 : 0 ≤ x) (h : x ≤ 1000) : sym x = true := by rw [sym_iff]; omega
theorem within {n : List R} {lo hi : Int} {r : R} (hr : r ∈ andL n [(lo, hi)]) : V r ∧ lo ≤ r.1 ∧ r.2 ≤ hi ∧ ∀ x, sym x = true → r.1 ≤ x → x ≤ r.2 → has n x = true := by
  obtain ⟨h1, h2⟩ := andL_ok n [(lo, hi)]
  have hv := h1.1 r hr
  have g : ∀ x, sym x = true → r.1 ≤ x → x ≤ r.2 → has n x = true ∧ lo ≤ x ∧ x ≤ hi := by
    intro x hs a b
    have := h2 x
    rw [has_iff.2 ⟨hs, r, hr, a, b⟩] at this
    have := Bool.and_eq_true_iff.1 this.symm
    obtain ⟨_, q, hq, e⟩ := has_iff.1 this.2
    rw [List.mem_singleton.1 hq] at e
    exact ⟨this.1, e.1, e.2⟩
  exact ⟨hv, (g r.1 hv.1 (Int.le_refl _) hv.2.2).2.1, (g r.2 hv.2.1 hv.2.2 (Int.le_refl _)).2.2, fun x a b c => (g x a b c).1⟩
theorem has_moved {n : List R} {lo hi d : Int} (h0 : 0 ≤ lo) (h1 : 0 ≤ lo + d) (h2 : hi ≤ 500) (h3 : hi + d ≤ 500) (x : Int) :
    has ((andL n [(lo, hi)]).map (mv d)) x = true ↔ (lo + d ≤ x ∧ x ≤ hi + d ∧ has n (x - d) = true) := by
  rw [has_iff]
  constructor
  · rintro ⟨hs, q, hq, g1, g2⟩
    obtain ⟨r, hr, rfl⟩ := List.mem_map.1 hq
    obtain ⟨hv, a, b, c⟩ := within hr
    simp only [mv] at g1 g2
    exact ⟨by omega, by omega, c (x - d) (sym_small (by omega) (by omega)) (by omega) (by omega)⟩
  · rintro ⟨g1, g2, g3⟩
    have hh : has (andL n [(lo, hi)]) (x - d) = true := by
      rw [(andL_ok n _).2, g3, Bool.true_and]
      exact has_iff.2 ⟨has_sym g3, (lo, hi), List.mem_singleton.2 rfl, by show lo ≤ x - d; omega, by show x - d ≤ hi; omega⟩
    obtain ⟨_, r, hr, a, b⟩ := has_iff.1 hh
    exact ⟨sym_small (by omega) (by omega), mv d r, List.mem_map.2 ⟨r, hr, rfl⟩, by simp only [mv]; omega, by simp only [mv]; omega⟩
def foldL (l : List R) : List R := nrm (nrm l ++ ((andL (nrm l) [(97, 122)]).map (mv (-32)) ++ (andL (nrm l) [(65, 90)]).map (mv 32)))
theorem foldL_ok (l : List R) : Nrm (foldL l) ∧ ∀ x, has (foldL l) x = fd l x := by
  refine ⟨(nrm_ok _).1, fun x => ?_⟩
  rw [foldL, (nrm_ok _).2, has_append, has_append, (nrm_ok l).2, fd, Bool.eq_iff_iff]
  simp only [Bool.or_eq_true, Bool.and_eq_true, decide_eq_true_eq]
  rw [has_moved (by omega) (by omega) (by omega) (by omega), has_moved (by omega) (by omega) (by omega) (by omega), (nrm_ok l).2, (nrm_ok l).2]
  rw [show x - -32 = x + 32 by omega]
  constructor
  · rintro (h | ⟨h1, h2, h3⟩ | ⟨h1, h2, h3⟩)
    · exact Or.inl (Or.inl h)
    · exact Or.inl (Or.inr ⟨⟨by omega, by omega⟩, h3⟩)
    · exact Or.inr ⟨⟨by omega, by omega⟩, h3⟩
  · rintro ((h | ⟨⟨h1, h2⟩, h3⟩) | ⟨⟨h1, h2⟩, h3⟩)
    · exact Or.inl h
    · exact Or.inr (Or.inl ⟨by omega, by omega, h3⟩)
    · exact Or.inr (Or.inr ⟨by omega, by omega, h3⟩)
theorem foldL_len (l : List R) : (foldL l).length ≤ l.length * 3 + 2 := by
  have h1 := nrm_len (nrm l ++ ((andL (nrm l) [(97, 122)]).map (mv (-32)) ++ (andL (nrm l) [(65, 90)]).map (mv 32)))
  have h2 := nrm_len l
  have h3 := andL_len (nrm l) [(97, 122)]
  have h4 := andL_len (nrm l) [(65, 90)]
  simp only [List.length_append, List.length_map, List.length_cons, List.length_nil] at h1 h3 h4
  unfold foldL; omega

/-- The letters of the other case, one by one. -/
def lets (l : List R) : Nat → List R
  | 0 => []
  | k + 1 => lets l k ++ (if has l (97 + k) = true then [((97 + k : Int) - 32, (97 + k : Int) - 32)] else []) ++ (if has l ((97 + k : Int) - 32) = true then [((97 + k : Int), (97 + k : Int))] else [])
theorem lets_len (l : List R) : ∀ k, (lets l k).length ≤ 2 * k
  | 0 => Nat.le_refl _
  | k + 1 => by
    have := lets_len l k
    unfold lets; simp only [List.length_append]
    split <;> split <;> simp <;> omega
theorem has_dot (y x : Int) (hy : sym y = true) : has [(y, y)] x = decide (x = y) := by
  rw [Bool.eq_iff_iff, has_iff]
  simp only [List.mem_singleton, exists_eq_left, decide_eq_true_eq]
  constructor
  · rintro ⟨_, h1, h2⟩; omega
  · rintro rfl; exact ⟨hy, Int.le_refl _, Int.le_refl _⟩
theorem lets_has (l : List R) (x : Int) : ∀ k : Nat, k ≤ 26 → (has (lets l k) x = true ↔ ((65 ≤ x ∧ x < 65 + k ∧ has l (x + 32) = true) ∨ (97 ≤ x ∧ x < 97 + k ∧ has l (x - 32) = true)))
  | 0, _ => by simp only [lets, has_nil]; simp; omega
  | k + 1, hk => by
    have ih := lets_has l x k (by omega)
    have e1 : has (if has l (97 + k) = true then [((97 + k : Int) - 32, (97 + k : Int) - 32)] else []) x = true ↔ (x = 65 + k ∧ has l (x + 32) = true) := by
      split
      · rename_i h
        rw [has_dot _ _ (sym_small (by omega) (by omega)), decide_eq_true_eq]
        constructor
        · intro g; exact ⟨by omega, by rw [g, show (97 + (k : Int)) - 32 + 32 = 97 + k by omega]; exact h⟩
        · rintro ⟨g, _⟩; omega
      · rename_i h
        rw [has_nil]
        constructor
        · intro g; cases g
        · rintro ⟨g1, g2⟩; rw [g1, show (65 + (k : Int)) + 32 = 97 + k by omega] at g2; exact absurd g2 h
    have e2 : has (if has l ((97 + k : Int) - 32) = true then [((97 + k : Int), (97 + k : Int))] else []) x = true ↔ (x = 97 + k ∧ has l (x - 32) = true) := by
      split
      · rename_i h
        rw [has_dot _ _ (sym_small (by omega) (by omega)), decide_eq_true_eq]
        constructor
        · intro g; exact ⟨g, by rw [g]; exact h⟩
        · rintro ⟨g, _⟩; exact g
      · rename_i h
        rw [has_nil]
        constructor
        · intro g; cases g
        · rintro ⟨g1, g2⟩; rw [g1] at g2; exact absurd g2 h
    unfold lets
    rw [has_append, has_append, Bool.or_eq_true, Bool.or_eq_true, ih, e1, e2]
    constructor
    · rintro ((h | h) | h)
      · rcases h with ⟨h1, h2, h3⟩ | ⟨h1, h2, h3⟩
        · exact Or.inl ⟨h1, by omega, h3⟩
        · exact Or.inr ⟨h1, by omega, h3⟩
      · exact Or.inl ⟨by omega, by omega, h.2⟩
      · exact Or.inr ⟨by omega, by omega, h.2⟩
    · rintro (⟨h1, h2, h3⟩ | ⟨h1, h2, h3⟩)
      · by_cases g : x = 65 + k
        · exact Or.inl (Or.inr ⟨g, h3⟩)
        · exact Or.inl (Or.inl (Or.inl ⟨h1, by omega, h3⟩))
      · by_cases g : x = 97 + k
        · exact Or.inr ⟨g, h3⟩
        · exact Or.inl (Or.inl (Or.inr ⟨h1, by omega, h3⟩))
theorem fold_same (l : List R) : nrm (l ++ lets l 26) = foldL l := by
  rw [← nrm_self (foldL_ok l).1]
  refine nrm_congr fun x => ?_
  rw [(foldL_ok l).2, has_append, fd, Bool.eq_iff_iff]
  simp only [Bool.or_eq_true, Bool.and_eq_true, decide_eq_true_eq]
  rw [lets_has l x 26 (Nat.le_refl _)]
  constructor
  · rintro (h | ⟨h1, h2, h3⟩ | ⟨h1, h2, h3⟩)
    · exact Or.inl (Or.inl h)
    · exact Or.inl (Or.inr ⟨⟨by omega, by omega⟩, h3⟩)
    · exact Or.inr ⟨⟨by omega, by omega⟩, h3⟩
  · rintro ((h | ⟨⟨h1, h2⟩, h3⟩) | ⟨⟨h1, h2⟩, h3⟩)
    · exact Or.inl h
    · exact Or.inr (Or.inl ⟨by omega, by omega, h3⟩)
    · exact Or.inr (Or.inr ⟨by omega, by omega, h3⟩)
/-- Folded twice it is the same. -/
theorem fold_twice (l : List R) : foldL (foldL l) = foldL l := by
  refine once (foldL_ok _).1 (foldL_ok _).1 fun x => ?_
  rw [(foldL_ok _).2, (foldL_ok _).2]
  unfold fd
  rw [(foldL_ok _).2, (foldL_ok _).2, (foldL_ok _).2]
  unfold fd
  rw [show x + 32 - 32 = x by omega, show x - 32 + 32 = x by omega]
  by_cases h1 : 65 ≤ x ∧ x ≤ 90
  · have a1 : ¬ (97 ≤ x ∧ x ≤ 122) := by omega
    have a2 : ¬ (65 ≤ x + 32 ∧ x + 32 ≤ 90) := by omega
    have a3 : (97 ≤ x + 32 ∧ x + 32 ≤ 122) := by omega
    simp [h1, a1, a2, a3]
    cases has l x <;> cases has l (x + 32) <;> simp
  · by_cases h2 : 97 ≤ x ∧ x ≤ 122
    · have a2 : ¬ (97 ≤ x - 32 ∧ x - 32 ≤ 122) := by omega
      have a3 : (65 ≤ x - 32 ∧ x - 32 ≤ 90) := by omega
      simp [h1, h2, a2, a3]
      cases has l x <;> cases has l (x - 32) <;> simp
    · simp [h1, h2]

/-- How many symbols stand below a symbol; how many a normal list has. -/
def rk (x : Int) : Int := if x ≤ 55295 then x else if x ≤ 1114111 then x - 2048 else x - 2176
def cn : List R → Int
  | [] => 0
  | r :: m => (rk r.2 - rk r.1 + 1) + cn m
theorem cn_append : ∀ a b : List R, cn (a ++ b) = cn a + cn b
  | [], b => by simp [cn]
  | r :: a, b => by simp only [List.cons_append, cn, cn_append a b]; omega
theorem rk_bd {x : Int} (h : sym x = true) : 0 ≤ rk x ∧ rk x ≤ 1114367 := by
  rw [sym_iff] at h; unfold rk; (repeat' split) <;> omega
theorem rk_mono' {x y : Int} (hx : sym x = true) (hy : sym y = true) (h : x ≤ y) : rk x ≤ rk y := by
  have hx := sym_iff.1 hx
  have hy := sym_iff.1 hy
  unfold rk; (repeat' split) <;> omega
theorem cn_bd : ∀ {m : List R}, (∀ r ∈ m, V r) → 0 ≤ cn m ∧ cn m ≤ m.length * 2000000
  | [], _ => by simp [cn]
  | r :: m, h => by
    have ih := cn_bd (m := m) fun q hq => h q (List.mem_cons_of_mem _ hq)
    have hv := h r (List.mem_cons_self ..)
    have b1 := rk_bd hv.1; have b2 := rk_bd hv.2.1; have b3 := rk_mono' hv.1 hv.2.1 hv.2.2
    simp only [cn, List.length_cons]
    omega
/-- Counted one by one, below a number. -/
def bi : Bool → Int
  | true => 1
  | false => 0
def tot (p : Int → Bool) : Nat → Int
  | 0 => 0
  | n + 1 => tot p n + bi (p n)
theorem tot_congr {p q : Int → Bool} : ∀ n : Nat, (∀ x : Int, p x = q x) → tot p n = tot q n
  | 0, _ => rfl
  | n + 1, h => by simp only [tot]; rw [tot_congr n h, h]
theorem tot_add (p q : Int → Bool) : ∀ n : Nat, tot p n + tot q n = tot (fun x => p x || q x) n + tot (fun x => p x && q x) n
  | 0 => rfl
  | n + 1 => by
    have := tot_add p q n
    simp only [tot]
    cases p n <;> cases q n <;> simp [bi] <;> omega
theorem tot_none : ∀ n : Nat, tot (fun _ => false) n = 0
  | 0 => rfl
  | n + 1 => by simp [tot, tot_none n, bi]
/-- Symbols below a number. -/
def below (x : Int) : Int := if x ≤ 55296 then x else if x ≤ 57344 then 55296 else if x ≤ 1114112 then x - 2048 else if x ≤ 1114240 then 1112064 else if x ≤ 1114368 then x - 2176 else 1112192
theorem tot_sym : ∀ n : Nat, tot sym n = below n
  | 0 => rfl
  | n + 1 => by
    simp only [tot]
    rw [tot_sym n]
    cases h : sym (n : Int) with
    | true =>
      rw [sym_iff] at h
      rw [show bi true = 1 from rfl, show ((n + 1 : Nat) : Int) = (n : Int) + 1 from rfl]
      unfold below; (repeat' split) <;> omega
    | false =>
      have h : ¬ sym (n : Int) = true := by rw [h]; simp
      rw [sym_iff] at h
      rw [show bi false = 0 from rfl, show ((n + 1 : Nat) : Int) = (n : Int) + 1 from rfl]
      unfold below; (repeat' split) <;> omega
theorem tot_range (r : R) (h0 : 0 ≤ r.1) (h1 : r.1 ≤ r.2) : ∀ n : Nat, tot (fun x => sym x && inR r x) n = below (if (n : Int) ≤ r.1 then 0 else if (n : Int) ≤ r.2 then n else r.2 + 1) - below (if (n : Int) ≤ r.1 then 0 else r.1)
  | 0 => by simp [tot, h0]
  | n + 1 => by
    have ih := tot_range r h0 h1 n
    simp only [tot]
    rw [ih]
    have e : ∀ m : Nat, below (m : Int) + bi (sym (m : Int)) = below ((m : Int) + 1) := fun m => by
      have a := tot_sym m
      have b := tot_sym (m + 1)
      simp only [tot] at b
      rw [a] at b
      rw [b]; congr 1
    have en := e n
    rw [show ((n + 1 : Nat) : Int) = (n : Int) + 1 from rfl]
    generalize hb : bi (sym (n : Int)) = b at en
    rcases (show (n : Int) < r.1 ∨ (n : Int) = r.1 ∨ (r.1 < n ∧ (n : Int) ≤ r.2) ∨ r.2 < n by omega) with h | h | h | h
    · have hi : inR r n = false := by unfold inR; simp; omega
      have a1 : (n : Int) ≤ r.1 := by omega
      have a2 : (n : Int) + 1 ≤ r.1 := by omega
      rw [hi, Bool.and_false, show bi false = 0 from rfl, if_pos a1, if_pos a1, if_pos a2, if_pos a2]
      omega
    · have hi : inR r n = true := by unfold inR; simp; omega
      have a1 : (n : Int) ≤ r.1 := by omega
      have a2 : ¬ (n : Int) + 1 ≤ r.1 := by omega
      rw [hi, Bool.and_true, hb, if_pos a1, if_pos a1, if_neg a2, if_neg a2]
      by_cases a3 : (n : Int) + 1 ≤ r.2
      · rw [if_pos a3, ← en, ← h]; omega
      · rw [if_neg a3, show r.2 = n by omega, ← en, ← h]; omega
    · have hi : inR r n = true := by unfold inR; simp; omega
      have a1 : ¬ (n : Int) ≤ r.1 := by omega
      have a2 : ¬ (n : Int) + 1 ≤ r.1 := by omega
      rw [hi, Bool.and_true, hb, if_neg a1, if_neg a1, if_neg a2, if_neg a2, if_pos h.2]
      by_cases a3 : (n : Int) + 1 ≤ r.2
      · rw [if_pos a3, ← en]; omega
      · rw [if_neg a3, show r.2 = n by omega, ← en]; omega
    · have hi : inR r n = false := by unfold inR; simp; omega
      have a1 : ¬ (n : Int) ≤ r.1 := by omega
      have a2 : ¬ (n : Int) + 1 ≤ r.1 := by omega
      have a3 : ¬ (n : Int) ≤ r.2 := by omega
      have a4 : ¬ (n : Int) + 1 ≤ r.2 := by omega
      rw [hi, Bool.and_false, show bi false = 0 from rfl, if_neg a1, if_neg a1, if_neg a2, if_neg a2, if_neg a3, if_neg a4]
      omega
theorem rk_below {x : Int} (h : sym x = true) : below x = rk x ∧ below (x + 1) = rk x + 1 := by
  rw [sym_iff] at h; unfold below rk; constructor <;> ((repeat' split) <;> omega)
theorem tot_one {r : R} (h : V r) {N : Nat} (hN : 1114368 ≤ N) : tot (has [r]) N = rk r.2 - rk r.1 + 1 := by
  have b1 := sym_pos h.1; have b2 := sym_pos h.2.1
  rw [tot_congr (q := fun x => sym x && inR r x) N (fun x => by simp [has]), tot_range r b1.1 h.2.2, if_neg (by omega), if_neg (by omega), if_neg (by omega), (rk_below h.1).1, (rk_below h.2.1).2]
  omega
theorem cn_tot : ∀ {m : List R}, Nrm m → ∀ {N : Nat}, 1114368 ≤ N → cn m = tot (has m) N
  | [], _, N, _ => by rw [tot_congr (q := fun _ => false) N (fun x => has_nil x), tot_none]; rfl
  | r :: m, h, N, hN => by
    have ih := cn_tot h.tail hN
    have a := tot_add (has [r]) (has m) N
    rw [tot_one h.head hN, ← ih] at a
    rw [tot_congr (p := fun x => has [r] x && has m x) (q := fun _ => false) N (fun x => by
      rw [Bool.eq_false_iff]; intro g
      obtain ⟨g1, g2⟩ := Bool.and_eq_true_iff.1 g
      obtain ⟨_, q, hq, e1, e2⟩ := has_iff.1 g1
      rw [List.mem_singleton.1 hq] at e2
      have := ((tail_has h x).1 g2).2
      omega), tot_none] at a
    rw [tot_congr (p := has (r :: m)) (q := fun x => has [r] x || has m x) N (fun x => has_cons r m x)]
    simp only [cn]; omega
theorem cn_not (l : List R) : cn (nrm l) + cn (nrm (notL l)) = cn (nrm (notL [])) := by
  obtain ⟨N, hN⟩ : ∃ N : Nat, N = 1114368 := ⟨_, rfl⟩
  have hN' : 1114368 ≤ N := by omega
  rw [cn_tot (nrm_ok _).1 hN', cn_tot (nrm_ok _).1 hN', cn_tot (nrm_ok _).1 hN', tot_add]
  rw [tot_congr (p := fun x => has (nrm l) x && has (nrm (notL l)) x) (q := fun _ => false) N (fun x => by
    rw [(nrm_ok _).2, (nrm_ok _).2, (notL_ok l).2]; cases has l x <;> simp), tot_none]
  rw [tot_congr (p := fun x => has (nrm l) x || has (nrm (notL l)) x) (q := has (nrm (notL []))) N (fun x => by
    rw [(nrm_ok _).2, (nrm_ok _).2, (nrm_ok _).2, (notL_ok l).2, (notL_ok []).2, has_nil]
    cases h : has l x with
    | true => rw [has_sym h]; rfl
    | false => simp)]
  omega
theorem cn_both (a b : List R) : cn (nrm a) + cn (nrm b) = cn (nrm (orL a b)) + cn (nrm (andL a b)) := by
  obtain ⟨N, hN⟩ : ∃ N : Nat, N = 1114368 := ⟨_, rfl⟩
  have hN' : 1114368 ≤ N := by omega
  rw [cn_tot (nrm_ok _).1 hN', cn_tot (nrm_ok _).1 hN', cn_tot (nrm_ok _).1 hN', cn_tot (nrm_ok _).1 hN', tot_add]
  rw [tot_congr (p := has (nrm (orL a b))) (q := fun x => has (nrm a) x || has (nrm b) x) N (fun x => by rw [(nrm_ok _).2, (orL_ok a b).2, (nrm_ok _).2, (nrm_ok _).2]),
    tot_congr (p := has (nrm (andL a b))) (q := fun x => has (nrm a) x && has (nrm b) x) N (fun x => by rw [(nrm_ok _).2, (andL_ok a b).2, (nrm_ok _).2, (nrm_ok _).2])]
end ObSets
