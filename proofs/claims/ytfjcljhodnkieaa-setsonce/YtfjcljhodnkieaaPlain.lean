/-
  Sets of symbols as plain lists of ranges: what a list has, which lists are normal, that a set has one normal list, and how it is made. No program.
-/
namespace ObSets
abbrev R := Int × Int

def sym (x : Int) : Bool := decide ((0 ≤ x ∧ x ≤ 55295) ∨ (57344 ≤ x ∧ x ≤ 1114111) ∨ (1114240 ≤ x ∧ x ≤ 1114367))
def nx (x : Int) : Int := if x < 0 then 0 else if x < 55295 then x + 1 else if x < 57344 then 57344 else if x < 1114111 then x + 1 else if x < 1114240 then 1114240 else if x < 1114367 then x + 1 else -1
def pv (x : Int) : Int := if 1114367 < x then 1114367 else if 1114240 < x then x - 1 else if 1114111 < x then 1114111 else if 57344 < x then x - 1 else if 55295 < x then 55295 else if 0 < x then x - 1 else -1

theorem sym_iff {x : Int} : sym x = true ↔ (0 ≤ x ∧ x ≤ 55295) ∨ (57344 ≤ x ∧ x ≤ 1114111) ∨ (1114240 ≤ x ∧ x ≤ 1114367) := by simp [sym]
theorem sym_pos {x : Int} (h : sym x = true) : 0 ≤ x ∧ x ≤ 1114367 := by rw [sym_iff] at h; omega
theorem nx_top {x : Int} : nx x = -1 ↔ 1114367 ≤ x := by
  unfold nx; (repeat' split) <;> omega
theorem nx_gt {x : Int} (h : nx x ≠ -1) : x < nx x := by
  rw [Ne, nx_top] at h; unfold nx; (repeat' split) <;> omega
theorem nx_sym {x : Int} (h : nx x ≠ -1) : sym (nx x) = true := by
  rw [Ne, nx_top] at h; rw [sym_iff]; unfold nx; (repeat' split) <;> omega
theorem nx_least {x y : Int} (hy : sym y = true) (h : x < y) : nx x ≤ y := by
  rw [sym_iff] at hy; unfold nx; (repeat' split) <;> omega
theorem nx_some {x y : Int} (hy : sym y = true) (h : x < y) : nx x ≠ -1 := by
  rw [sym_iff] at hy; rw [Ne, nx_top]; omega
theorem nx_ge {x : Int} : -1 ≤ nx x := by unfold nx; (repeat' split) <;> omega
theorem pv_bot {x : Int} : pv x = -1 ↔ x ≤ 0 := by
  unfold pv; (repeat' split) <;> omega
theorem pv_lt {x : Int} (h : pv x ≠ -1) : pv x < x := by
  rw [Ne, pv_bot] at h; unfold pv; (repeat' split) <;> omega
theorem pv_sym {x : Int} (h : pv x ≠ -1) : sym (pv x) = true := by
  rw [Ne, pv_bot] at h; rw [sym_iff]; unfold pv; (repeat' split) <;> omega
theorem pv_most {x y : Int} (hy : sym y = true) (h : y < x) : y ≤ pv x := by
  rw [sym_iff] at hy; unfold pv; (repeat' split) <;> omega
theorem nx_pv {x : Int} (hx : sym x = true) (h : 0 < x) : nx (pv x) = x := by
  rw [sym_iff] at hx; unfold pv nx; (repeat' split) <;> omega

/-- The symbols of a range. -/
def inR (r : R) (x : Int) : Bool := decide (r.1 ≤ x) && decide (x ≤ r.2)
theorem inR_iff {r : R} {x : Int} : inR r x = true ↔ r.1 ≤ x ∧ x ≤ r.2 := by simp [inR]
def has (l : List R) (x : Int) : Bool := sym x && l.any fun r => inR r x
theorem has_iff {l : List R} {x : Int} : has l x = true ↔ sym x = true ∧ ∃ r ∈ l, r.1 ≤ x ∧ x ≤ r.2 := by
  unfold has; rw [Bool.and_eq_true, List.any_eq_true]; simp only [inR_iff]
theorem has_nil (x : Int) : has [] x = false := by simp [has]
theorem has_append (a b : List R) (x : Int) : has (a ++ b) x = (has a x || has b x) := by
  unfold has; cases sym x <;> simp
theorem has_cons (r : R) (l : List R) (x : Int) : has (r :: l) x = (has [r] x || has l x) := has_append [r] l x
theorem has_sym {l : List R} {x : Int} (h : has l x = true) : sym x = true := (has_iff.1 h).1

/-- Both ends are symbols, the first not above the second. -/
def V (r : R) : Prop := sym r.1 = true ∧ sym r.2 = true ∧ r.1 ≤ r.2
/-- The second range begins behind the symbol that follows the first. -/
def ap (a b : R) : Bool := decide (nx a.2 ≠ -1) && decide (nx a.2 < b.1)
theorem ap_iff {a b : R} : ap a b = true ↔ nx a.2 ≠ -1 ∧ nx a.2 < b.1 := by simp [ap]
def Nrm (l : List R) : Prop := (∀ r ∈ l, V r) ∧ l.Pairwise fun a b => ap a b = true
theorem Nrm.nil : Nrm [] := ⟨by simp, List.Pairwise.nil⟩
theorem Nrm.tail {r : R} {l : List R} (h : Nrm (r :: l)) : Nrm l := ⟨fun q hq => h.1 q (List.mem_cons_of_mem _ hq), (List.pairwise_cons.1 h.2).2⟩
theorem Nrm.head {r : R} {l : List R} (h : Nrm (r :: l)) : V r := h.1 r (List.mem_cons_self ..)
theorem Nrm.rel {r : R} {l : List R} (h : Nrm (r :: l)) : ∀ q ∈ l, nx r.2 ≠ -1 ∧ nx r.2 < q.1 := fun q hq => ap_iff.1 ((List.pairwise_cons.1 h.2).1 q hq)
theorem Nrm.cons {r : R} {l : List R} (hv : V r) (hr : ∀ q ∈ l, nx r.2 ≠ -1 ∧ nx r.2 < q.1) (h : Nrm l) : Nrm (r :: l) :=
  ⟨fun q hq => by rcases List.mem_cons.1 hq with rfl | hq; exact hv; exact h.1 q hq, List.pairwise_cons.2 ⟨fun q hq => ap_iff.2 (hr q hq), h.2⟩⟩

theorem head_has {r : R} {l : List R} (hv : V r) : has (r :: l) r.1 = true := has_iff.2 ⟨hv.1, r, List.mem_cons_self .., Int.le_refl _, hv.2.2⟩
theorem head_least {r : R} {l : List R} (h : Nrm (r :: l)) {x : Int} (hx : has (r :: l) x = true) : r.1 ≤ x := by
  obtain ⟨_, q, hq, h1, h2⟩ := has_iff.1 hx
  rcases List.mem_cons.1 hq with rfl | hq
  · exact h1
  · have := h.rel q hq; have h3 := nx_gt this.1; have := h.head.2.2; omega
theorem tail_has {r : R} {l : List R} (h : Nrm (r :: l)) (x : Int) : has l x = true ↔ has (r :: l) x = true ∧ r.2 < x := by
  rw [has_iff, has_iff]
  constructor
  · rintro ⟨hs, q, hq, h1, h2⟩
    have := h.rel q hq; have h3 := nx_gt this.1
    exact ⟨⟨hs, q, List.mem_cons_of_mem _ hq, h1, h2⟩, by omega⟩
  · rintro ⟨⟨hs, q, hq, h1, h2⟩, h3⟩
    rcases List.mem_cons.1 hq with rfl | hq
    · omega
    · exact ⟨hs, q, hq, h1, h2⟩
theorem hi_le {r q : R} {l m : List R} (hl : Nrm (r :: l)) (hm : Nrm (q :: m)) (h1 : r.1 = q.1) (h : ∀ x, has (q :: m) x = true → has (r :: l) x = true) : q.2 ≤ r.2 := by
  apply Int.not_lt.1
  intro hlt
  have hn := nx_some hm.head.2.1 hlt
  have hg := nx_gt hn
  have hle := nx_least hm.head.2.1 hlt
  have hv := hl.head.2.2
  obtain ⟨_, p, hp, h2, h3⟩ := has_iff.1 (h (nx r.2) (has_iff.2 ⟨nx_sym hn, q, List.mem_cons_self .., by omega, hle⟩))
  rcases List.mem_cons.1 hp with rfl | hp
  · omega
  · have := hl.rel p hp; omega
/-- A set has one normal list. -/
theorem once : ∀ {l m : List R}, Nrm l → Nrm m → (∀ x, has l x = true ↔ has m x = true) → l = m
  | [], [], _, _, _ => rfl
  | [], q :: m, _, hm, h => by have := (h q.1).2 (head_has hm.head); simp [has_nil] at this
  | r :: l, [], hl, _, h => by have := (h r.1).1 (head_has hl.head); simp [has_nil] at this
  | r :: l, q :: m, hl, hm, h => by
    have h1 : r.1 = q.1 := by
      have a := head_least hm ((h r.1).1 (head_has hl.head))
      have b := head_least hl ((h q.1).2 (head_has hm.head))
      omega
    have h2 : r.2 = q.2 := by
      have a := hi_le hl hm h1 fun x => (h x).2
      have b := hi_le hm hl h1.symm fun x => (h x).1
      omega
    have e : r = q := Prod.ext h1 h2
    subst e
    congr 1
    exact once hl.tail hm.tail fun x => by rw [tail_has hl, tail_has hm, h x]

/-- A range's ends at symbols. -/
def cut (r : R) : R := (if sym r.1 = true then r.1 else nx r.1, if sym r.2 = true then r.2 else pv r.2)
def ok (r : R) : Bool := decide (0 ≤ (cut r).1) && decide ((cut r).1 ≤ (cut r).2)
theorem ok_iff {r : R} : ok r = true ↔ 0 ≤ (cut r).1 ∧ (cut r).1 ≤ (cut r).2 := by simp [ok]
theorem cut_V {r : R} (h : ok r = true) : V (cut r) := by
  rw [ok_iff] at h
  refine ⟨?_, ?_, h.2⟩
  · have h1 := h.1
    unfold cut at h1 ⊢
    simp only at h1 ⊢
    split at h1
    · rename_i hs; rw [if_pos hs]; exact hs
    · rename_i hs; rw [if_neg hs]; exact nx_sym (by omega)
  · have h1 : 0 ≤ (cut r).2 := by omega
    unfold cut at h1 ⊢
    simp only at h1 ⊢
    split at h1
    · rename_i hs; rw [if_pos hs]; exact hs
    · rename_i hs; rw [if_neg hs]; exact pv_sym (by omega)
theorem cut_in {r : R} {x : Int} (hx : sym x = true) : (r.1 ≤ x ∧ x ≤ r.2) ↔ (ok r = true ∧ (cut r).1 ≤ x ∧ x ≤ (cut r).2) := by
  have e1 : (cut r).1 ≤ x ∧ 0 ≤ (cut r).1 ↔ r.1 ≤ x := by
    unfold cut
    simp only
    split
    · rename_i hs; have := sym_pos hs; omega
    · rename_i hs
      constructor
      · rintro ⟨h1, h2⟩; have := nx_gt (x := r.1) (by omega); omega
      · intro h
        rcases Int.lt_or_eq_of_le h with h | h
        · have h1 := nx_least hx h
          have h2 := nx_some hx h
          have := sym_pos (nx_sym h2)
          omega
        · rw [h] at hs; exact absurd hx hs
  have e2 : x ≤ (cut r).2 ↔ x ≤ r.2 := by
    unfold cut
    simp only
    split
    · exact Iff.rfl
    · rename_i hs
      constructor
      · intro h1
        have h0 := sym_pos hx
        have := pv_lt (x := r.2) (by omega); omega
      · intro h
        rcases Int.lt_or_eq_of_le h with h | h
        · exact pv_most hx h
        · rw [← h] at hs; exact absurd hx hs
  rw [ok_iff]
  constructor
  · rintro ⟨h1, h2⟩
    have a := e1.2 h1
    have b := e2.2 h2
    exact ⟨⟨a.2, by omega⟩, a.1, b⟩
  · rintro ⟨⟨h1, h2⟩, h3, h4⟩
    exact ⟨e1.1 ⟨h3, h1⟩, e2.1 h4⟩
/-- The ranges that have symbols, cut. -/
def cuts (l : List R) : List R := (l.filter ok).map cut
theorem cuts_nil : cuts [] = [] := rfl
theorem cuts_append (a b : List R) : cuts (a ++ b) = cuts a ++ cuts b := by simp [cuts]
theorem cuts_one_ok {r : R} (h : ok r = true) : cuts [r] = [cut r] := by simp [cuts, h]
theorem cuts_one_no {r : R} (h : ok r = false) : cuts [r] = [] := by simp [cuts, h]
theorem cuts_len (l : List R) : (cuts l).length ≤ l.length := by
  unfold cuts; rw [List.length_map]; exact List.length_filter_le _ _
theorem cuts_V {l : List R} : ∀ r ∈ cuts l, V r := by
  intro r hr
  obtain ⟨q, hq, rfl⟩ := List.mem_map.1 hr
  exact cut_V (List.mem_filter.1 hq).2
theorem cuts_has (l : List R) (x : Int) : has (cuts l) x = has l x := by
  rw [Bool.eq_iff_iff, has_iff, has_iff]
  constructor
  · rintro ⟨hs, r, hr, h⟩
    obtain ⟨q, hq, rfl⟩ := List.mem_map.1 hr
    have hq := List.mem_filter.1 hq
    exact ⟨hs, q, hq.1, (cut_in hs).2 ⟨hq.2, h⟩⟩
  · rintro ⟨hs, r, hr, h⟩
    have := (cut_in hs).1 h
    exact ⟨hs, cut r, List.mem_map.2 ⟨r, List.mem_filter.2 ⟨hr, this.1⟩, rfl⟩, this.2⟩

/-- One range more behind a normal list: joined with its last one, or put behind it. -/
def step (out : List R) (r : R) : List R :=
  match out.getLast? with
  | none => [r]
  | some q => if ap q r = true then out ++ [r] else out.dropLast ++ [(q.1, max q.2 r.2)]
def mg (cs : List R) : List R := cs.foldl step []
theorem mg_snoc (cs : List R) (r : R) : mg (cs ++ [r]) = step (mg cs) r := by simp [mg]
theorem step_nil (r : R) : step [] r = [r] := rfl
theorem step_apart {p : List R} {q r : R} (h : ap q r = true) : step (p ++ [q]) r = p ++ [q] ++ [r] := by simp [step, h]
theorem step_join {p : List R} {q r : R} (h : ap q r = false) : step (p ++ [q]) r = p ++ [(q.1, max q.2 r.2)] := by simp [step, h]
theorem nrm_snoc {p : List R} {q : R} : Nrm (p ++ [q]) ↔ Nrm p ∧ V q ∧ ∀ a ∈ p, ap a q = true := by
  unfold Nrm
  rw [List.pairwise_append]
  simp only [List.mem_append, List.mem_singleton, List.pairwise_singleton, true_and, forall_eq]
  constructor
  · rintro ⟨h1, h2, h3⟩
    exact ⟨⟨fun r hr => h1 r (Or.inl hr), h2⟩, h1 q (Or.inr rfl), h3⟩
  · rintro ⟨⟨h1, h2⟩, h3, h4⟩
    exact ⟨fun r hr => by rcases hr with hr | rfl; exact h1 r hr; exact h3, h2, h4⟩
theorem V_max {q r : R} (hq : V q) (hr : V r) : V (q.1, max q.2 r.2) := by
  refine ⟨hq.1, ?_, ?_⟩
  · show sym (max q.2 r.2) = true
    rcases Int.le_total q.2 r.2 with h | h
    · rw [Int.max_eq_right h]; exact hr.2.1
    · rw [Int.max_eq_left h]; exact hq.2.1
  · have := hq.2.2; show q.1 ≤ max q.2 r.2; omega
theorem step_ok {out : List R} {r : R} (h : Nrm out) (hv : V r) (hlo : ∀ q ∈ out, q.1 ≤ r.1) : Nrm (step out r) ∧ (∀ q ∈ step out r, q.1 ≤ r.1) ∧ ∀ x, has (step out r) x = has (out ++ [r]) x := by
  rcases List.eq_nil_or_concat out with rfl | ⟨p, q, rfl⟩
  · rw [step_nil]
    exact ⟨nrm_snoc (p := []) (q := r) |>.2 ⟨Nrm.nil, hv, by simp⟩, by simp, fun x => rfl⟩
  · rw [List.concat_eq_append] at h hlo ⊢
    obtain ⟨hp, hq, hpq⟩ := nrm_snoc.1 h
    have hq1 : q.1 ≤ r.1 := hlo q (by simp)
    cases ha : ap q r with
    | true =>
      rw [step_apart ha]
      refine ⟨nrm_snoc.2 ⟨h, hv, fun a hm => ?_⟩, ?_, fun x => rfl⟩
      · rcases List.mem_append.1 hm with hm | hm
        · have h1 := ap_iff.1 (hpq a hm)
          have h2 := hq.2.2
          exact ap_iff.2 ⟨h1.1, by omega⟩
        · rw [List.mem_singleton.1 hm]; exact ha
      · intro a hm
        rcases List.mem_append.1 hm with hm | hm
        · exact hlo a hm
        · rw [List.mem_singleton.1 hm]; exact Int.le_refl _
    | false =>
      rw [step_join ha]
      have hna : ¬ (nx q.2 ≠ -1 ∧ nx q.2 < r.1) := fun g => by rw [ap_iff.2 g] at ha; cases ha
      refine ⟨nrm_snoc.2 ⟨hp, V_max hq hv, fun a hm => ap_iff.2 (ap_iff.1 (hpq a hm))⟩, ?_, fun x => ?_⟩
      · intro a hm
        rcases List.mem_append.1 hm with hm | hm
        · exact hlo a (List.mem_append_left _ hm)
        · rw [List.mem_singleton.1 hm]; exact hq1
      · rw [List.append_assoc, has_append, has_append]
        congr 1
        rw [Bool.eq_iff_iff, has_iff, has_iff]
        simp only [List.cons_append, List.nil_append, List.mem_cons, List.not_mem_nil, or_false, exists_eq_left, exists_eq_or_imp]
        constructor
        · rintro ⟨hs, h1, h2⟩
          refine ⟨hs, ?_⟩
          rcases (show q.2 < x ∨ x ≤ q.2 by omega) with h3 | h3
          · have h4 := nx_some hs h3
            have h5 := nx_least hs h3
            right; omega
          · left; omega
        · rintro ⟨hs, h⟩
          exact ⟨hs, by omega, by omega⟩

def Srt (l : List R) : Prop := l.Pairwise fun a b => a.1 ≤ b.1
theorem mg_ok : ∀ {n : Nat} {cs : List R}, cs.length = n → (∀ r ∈ cs, V r) → Srt cs → Nrm (mg cs) ∧ (∀ q ∈ mg cs, ∀ r, Srt (cs ++ [r]) → q.1 ≤ r.1) ∧ ∀ x, has (mg cs) x = has cs x
  | 0, cs, hn, _, _ => by
    obtain rfl := List.eq_nil_of_length_eq_zero hn
    exact ⟨Nrm.nil, by simp [mg], fun _ => rfl⟩
  | n + 1, cs, hn, hv, hs => by
    rcases List.eq_nil_or_concat cs with rfl | ⟨p, q, rfl⟩
    · simp at hn
    · rw [List.concat_eq_append] at hn hv hs ⊢
      have hps := (List.pairwise_append.1 hs).1
      obtain ⟨h1, h2, h3⟩ := mg_ok (n := n) (cs := p) (by simpa using hn) (fun r hr => hv r (by simp [hr])) hps
      obtain ⟨g1, g2, g3⟩ := step_ok h1 (hv q (by simp)) fun r hr => h2 r hr q hs
      rw [mg_snoc]
      refine ⟨g1, fun a ha r hr => ?_, fun x => ?_⟩
      · have h4 := (List.pairwise_append.1 hr).2.2 q (by simp) r (by simp)
        have := g2 a ha
        omega
      · rw [g3, has_append, has_append, h3]

/-- A range put where it stands among sorted ones: behind those with its Lo. -/
def insR (r : R) : List R → List R
  | [] => [r]
  | q :: l => if r.1 < q.1 then r :: q :: l else q :: insR r l
theorem ins_perm (r : R) : ∀ l, (insR r l).Perm (r :: l)
  | [] => List.Perm.refl _
  | q :: l => by
    unfold insR
    split
    · exact List.Perm.refl _
    · exact ((ins_perm r l).cons q).trans (List.Perm.swap r q l)
theorem ins_srt (r : R) : ∀ {l}, Srt l → Srt (insR r l)
  | [], _ => List.pairwise_singleton _ _
  | q :: l, h => by
    have hq := List.pairwise_cons.1 h
    unfold insR
    split
    · rename_i hlt
      refine List.pairwise_cons.2 ⟨fun a ha => ?_, h⟩
      rcases List.mem_cons.1 ha with rfl | ha
      · omega
      · have := hq.1 a ha; omega
    · rename_i hlt
      refine List.pairwise_cons.2 ⟨fun a ha => ?_, ins_srt r hq.2⟩
      rcases List.mem_cons.1 ((ins_perm r l).mem_iff.1 ha) with rfl | ha
      · omega
      · exact hq.1 a ha
def isort : List R → List R
  | [] => []
  | r :: l => insR r (isort l)
theorem isort_perm : ∀ l, (isort l).Perm l
  | [] => List.Perm.refl _
  | r :: l => (ins_perm r _).trans ((isort_perm l).cons r)
theorem isort_srt : ∀ l, Srt (isort l)
  | [] => List.Pairwise.nil
  | r :: l => ins_srt r (isort_srt l)
theorem has_perm {a b : List R} (h : a.Perm b) (x : Int) : has a x = has b x := by
  rw [Bool.eq_iff_iff, has_iff, has_iff]
  constructor
  · rintro ⟨hs, r, hr, g⟩; exact ⟨hs, r, h.mem_iff.1 hr, g⟩
  · rintro ⟨hs, r, hr, g⟩; exact ⟨hs, r, h.mem_iff.2 hr, g⟩

/-- The normal list of a list. -/
def nrm (l : List R) : List R := mg (isort (cuts l))
theorem nrm_ok (l : List R) : Nrm (nrm l) ∧ ∀ x, has (nrm l) x = has l x := by
  have h := mg_ok rfl (cs := isort (cuts l)) (fun r hr => cuts_V r ((isort_perm _).mem_iff.1 hr)) (isort_srt _)
  exact ⟨h.1, fun x => by rw [nrm, h.2.2, has_perm (isort_perm _), cuts_has]⟩
theorem nrm_of {l m : List R} (hm : Nrm m) (h : ∀ x, has m x = has l x) : m = nrm l :=
  once hm (nrm_ok l).1 fun x => by rw [h, (nrm_ok l).2]
theorem nrm_congr {l m : List R} (h : ∀ x, has l x = has m x) : nrm l = nrm m :=
  nrm_of (nrm_ok l).1 fun x => by rw [(nrm_ok l).2, h]
theorem nrm_iff {l m : List R} : nrm l = nrm m ↔ ∀ x, has l x = has m x := by
  constructor
  · intro h x; rw [← (nrm_ok l).2, ← (nrm_ok m).2, h]
  · exact nrm_congr
/-- Whatever sorts the cut ranges: what is made of them is the normal list. -/
theorem mg_nrm {l cs : List R} (hp : cs.Perm (cuts l)) (hs : Srt cs) : mg cs = nrm l := by
  have h := mg_ok rfl (cs := cs) (fun r hr => cuts_V r (hp.mem_iff.1 hr)) hs
  exact nrm_of h.1 fun x => by rw [h.2.2, has_perm hp, cuts_has]
theorem nrm_self {l : List R} (h : Nrm l) : nrm l = l := (nrm_of h fun _ => rfl).symm
theorem mg_len (cs : List R) : (mg cs).length ≤ cs.length := by
  suffices h : ∀ n (cs : List R), cs.length = n → (mg cs).length ≤ cs.length from h _ cs rfl
  intro n
  induction n with
  | zero => intro cs hn; obtain rfl := List.eq_nil_of_length_eq_zero hn; simp [mg]
  | succ n ih =>
    intro cs hn
    rcases List.eq_nil_or_concat cs with rfl | ⟨p, q, rfl⟩
    · simp at hn
    · rw [List.concat_eq_append] at hn ⊢
      have h1 := ih p (by simpa using hn)
      rw [mg_snoc]
      have : (step (mg p) q).length ≤ (mg p).length + 1 := by
        rcases List.eq_nil_or_concat (mg p) with e | ⟨a, b, e⟩
        · rw [e]; simp [step]
        · rw [e, List.concat_eq_append]
          cases ha : ap b q with
          | true => rw [step_apart ha]; simp
          | false => rw [step_join ha]; simp
      simp; omega
theorem nrm_len (l : List R) : (nrm l).length ≤ l.length := by
  have h1 := mg_len (isort (cuts l))
  rw [(isort_perm (cuts l)).length_eq] at h1
  have h2 := cuts_len l
  unfold nrm; omega
end ObSets
