/-
  Plain lists of bytes: what an edit answers and leaves. No program.
-/
namespace ObGap
abbrev Bs := List UInt8
/-- Is a place none of the text? -/
def out (s : Bs) (i : Int) : Bool := decide (i < 0) || decide ((s.length : Int) < i)
theorem out_false {s : Bs} {i : Int} (h : out s i = false) : 0 ≤ i ∧ i ≤ s.length := by
  unfold out at h; simp at h; omega
theorem out_true {s : Bs} {i : Int} (h : out s i = true) : i < 0 ∨ (s.length : Int) < i := by
  unfold out at h; simp at h; omega
theorem out_not {s : Bs} {i : Int} (h0 : 0 ≤ i) (h1 : i ≤ s.length) : out s i = false := by
  unfold out; simp; omega
/-- Move. -/
def movE (s : Bs) (i : Int) : Int := if out s i = true then 2 else 0
def movP (s : Bs) (p : Nat) (i : Int) : Nat := if out s i = true then p else i.toNat
/-- Insert. -/
def insE (mx : Nat) (s : Bs) (i : Int) (x : Bs) : Int := if out s i = true then 2 else if mx < s.length + x.length then 3 else 0
def insS (mx : Nat) (s : Bs) (i : Int) (x : Bs) : Bs := if out s i = true then s else if mx < s.length + x.length then s else s.take i.toNat ++ (x ++ s.drop i.toNat)
def insP (mx : Nat) (s : Bs) (p : Nat) (i : Int) (x : Bs) : Nat := if out s i = true then p else if mx < s.length + x.length then p else i.toNat + x.length
/-- Delete. -/
def delB (s : Bs) (i n : Int) : Bool := out s i || (decide (n < 0) || decide ((s.length : Int) - i < n))
def delE (s : Bs) (i n : Int) : Int := if delB s i n = true then 2 else 0
def delS (s : Bs) (i n : Int) : Bs := if delB s i n = true then s else s.take i.toNat ++ s.drop (i.toNat + n.toNat)
def delP (s : Bs) (p : Nat) (i n : Int) : Nat := if delB s i n = true then p else i.toNat
/-- Cut. -/
def cutT (s : Bs) (i : Int) : Bs := if out s i = true then [] else s.drop i.toNat
def cutS (s : Bs) (i : Int) : Bs := if out s i = true then s else s.take i.toNat
/-- Byte. -/
def byt (s : Bs) (i : Int) : Int := if i < 0 then -1 else match s[i.toNat]? with | some b => b.toNat | none => -1

theorem insS_len {mx : Nat} {s : Bs} (i : Int) (x : Bs) (h : s.length ≤ mx) : (insS mx s i x).length ≤ mx := by
  unfold insS
  split
  · exact h
  · rename_i h1
    split
    · exact h
    · have := out_false (by simpa using h1)
      simp; omega
theorem delS_len (s : Bs) (i n : Int) : (delS s i n).length ≤ s.length := by
  unfold delS
  split
  · exact Nat.le_refl _
  · simp; omega
theorem cutS_len (s : Bs) (i : Int) : (cutS s i).length ≤ s.length := by
  unfold cutS
  split
  · exact Nat.le_refl _
  · simp; omega

/-- The gap goes down. -/
theorem shift_down {L : Bs} {p r a : Nat} (h1 : a < p) (h2 : p ≤ r) (h3 : r ≤ L.length) :
    let M := L.take (a + (r - p)) ++ ((L.drop a).take (p - a) ++ L.drop (a + (r - p) + (p - a)))
    M.length = L.length ∧ M.take a ++ M.drop (a + (r - p)) = L.take p ++ L.drop r := by
  intro M
  have e1 : ((L.drop a).take (p - a)).length = p - a := by simp; omega
  have e2 : (L.take (a + (r - p))).length = a + (r - p) := by simp; omega
  refine ⟨by simp only [M, List.length_append, e1, e2, List.length_drop]; omega, ?_⟩
  have t1 : M.take a = L.take a := by
    show List.take a (L.take (a + (r - p)) ++ _) = _
    rw [List.take_append_of_le_length (by omega), List.take_take]; congr 1; omega
  have t2 : M.drop (a + (r - p)) = (L.drop a).take (p - a) ++ L.drop r := by
    show List.drop (a + (r - p)) (L.take (a + (r - p)) ++ _) = _
    rw [List.drop_append_of_le_length (by omega), List.drop_of_length_le (by omega), List.nil_append, show a + (r - p) + (p - a) = r by omega]
  rw [t1, t2, ← List.append_assoc]
  congr 1
  rw [← List.drop_take, show List.take a L = List.take a (List.take p L) by rw [List.take_take]; congr 1; omega, List.take_append_drop]

/-- The gap goes up. -/
theorem shift_up {L : Bs} {p r a : Nat} (h1 : p ≤ a) (h2 : p ≤ r) (h3 : a + (r - p) ≤ L.length) :
    let M := L.take p ++ ((L.drop r).take (a - p) ++ L.drop (p + (a - p)))
    M.length = L.length ∧ M.take a ++ M.drop (a + (r - p)) = L.take p ++ L.drop r := by
  intro M
  have e1 : ((L.drop r).take (a - p)).length = a - p := by simp; omega
  have e2 : (L.take p).length = p := by simp; omega
  refine ⟨by simp only [M, List.length_append, e1, e2, List.length_drop]; omega, ?_⟩
  have t1 : M.take a = L.take p ++ (L.drop r).take (a - p) := by
    show List.take a (L.take p ++ (_ ++ _)) = _
    rw [← List.append_assoc, List.take_append_of_le_length (by simp only [List.length_append, e1, e2]; omega)]
    exact List.take_of_length_le (by simp only [List.length_append, e1, e2]; omega)
  have t2 : M.drop (a + (r - p)) = L.drop (a + (r - p)) := by
    show List.drop (a + (r - p)) (L.take p ++ (_ ++ _)) = _
    rw [← List.append_assoc, List.drop_append, List.drop_of_length_le (by simp only [List.length_append, e1, e2]; omega), List.nil_append, List.drop_drop]
    congr 1
    simp only [List.length_append, e1, e2]; omega
  rw [t1, t2, List.append_assoc]
  congr 1
  rw [show L.drop (a + (r - p)) = (L.drop r).drop (a - p) by rw [List.drop_drop]; congr 1; omega, List.take_append_drop]

/-- What is laid at the gap's beginning. -/
theorem lay_in {L x : Bs} {a r : Nat} (h1 : a + x.length ≤ r) (h3 : r ≤ L.length) :
    let M := L.take a ++ (x ++ L.drop (a + x.length))
    M.length = L.length ∧ M.take (a + x.length) ++ M.drop r = (L.take a ++ L.drop r).take a ++ (x ++ (L.take a ++ L.drop r).drop a) := by
  intro M
  have e2 : (L.take a).length = a := by simp; omega
  refine ⟨by simp only [M, List.length_append, e2, List.length_drop]; omega, ?_⟩
  have t1 : M.take (a + x.length) = L.take a ++ x := by
    show List.take (a + x.length) (L.take a ++ (_ ++ _)) = _
    rw [← List.append_assoc, List.take_append_of_le_length (by simp only [List.length_append, e2]; omega)]
    exact List.take_of_length_le (by simp only [List.length_append, e2]; omega)
  have t2 : M.drop r = L.drop r := by
    show List.drop r (L.take a ++ (_ ++ _)) = _
    rw [← List.append_assoc, List.drop_append, List.drop_of_length_le (by simp only [List.length_append, e2]; omega), List.nil_append, List.drop_drop]
    congr 1
    simp only [List.length_append, e2]; omega
  have t3 : (L.take a ++ L.drop r).take a = L.take a := by
    rw [List.take_append_of_le_length (by omega)]; exact List.take_of_length_le (by omega)
  have t4 : (L.take a ++ L.drop r).drop a = L.drop r := by
    rw [List.drop_append_of_le_length (by omega), List.drop_of_length_le (by omega), List.nil_append]
  rw [t1, t2, t3, t4, List.append_assoc]

/-- Two parts: taken, dropped. -/
theorem parts_len {L : Bs} {p r : Nat} (h2 : p ≤ r) (h3 : r ≤ L.length) : (L.take p ++ L.drop r).length = L.length - (r - p) := by simp; omega
theorem parts_take {L : Bs} {p r : Nat} (h2 : p ≤ r) (h3 : r ≤ L.length) : (L.take p ++ L.drop r).take p = L.take p := by
  rw [List.take_append_of_le_length (by simp; omega)]; exact List.take_of_length_le (by simp; omega)
theorem parts_drop {L : Bs} {p r : Nat} (n : Nat) (h2 : p ≤ r) (h3 : r ≤ L.length) : (L.take p ++ L.drop r).drop (p + n) = L.drop (r + n) := by
  rw [List.drop_append, List.drop_of_length_le (by simp; omega), List.nil_append, List.drop_drop]
  congr 1
  simp; omega
theorem parts_at {L : Bs} {p r i : Nat} (h2 : p ≤ r) (h3 : r ≤ L.length) : (L.take p ++ L.drop r)[i]? = if i < p then L[i]? else L[i + (r - p)]? := by
  have e2 : (L.take p).length = p := by simp; omega
  split
  · rename_i h
    rw [List.getElem?_append_left (by omega), List.getElem?_take_of_lt h]
  · rename_i h
    rw [List.getElem?_append_right (by omega), List.getElem?_drop, e2]
    congr 1; omega
end ObGap
