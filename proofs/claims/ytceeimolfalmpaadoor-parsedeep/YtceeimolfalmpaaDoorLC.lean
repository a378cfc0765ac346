/-
  What the reader's escaped and escape answer and leave, for every text and place. Conditions: the reader's block is as it should be and stands at a 92; the two tables of unicode/utf8 lie as their text lays them.
  What the reader's unit and item (in a class) and escape answer and leave. Conditions: the reader's block is as it should be, its place within the text (for escape: at a 92); the two tables of unicode/utf8 lie as their text lays them.
-/
import Derived.Test.YtceeimolfalmpaaDoorLB
import Derived.RegionTactic
namespace Go.Proofs.YtceeimolfalmpaaDoor
open Go.RowKit ObUtf ObSets ObLex

theorem heap_new (w : World) (o : Obj) : (w.alloc o).heap[w.heap.size]? = some o := by
  show (w.heap.push o)[w.heap.size]? = _
  simp
theorem keepB {w w' : World} {r c : Nat} {o : Obj} (h : w.heap[r]? = some o) (hx : Ex c w w') (hne : r ≠ c) : w'.heap[r]? = some o := (hx.block _ (lt_of_heap h) hne).trans h
theorem keepL {w w' : World} {r : Nat} {o : Obj} (h : w.heap[r]? = some o) (hb : Below w.heap.size w w') : w'.heap[r]? = some o := (hb.block _ (lt_of_heap h)).trans h
theorem blk2 {w : World} {r : Nat} {a b : Value} {t : TypeId} (h : w.heap[r]? = some (.cells #[a, b] t (0, 0))) : w.cell? ⟨r, 0, none⟩ = some a ∧ w.cell? ⟨r, 1, none⟩ = some b ∧ w.frozen? ⟨r, 0, none⟩ = false ∧ w.frozen? ⟨r, 1, none⟩ = false := by
  refine ⟨by simp [World.cell?, h], by simp [World.cell?, h], by simp [World.frozen?, h], by simp [World.frozen?, h]⟩
theorem blk5 {w : World} {r : Nat} {a b d e f : Value} {t : TypeId} (h : w.heap[r]? = some (.cells #[a, b, d, e, f] t (0, 0))) : (w.cell? ⟨r, 0, none⟩ = some a ∧ w.cell? ⟨r, 1, none⟩ = some b ∧ w.cell? ⟨r, 2, none⟩ = some d ∧ w.cell? ⟨r, 3, none⟩ = some e ∧ w.cell? ⟨r, 4, none⟩ = some f) ∧ (w.frozen? ⟨r, 0, none⟩ = false ∧ w.frozen? ⟨r, 1, none⟩ = false ∧ w.frozen? ⟨r, 2, none⟩ = false ∧ w.frozen? ⟨r, 3, none⟩ = false ∧ w.frozen? ⟨r, 4, none⟩ = false) := by
  refine ⟨⟨by simp [World.cell?, h], by simp [World.cell?, h], by simp [World.cell?, h], by simp [World.cell?, h], by simp [World.cell?, h]⟩, by simp [World.frozen?, h], by simp [World.frozen?, h], by simp [World.frozen?, h], by simp [World.frozen?, h], by simp [World.frozen?, h]⟩
theorem Ex.set {c r : Nat} {w W : World} (h : Ex c w W) (hr : w.heap.size ≤ r) (k : Nat) (v : Value) : Ex c w (W.setCell ⟨r, k, none⟩ v) :=
  ⟨h.os, h.tape, h.output, by simpa [World.setCell] using h.size, fun j hj hne => (Below.heap_setCell _ _ _ _ (by show j ≠ r; omega)).trans (h.block j hj hne)⟩
theorem Ex.one (r : Nat) (w : World) (k : Nat) (v : Value) : Ex r w (w.setCell ⟨r, k, none⟩ v) := (Ex.refl r w).setL k v
theorem Rd.past {w w' : World} {c r : Nat} {s : ByteArray} {i : Nat} (h : Rd w c s i) (hx : Ex r w w') (hr : c ≠ r) (h2 : 2 ≤ r) : Rd w' c s i :=
  ⟨keepB h.1 hx hr, h.2.1, Tb.ex h.2.2.1 h2 hx, h.2.2.2⟩
theorem Rd.set {w : World} {c r : Nat} {s : ByteArray} {i : Nat} (h : Rd w c s i) (hr : c ≠ r) (h2 : 2 ≤ r) (k : Nat) (v : Value) : Rd (w.setCell ⟨r, k, none⟩ v) c s i := h.past (Ex.one r w k v) hr h2
theorem Rd.alloc {w : World} {c : Nat} {s : ByteArray} {i : Nat} (h : Rd w c s i) (o : Obj) : Rd (w.alloc o) c s i := h.on ((Below.refl _ w).alloc (Nat.le_refl _) o)
theorem Rd.drews {w : World} {c : Nat} {s : ByteArray} {i : Nat} (h : Rd w c s i) (n : Nat) : Rd (w.drewN n) c s i := h.on (below_drews (Below.refl _ _) n)
theorem Rd.drew {w : World} {c : Nat} {s : ByteArray} {i : Nat} (h : Rd w c s i) : Rd w.drew c s i := h.on (Below.refl _ _).drew
theorem S.Ow.set {w : World} {B r : Nat} {v : Value} {l : List R} (h : S.Ow w B v l) (hr : r < B) (k : Nat) (u : Value) : S.Ow (w.setCell ⟨r, k, none⟩ u) B v l := h.ex (Ex.one r w k u) hr
theorem S.Ow.drew {w : World} {B : Nat} {v : Value} {l : List R} (h : S.Ow w B v l) : S.Ow w.drew B v l := h.below (Below.refl _ _).drew
theorem S.Ow.drews {w : World} {B : Nat} {v : Value} {l : List R} (h : S.Ow w B v l) (n : Nat) : S.Ow (w.drewN n) B v l := h.below (below_drews (Below.refl _ _) n)
theorem S.Ow.new {w : World} {B : Nat} {v : Value} {l : List R} (h : S.Ow w B v l) (o : Obj) : S.Ow (w.alloc o) B v l := h.below ((Below.refl _ w).alloc (Nat.le_refl _) o)

/-- The cell of a fault. -/
abbrev fo : Obj := .cells #[.int .i64 0, .int .i64 0] 28
abbrev to_ : Obj := .cells #[.int .i64 0, .int .i64 0, .slice none 0 0, .int .i64 0, .int .i64 0] 50
theorem at92 {s : ByteArray} {i : Nat} (h : bt s i = 92) : i < s.size ∧ sy s i = 92 ∧ wd s i = 1 := by
  have hi : i < s.size := bt_in (by omega)
  have := low hi (by omega)
  exact ⟨hi, by rw [this.2, h]; rfl, this.1⟩
theorem RetR.some_ {l : List R} {w w' : World} {e : Ending} (h : S.RetR l w e w') (hne : l ≠ []) : ∃ g k, e = .returned (.slice (some ⟨g, 0, none⟩) l.length k) ∧ S.Ow w' w.heap.size (.slice (some ⟨g, 0, none⟩) l.length k) l ∧ Below w.heap.size w w' := by
  obtain ⟨v, rfl, ho, hb⟩ := h
  obtain ⟨A, k, rfl, _, _, hr, hh⟩ := ho.shape
  rcases hh with hh | ⟨g, rfl, _⟩
  · exact absurd hh hne
  · exact ⟨g, k, rfl, ho, hb⟩
/-- None of the six letters. -/
def NoKind (x : Int) : Prop := x ≠ 100 ∧ x ≠ 119 ∧ x ≠ 115 ∧ x ≠ 68 ∧ x ≠ 87 ∧ x ≠ 83
theorem kind_ne {x : Int} (h : x = 100 ∨ x = 119 ∨ x = 115 ∨ x = 68 ∨ x = 87 ∨ x = 83) : kind x ≠ [] := by
  rcases h with e | e | e | e | e | e <;> rw [e] <;> decide
theorem esc_bad {x : Int} {n : Nat} {e : Int} (h : escOf x n = .bad e) : NoKind x ∧ ((49 ≤ x ∧ x ≤ 57 ∧ e = 5) ∨ ((x < 49 ∨ 57 < x) ∧ sngl x < 0 ∧ e = 4)) := by
  rcases kind_cases x with hk | ⟨h1, h2, h3, h4, h5, h6, hk⟩
  · exfalso
    unfold escOf at h
    rw [if_neg (by omega), if_neg (by omega), if_neg (by omega), if_neg (by omega), if_pos (kind_ne hk)] at h
    cases h
  · refine ⟨⟨h1, h2, h3, h4, h5, h6⟩, ?_⟩
    unfold escOf at h
    rw [hk] at h
    simp only [ne_eq, not_true_eq_false, if_false] at h
    unfold sngl
    split at h
    · injection h with h
      refine .inr ⟨by omega, ?_, by omega⟩
      rw [if_neg (by omega), if_neg (by omega), if_neg (by omega)]
      split <;> omega
    · split at h
      · cases h
      · split at h
        · cases h
        · split at h
          · cases h
          · split at h
            · injection h with h; exact .inl ⟨by omega, by omega, by omega⟩
            · split at h
              · injection h with h
                rename_i ha
                exact .inr ⟨by omega, by rw [if_neg (by assumption), if_neg (by assumption), if_neg (by assumption), if_pos ha]; omega, by omega⟩
              · cases h
theorem esc_one {x : Int} {n : Nat} {y : Int} {m : Nat} (h : escOf x n = .one y m) (hn : 0 ≤ x → x < 128 → n = 1) : NoKind x ∧ (x < 49 ∨ 57 < x) ∧ sngl x = y ∧ 0 ≤ y ∧ m = 1 + n ∧ 0 ≤ x := by
  rcases kind_cases x with hk | ⟨h1, h2, h3, h4, h5, h6, hk⟩
  · exfalso
    unfold escOf at h
    rw [if_neg (by omega), if_neg (by omega), if_neg (by omega), if_neg (by omega), if_pos (kind_ne hk)] at h
    cases h
  · refine ⟨⟨h1, h2, h3, h4, h5, h6⟩, ?_⟩
    unfold escOf at h
    rw [hk] at h
    simp only [ne_eq, not_true_eq_false, if_false] at h
    unfold sngl
    split at h
    · cases h
    · have hn' := hn (by omega)
      split at h
      · injection h with ha hb; subst_vars; simp; omega
      · split at h
        · injection h with ha hb; subst_vars; simp; omega
        · split at h
          · injection h with ha hb; subst_vars; simp; omega
          · split at h
            · cases h
            · split at h
              · cases h
              · injection h with ha hb
                rename_i hal
                refine ⟨by omega, ?_, by omega, by omega, by omega⟩
                rw [if_neg (by assumption), if_neg (by assumption), if_neg (by assumption), if_neg hal]; exact ha
theorem esc_many {x : Int} {n : Nat} {l : List R} (h : escOf x n = .many l) : (x = 100 ∨ x = 119 ∨ x = 115 ∨ x = 68 ∨ x = 87 ∨ x = 83) ∧ l = kind x := by
  rcases kind_cases x with hk | ⟨h1, h2, h3, h4, h5, h6, hk⟩
  · refine ⟨hk, ?_⟩
    unfold escOf at h
    rw [if_neg (by omega), if_neg (by omega), if_neg (by omega), if_neg (by omega), if_pos (kind_ne hk)] at h
    injection h with h
    exact h.symm
  · exfalso
    unfold escOf at h
    rw [hk] at h
    simp only [ne_eq, not_true_eq_false, if_false] at h
    (repeat' split at h) <;> cases h
section
variable {w : World} {c : Nat} {s : ByteArray} {i : Nat}
theorem take_92 (h : Rd w c s i) (h92 : bt s i = 92) : Calls Tryd.prog 36 #[ptr c] w fun e w' => e = .returned (.int .i64 92) ∧ Rd w' c s (i + 1) ∧ Ex c w w' := by
  have ht := take_rd h
  obtain ⟨_, e1, e2⟩ := at92 h92
  rw [e1, e2] at ht
  exact ht
set_option maxHeartbeats 1000000 in
set_option maxRecDepth 100000 in
theorem escaped_many (h : Rd w c s i) (h92 : bt s i = 92) (hk : sy s (i + 1) = 100 ∨ sy s (i + 1) = 119 ∨ sy s (i + 1) = 115 ∨ sy s (i + 1) = 68 ∨ sy s (i + 1) = 87 ∨ sy s (i + 1) = 83) :
    Calls Tryd.prog 31 #[ptr c] w fun e w' => ∃ v, e = .returned (.tuple #[.int .i64 (-1), v, fv 0 0]) ∧ S.Ow w' w.heap.size v (kind (sy s (i + 1))) ∧ Rd w' c s (i + 2) ∧ Ex c w w' := by
  have hlt := h.lt
  have h2 := h.2.1
  have hw : wd s (i + 1) = 1 := (one_of (show i + 1 < s.size by rcases Nat.lt_or_ge (i + 1) s.size with h1 | h1; exact h1; have := sy_out h1; omega) (by omega)).1
  have hne : (kind (sy s (i + 1))) ≠ [] := by rcases hk with e | e | e | e | e | e <;> rw [e] <;> decide
  obtain ⟨c0, c1, _⟩ := (h.alloc fo).cells
  have HR := Lib.hid (h.alloc fo)
  have HB := Lib.hid (heap_new w fo)
  have hs0 : (w.alloc fo).heap.size = w.heap.size + 1 := by simp
  have HS := Lib.hid hs0
  clear h
  generalize hx : sy s (i + 1) = x at *
  have H92 := Lib.hid h92
  have HW := Lib.hid hw
  have HXE := Lib.hid hx
  clear h92 hw hx hs0
  go_enter Tryd.func31, Tryd.ntmps31
  go_wp2_with fail
  refine (take_92 HR.out H92.out).mono ?_
  rintro e w1 ⟨rfl, hR1, hx1⟩
  go_wp2_with fail
  refine (take_rd hR1).mono ?_
  rw [HXE.out, HW.out]
  rintro e w2 ⟨rfl, hR2, hx2⟩
  go_wp2_with fail
  refine (several_some x w2 hk).mono ?_
  intro e w3 hr3
  obtain ⟨g, k, rfl, ho3, hb3⟩ := RetR.some_ hr3 hne
  have hx3 := (hx1.trans hx2).on hb3
  obtain ⟨t0, t1, t2, t3⟩ := blk2 (keepB HB.out hx3 (by omega))
  have hz := hx2.size
  have hz1 := hx1.size
  rw [HS.out] at hz1
  generalize hl : (kind x).length = n at *
  go_wp2_with fail
  refine bodyPost_ret (v := .tuple #[.int .i64 (-1), .slice (some ⟨g, 0, none⟩) n k, fv 0 0]) ?_ rfl ⟨_, rfl, ?_, ?_, ?_⟩
  · rw [results_ttc rfl]; go_simp
  · exact ((ho3.set (by omega) 0 _).set (by omega) 1 _).less (by omega)
  · exact ((hR2.on hb3).set (by omega) (by omega) 0 _).set (by omega) (by omega) 1 _
  · exact (((Ex.of (c := c) ((Below.refl _ w).alloc (Nat.le_refl _) fo)).trans hx3).set (Nat.le_refl _) 0 _).set (Nat.le_refl _) 1 _
set_option maxHeartbeats 1000000 in
set_option maxRecDepth 100000 in
theorem escaped_bad (h : Rd w c s i) (h92 : bt s i = 92) {er : Int} (he : esc s i = .bad er) :
    Calls Tryd.prog 31 #[ptr c] w fun e w' => e = .returned (.tuple #[.int .i64 (-1), nls, fv er (i : Int)]) ∧ (∃ j, Rd w' c s j) ∧ Ex c w w' := by
  obtain ⟨⟨h1, h2', h3, h4, h5, h6⟩, hcase⟩ := esc_bad he
  have hlt := h.lt
  have h2 := h.2.1
  obtain ⟨c0, c1, _⟩ := (h.alloc fo).cells
  have HR := Lib.hid (h.alloc fo)
  have HB := Lib.hid (heap_new w fo)
  have HS := Lib.hid (show (w.alloc fo).heap.size = w.heap.size + 1 by simp)
  have H92 := Lib.hid h92
  clear h h92 he
  have HSV := Lib.hid (fun W => several_none _ W h1 h2' h3 h4 h5 h6)
  have HSG := Lib.hid (single_any (sy s (i + 1)))
  generalize hx : sy s (i + 1) = x at *
  have HXE := Lib.hid hx
  clear hx h1 h2' h3 h4 h5 h6
  rcases hcase with ⟨a1, a2, rfl⟩ | ⟨a1, a2, rfl⟩
  · have d1 : decide (49 ≤ x) = true := decide_eq_true a1
    have d2 : decide (x ≤ 57) = true := decide_eq_true a2
    go_enter Tryd.func31, Tryd.ntmps31
    go_wp2_with fail
    refine (take_92 HR.out H92.out).mono ?_
    rintro e w1 ⟨rfl, hR1, hx1⟩
    go_wp2_with fail
    refine (take_rd hR1).mono ?_
    rw [HXE.out]
    rintro e w2 ⟨rfl, hR2, hx2⟩
    go_wp2_with fail
    refine (HSV.out w2).mono ?_
    rintro e w3 ⟨rfl, rfl⟩
    have hx3 := hx1.trans hx2
    obtain ⟨t0, t1, t2, t3⟩ := blk2 (keepB HB.out hx3 (by omega))
    go_wp2_with fail
    refine bodyPost_ret (v := .tuple #[.int .i64 (-1), nls, fv 5 (i : Int)]) ?_ rfl ⟨rfl, ⟨i + 1 + wd s (i + 1), ?_⟩, ?_⟩
    · rw [results_ttc rfl]; go_simp
    · exact (hR2.set (by omega) (by omega) 0 _).set (by omega) (by omega) 1 _
    · exact (((Ex.of (c := c) ((Below.refl _ w).alloc (Nat.le_refl _) fo)).trans hx3).set (Nat.le_refl _) 0 _).set (Nat.le_refl _) 1 _
  · have d1 : (decide (49 ≤ x) && decide (x ≤ 57)) = false := by simp; omega
    have d3 : decide (sngl x < 0) = true := decide_eq_true a2
    generalize sngl x = y at *
    rcases (show x < 49 ∨ (49 ≤ x ∧ 57 < x) by omega) with b1 | ⟨b1, b2⟩
    · have d4 : decide (49 ≤ x) = false := decide_eq_false (by omega)
      go_enter Tryd.func31, Tryd.ntmps31
      go_wp2_with fail
      refine (take_92 HR.out H92.out).mono ?_
      rintro e w1 ⟨rfl, hR1, hx1⟩
      go_wp2_with fail
      refine (take_rd hR1).mono ?_
      rw [HXE.out]
      rintro e w2 ⟨rfl, hR2, hx2⟩
      go_wp2_with fail
      refine (HSV.out w2).mono ?_
      rintro e w3 ⟨rfl, rfl⟩
      go_wp2_with fail
      refine (HSG.out w2).mono ?_
      rintro e w3 ⟨rfl, rfl⟩
      go_wp2_with fail
      refine (syntaxAt_any (i : Int) w2).mono ?_
      rintro e w3 ⟨rfl, hb3⟩
      have hx3 := (hx1.trans hx2).on hb3
      obtain ⟨t0, t1, t2, t3⟩ := blk2 (keepB HB.out hx3 (by omega))
      go_wp2_with fail
      refine bodyPost_ret (v := .tuple #[.int .i64 (-1), nls, fv 4 (i : Int)]) ?_ rfl ⟨rfl, ⟨i + 1 + wd s (i + 1), ?_⟩, ?_⟩
      · rw [results_ttc rfl]; go_simp
      · exact ((hR2.on hb3).set (by omega) (by omega) 0 _).set (by omega) (by omega) 1 _
      · exact (((Ex.of (c := c) ((Below.refl _ w).alloc (Nat.le_refl _) fo)).trans hx3).set (Nat.le_refl _) 0 _).set (Nat.le_refl _) 1 _
    · have d4 : decide (49 ≤ x) = true := decide_eq_true b1
      have d5 : decide (x ≤ 57) = false := decide_eq_false (by omega)
      go_enter Tryd.func31, Tryd.ntmps31
      go_wp2_with fail
      refine (take_92 HR.out H92.out).mono ?_
      rintro e w1 ⟨rfl, hR1, hx1⟩
      go_wp2_with fail
      refine (take_rd hR1).mono ?_
      rw [HXE.out]
      rintro e w2 ⟨rfl, hR2, hx2⟩
      go_wp2_with fail
      refine (HSV.out w2).mono ?_
      rintro e w3 ⟨rfl, rfl⟩
      go_wp2_with fail
      refine (HSG.out w2).mono ?_
      rintro e w3 ⟨rfl, rfl⟩
      go_wp2_with fail
      refine (syntaxAt_any (i : Int) w2).mono ?_
      rintro e w3 ⟨rfl, hb3⟩
      have hx3 := (hx1.trans hx2).on hb3
      obtain ⟨t0, t1, t2, t3⟩ := blk2 (keepB HB.out hx3 (by omega))
      go_wp2_with fail
      refine bodyPost_ret (v := .tuple #[.int .i64 (-1), nls, fv 4 (i : Int)]) ?_ rfl ⟨rfl, ⟨i + 1 + wd s (i + 1), ?_⟩, ?_⟩
      · rw [results_ttc rfl]; go_simp
      · exact ((hR2.on hb3).set (by omega) (by omega) 0 _).set (by omega) (by omega) 1 _
      · exact (((Ex.of (c := c) ((Below.refl _ w).alloc (Nat.le_refl _) fo)).trans hx3).set (Nat.le_refl _) 0 _).set (Nat.le_refl _) 1 _
set_option maxHeartbeats 1000000 in
set_option maxRecDepth 100000 in
theorem escaped_one (h : Rd w c s i) (h92 : bt s i = 92) {y : Int} {m : Nat} (he : esc s i = .one y m) :
    Calls Tryd.prog 31 #[ptr c] w fun e w' => e = .returned (.tuple #[.int .i64 y, nls, fv 0 0]) ∧ Rd w' c s (i + m) ∧ Ex c w w' := by
  obtain ⟨⟨h1, h2', h3, h4, h5, h6⟩, a1, a2, a3, a4, a5⟩ := esc_one he (fun h0 h1 => by
    have hi : i + 1 < s.size := by
      rcases Nat.lt_or_ge (i + 1) s.size with h1 | h1
      · exact h1
      · have := sy_out h1; omega
    exact (one_of hi h1).1)
  have hlt := h.lt
  have h2 := h.2.1
  obtain ⟨c0, c1, _⟩ := (h.alloc fo).cells
  have HR := Lib.hid (h.alloc fo)
  have HB := Lib.hid (heap_new w fo)
  have H92 := Lib.hid h92
  have HM := Lib.hid (show i + m = i + 1 + wd s (i + 1) by omega)
  clear h h92 he a4
  have HSV := Lib.hid (fun W => several_none _ W h1 h2' h3 h4 h5 h6)
  have HSG := Lib.hid (single_any (sy s (i + 1)))
  rw [a2] at HSG
  generalize hx : sy s (i + 1) = x at *
  have HXE := Lib.hid hx
  clear hx h1 h2' h3 h4 h5 h6 a2
  have d3 : decide (y < 0) = false := decide_eq_false (by omega)
  rcases (show x < 49 ∨ (49 ≤ x ∧ 57 < x) by omega) with b1 | ⟨b1, b2⟩
  · have d4 : decide (49 ≤ x) = false := decide_eq_false (by omega)
    go_enter Tryd.func31, Tryd.ntmps31
    go_wp2_with fail
    refine (take_92 HR.out H92.out).mono ?_
    rintro e w1 ⟨rfl, hR1, hx1⟩
    go_wp2_with fail
    refine (take_rd hR1).mono ?_
    rw [HXE.out, ← HM.out]
    rintro e w2 ⟨rfl, hR2, hx2⟩
    go_wp2_with fail
    refine (HSV.out w2).mono ?_
    rintro e w3 ⟨rfl, rfl⟩
    go_wp2_with fail
    refine (HSG.out w2).mono ?_
    rintro e w3 ⟨rfl, rfl⟩
    have hx3 := hx1.trans hx2
    obtain ⟨t0, t1, t2, t3⟩ := blk2 (keepB HB.out hx3 (by omega))
    go_wp2_with fail
    refine bodyPost_ret (v := .tuple #[.int .i64 y, nls, fv 0 0]) ?_ rfl ⟨rfl, ?_, ?_⟩
    · rw [results_ttc rfl]; go_simp
    · exact (hR2.set (by omega) (by omega) 0 _).set (by omega) (by omega) 1 _
    · exact (((Ex.of (c := c) ((Below.refl _ w).alloc (Nat.le_refl _) fo)).trans hx3).set (Nat.le_refl _) 0 _).set (Nat.le_refl _) 1 _
  · have d4 : decide (49 ≤ x) = true := decide_eq_true b1
    have d5 : decide (x ≤ 57) = false := decide_eq_false (by omega)
    go_enter Tryd.func31, Tryd.ntmps31
    go_wp2_with fail
    refine (take_92 HR.out H92.out).mono ?_
    rintro e w1 ⟨rfl, hR1, hx1⟩
    go_wp2_with fail
    refine (take_rd hR1).mono ?_
    rw [HXE.out, ← HM.out]
    rintro e w2 ⟨rfl, hR2, hx2⟩
    go_wp2_with fail
    refine (HSV.out w2).mono ?_
    rintro e w3 ⟨rfl, rfl⟩
    go_wp2_with fail
    refine (HSG.out w2).mono ?_
    rintro e w3 ⟨rfl, rfl⟩
    have hx3 := hx1.trans hx2
    obtain ⟨t0, t1, t2, t3⟩ := blk2 (keepB HB.out hx3 (by omega))
    go_wp2_with fail
    refine bodyPost_ret (v := .tuple #[.int .i64 y, nls, fv 0 0]) ?_ rfl ⟨rfl, ?_, ?_⟩
    · rw [results_ttc rfl]; go_simp
    · exact (hR2.set (by omega) (by omega) 0 _).set (by omega) (by omega) 1 _
    · exact (((Ex.of (c := c) ((Below.refl _ w).alloc (Nat.le_refl _) fo)).trans hx3).set (Nat.le_refl _) 0 _).set (Nat.le_refl _) 1 _
end
end Go.Proofs.YtceeimolfalmpaaDoor

namespace Go.Proofs.YtceeimolfalmpaaDoor
open Go.RowKit ObUtf ObSets ObLex

/-- What is handed back for what begins at a place: a symbol or -1, a set, a fault; and how far the reader has come. -/
def UP (E : Esc) (p : Nat) (x : Int) (v : Value) (er a : Int) (j : Nat) (B : Nat) (w' : World) : Prop :=
  match E with
  | .bad e => x = -1 ∧ v = nls ∧ er = e ∧ a = p ∧ (e = 4 ∨ e = 5)
  | .one y n => x = y ∧ v = nls ∧ er = 0 ∧ a = 0 ∧ j = p + n ∧ 0 ≤ y
  | .many l => x = -1 ∧ er = 0 ∧ a = 0 ∧ j = p + 2 ∧ S.Ow w' B v l
def RetU (E : Esc) (p : Nat) (c : Nat) (s : ByteArray) (w : World) (e : Ending) (w' : World) : Prop :=
  ∃ x A n k er a j, e = .returned (.tuple #[.int .i64 x, .slice A n k, fv er a]) ∧ UP E p x (.slice A n k) er a j w.heap.size w' ∧ Rd w' c s j ∧ Ex c w w'
theorem UP.on {E : Esc} {p : Nat} {x : Int} {v : Value} {er a : Int} {j B B' : Nat} {w w' : World} (h : UP E p x v er a j B w) (hk : ∀ l, S.Ow w B v l → S.Ow w' B' v l) : UP E p x v er a j B' w' := by
  cases E with
  | bad e => exact h
  | one y n => exact h
  | many l => exact ⟨h.1, h.2.1, h.2.2.1, h.2.2.2.1, hk _ h.2.2.2.2⟩
section
variable {w : World} {c : Nat} {s : ByteArray} {i : Nat}
theorem escaped_any (h : Rd w c s i) (h92 : bt s i = 92) : Calls Tryd.prog 31 #[ptr c] w (RetU (esc s i) i c s w) := by
  cases he : esc s i with
  | bad er =>
    refine (escaped_bad h h92 he).mono ?_
    rintro e w' ⟨rfl, ⟨j, hR⟩, hx⟩
    have := (esc_bad he).2
    exact ⟨_, _, _, _, _, _, j, rfl, ⟨rfl, rfl, rfl, rfl, by omega⟩, hR, hx⟩
  | one y n =>
    refine (escaped_one h h92 he).mono ?_
    rintro e w' ⟨rfl, hR, hx⟩
    have := esc_one he (fun h0 h1 => by
      have hi : i + 1 < s.size := by
        rcases Nat.lt_or_ge (i + 1) s.size with h1 | h1
        · exact h1
        · have := sy_out h1; omega
      exact (one_of hi h1).1)
    exact ⟨_, _, _, _, _, _, _, rfl, ⟨rfl, rfl, rfl, rfl, rfl, this.2.2.2.1⟩, hR, hx⟩
  | many l =>
    obtain ⟨hk, rfl⟩ := esc_many he
    refine (escaped_many h h92 hk).mono ?_
    rintro e w' ⟨v, rfl, ho, hR, hx⟩
    obtain ⟨A, k, rfl, _⟩ := ho.shape
    exact ⟨_, _, _, _, _, _, _, rfl, ⟨rfl, rfl, rfl, rfl, ho⟩, hR, hx⟩
set_option maxHeartbeats 1000000 in
set_option maxRecDepth 100000 in
theorem unit_any (h : Rd w c s i) (hi : i < s.size) : Calls Tryd.prog 49 #[ptr c] w (RetU (unit s i) i c s w) := by
  have hlt := h.lt
  have h2 := h.2.1
  obtain ⟨c0, c1, _⟩ := (h.alloc fo).cells
  have HR := Lib.hid (h.alloc fo)
  have HB := Lib.hid (heap_new w fo)
  have HS := Lib.hid (show (w.alloc fo).heap.size = w.heap.size + 1 by simp)
  have hg := U.bt_eq s i hi
  have HX0 := Lib.hid (Ex.of (c := c) ((Below.refl _ w).alloc (Nat.le_refl _) fo))
  have hz := h.2.2.2.2
  clear h
  unfold unit
  by_cases h92 : bt s i = 92
  · rw [if_pos h92]
    have e1 : (((s[i]'hi).toNat : Int) == 92) = true := by rw [← hg, h92]; rfl
    have H92 := Lib.hid h92
    clear h92 hg
    go_enter Tryd.func49, Tryd.ntmps49
    go_wp2_with fail
    go_quiet (fail)
    go_wp2_with fail
    refine (escaped_any (HR.out.drews nq) H92.out).mono ?_
    rintro e w1 ⟨x, A, n, k, er, a, j, rfl, hu, hR1, hx1⟩
    have hx2 := (Ex.of (c := c) (below_drews (Below.refl _ (w.alloc fo)) nq)).trans hx1
    obtain ⟨t0, t1, t2, t3⟩ := blk2 (keepB HB.out hx2 (by omega))
    go_wp2_with fail
    refine bodyPost_ret (v := .tuple #[.int .i64 x, .slice A n k, fv er a]) ?_ rfl ⟨x, A, n, k, er, a, j, rfl, ?_, ?_, ?_⟩
    · rw [results_ttc rfl]; go_simp
    · refine hu.on fun l ho => ((ho.set ?_ 0 _).set ?_ 1 _).less ?_
      all_goals (have := HS.out; simp at this ⊢)
    · exact (hR1.set (by omega) (by omega) 0 _).set (by omega) (by omega) 1 _
    · exact ((HX0.out.trans hx2).set (Nat.le_refl _) 0 _).set (Nat.le_refl _) 1 _
  · rw [if_neg h92]
    have e1 : (((s[i]'hi).toNat : Int) == 92) = false := by rw [← hg]; exact beq_eq_false_iff_ne.2 (by omega)
    by_cases hd : bt s i = 45 ∨ bt s i = 93
    · rw [if_pos hd]
      have hcs : ((((s[i]'hi).toNat : Int) == 45) = true) ∨ ((((s[i]'hi).toNat : Int) == 45) = false ∧ (((s[i]'hi).toNat : Int) == 93) = true) := by
        rw [← hg]
        rcases hd with hd | hd
        · left; rw [hd]; rfl
        · right; rw [hd]; exact ⟨rfl, rfl⟩
      clear h92 hg hd
      rcases hcs with e2 | ⟨e2, e3⟩
      all_goals (
        go_enter Tryd.func49, Tryd.ntmps49
        go_wp2_with fail
        go_quiet (fail)
        go_wp2_with fail
        refine (syntaxAt_any (i : Int) _).mono ?_
        rintro e w1 ⟨rfl, hb1⟩
        have hx2 := (Ex.of (c := c) (below_drews (Below.refl _ (w.alloc fo)) nq)).on hb1
        obtain ⟨t0, t1, t2, t3⟩ := blk2 (keepB HB.out hx2 (by omega))
        go_wp2_with fail
        refine bodyPost_ret (v := .tuple #[.int .i64 (-1), nls, fv 4 (i : Int)]) ?_ rfl ⟨_, _, _, _, _, _, i, rfl, ⟨rfl, rfl, rfl, rfl, .inl rfl⟩, ?_, ?_⟩
        · rw [results_ttc rfl]; go_simp
        · exact (((HR.out.drews nq).on hb1).set (by omega) (by omega) 0 _).set (by omega) (by omega) 1 _
        · exact ((HX0.out.trans hx2).set (Nat.le_refl _) 0 _).set (Nat.le_refl _) 1 _)
    · rw [if_neg hd]
      have e2 : (((s[i]'hi).toNat : Int) == 45) = false := by rw [← hg]; exact beq_eq_false_iff_ne.2 (by omega)
      have e3 : (((s[i]'hi).toNat : Int) == 93) = false := by rw [← hg]; exact beq_eq_false_iff_ne.2 (by omega)
      have hsy := (sy_range hi).1
      clear h92 hg hd
      go_enter Tryd.func49, Tryd.ntmps49
      go_wp2_with fail
      go_quiet (fail)
      go_wp2_with fail
      refine (take_rd (HR.out.drews nq)).mono ?_
      rintro e w1 ⟨rfl, hR1, hx1⟩
      have hx2 := (Ex.of (c := c) (below_drews (Below.refl _ (w.alloc fo)) nq)).trans hx1
      obtain ⟨t0, t1, t2, t3⟩ := blk2 (keepB HB.out hx2 (by omega))
      go_wp2_with fail
      refine bodyPost_ret (v := .tuple #[.int .i64 (sy s i), nls, fv 0 0]) ?_ rfl ⟨_, _, _, _, _, _, _, rfl, ⟨rfl, rfl, rfl, rfl, rfl, hsy⟩, ?_, ?_⟩
      · rw [results_ttc rfl]; go_simp
      · exact (hR1.set (by omega) (by omega) 0 _).set (by omega) (by omega) 1 _
      · exact ((HX0.out.trans hx2).set (Nat.le_refl _) 0 _).set (Nat.le_refl _) 1 _
end
end Go.Proofs.YtceeimolfalmpaaDoor
