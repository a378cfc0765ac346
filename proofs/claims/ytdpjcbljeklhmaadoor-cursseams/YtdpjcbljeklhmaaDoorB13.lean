/-
  What Move, Insert and Delete of a buffer answer and leave.
-/
import Derived.Test.YtdpjcbljeklhmaaDoorB12
namespace Go.Proofs.YtdpjcbljeklhmaaDoor
open Go.RowKit ObGap

theorem Bu.mono {w : World} {F G : Nat → Prop} {b mx : Nat} {s : Bs} {p : Nat} (h : Bu w F b mx s p) (hG : ∀ k, F k → G k) (hl : ∀ k, G k → k < w.heap.size) : Bu w G b mx s p := by
  obtain ⟨V, qs, U, h1, h2, _, h4⟩ := h
  exact ⟨V, qs, U, h1.mono hG, h2.mono hG, hl, h4⟩
theorem Bu.hF {w : World} {F : Nat → Prop} {b mx : Nat} {s : Bs} {p : Nat} (h : Bu w F b mx s p) : ∀ k, F k → k < w.heap.size := by
  obtain ⟨V, qs, U, h1, h2, h3, _⟩ := h; exact h3
theorem Bu.fb {w : World} {F : Nat → Prop} {b mx : Nat} {s : Bs} {p : Nat} (h : Bu w F b mx s p) : F b := by
  obtain ⟨V, qs, U, h1, _⟩ := h; exact h1.fb
theorem Bu0.fb {w : World} {F : Nat → Prop} {b mx : Nat} {s : Bs} {p : Nat} (h : Bu0 w F b mx s p) : F b := by
  obtain ⟨V, qs, U, h1, _⟩ := h; exact h1.fb
theorem Bu0.cell3 {w : World} {F : Nat → Prop} {b mx : Nat} {s : Bs} {p : Nat} (h : Bu0 w F b mx s p) : w.cell? ⟨b, 3, none⟩ = some (.int .i64 (p : Int)) ∧ w.frozen? ⟨b, 3, none⟩ = false := by
  obtain ⟨V, qs, U, h1, _⟩ := h; exact ⟨h1.cells.2.2.2.1, h1.cells.2.2.2.2 3⟩
theorem Bu.lens {w : World} {F : Nat → Prop} {b mx : Nat} {s : Bs} {p : Nat} (h : Bu w F b mx s p) : s.length ≤ 1048576 ∧ p ≤ s.length := by
  obtain ⟨V, qs, U, _, _, _, _, _, h1, h2⟩ := h; exact ⟨h1, h2⟩
/-- Nothing done. -/
theorem Edt.same {F : Nat → Prop} {b mx : Nat} {s : Bs} {p : Nat} {w w' : World} (v : Value) (h : Bu w F b mx s p) (hb : Below w.heap.size w w') : Edt F b mx s p w v (.returned v) w' := by
  have h1 := h.on hb
  refine ⟨rfl, h1.mono (fun k hk => .inl hk) (fun k hk => hk.lt h.hF hb.size), (Gs.of (F := F) hb).to fun k hk => hk.imp id And.left⟩
/-- The place stored behind an edit. -/
theorem Edt0.place {F : Nat → Prop} {b mx : Nat} {s : Bs} {p q : Nat} {w w' : World} {v u : Value} {e : Ending} (h : Edt0 F b mx s p w u e w') (hq : q ≤ s.length) : Edt F b mx s q w v (.returned v) (w'.setCell ⟨b, 3, none⟩ (.int .i64 (q : Int))) := by
  obtain ⟨_, h1, h2⟩ := h
  have sz : (w'.setCell ⟨b, 3, none⟩ (.int .i64 (q : Int))).heap.size = w'.heap.size := by simp [World.setCell]
  have e : ∀ k, Fn F w (w'.setCell ⟨b, 3, none⟩ (.int .i64 (q : Int))) k ↔ Fn F w w' k := fun k => by unfold Fn New; rw [sz]
  have hfb := h1.fb
  refine ⟨rfl, ?_, ?_⟩
  · have h3 := h1.place hq
    exact h3.mono (fun k hk => (e k).2 hk) (fun k hk => h3.hF k ((e k).1 hk))
  · exact (h2.trans (Gs.set w' hfb 3 _)).to fun k hk => .inl ((e k).1 hk)
theorem Edt.any {F : Nat → Prop} {b mx : Nat} {s : Bs} {p : Nat} {w w' : World} {v : Value} {e : Ending} (h : Edt F b mx s p w v e w') : Edt0 F b mx s p w v e w' := ⟨h.1, h.2.1.any, h.2.2⟩
section
variable {w : World} {F : Nat → Prop} {b mx : Nat} {s : Bs} {p : Nat}
set_option maxHeartbeats 1000000 in
theorem bmove_bu (h : Bu w F b mx s p) (i : Int) : Calls Tryd.prog 29 #[ptr b, .int .i64 i] w (Edt F b mx s (movP s p i) w (.int .i64 (movE s i))) := by
  have HR := brefuse_bu h i
  have HH := Lib.hid h
  cases ho : out s i with
  | true =>
    have hE : movE s i = 2 := by unfold movE; rw [ho]; rfl
    have hP : movP s p i = p := by unfold movP; rw [ho]; rfl
    rw [hE] at HR ⊢
    rw [hP]
    have HR2 := Lib.hid HR
    clear HR h ho hE hP
    go_enter Tryd.func29, Tryd.ntmps29
    go_wp2_with fail
    refine HR2.out.mono ?_
    rintro e w1 ⟨rfl, rfl⟩
    go_wp2_with fail
    go_ret
    exact Edt.same _ HH.out (Below.refl _ _)
  | false =>
    have hE : movE s i = 0 := by unfold movE; rw [ho]; rfl
    have hP : movP s p i = i.toNat := by unfold movP; rw [ho]; rfl
    have hi := out_false ho
    obtain ⟨a, rfl⟩ : ∃ a : Nat, i = a := ⟨i.toNat, by omega⟩
    rw [hE] at HR ⊢
    rw [hP, Int.toNat_natCast]
    have HR2 := Lib.hid HR
    obtain ⟨c3, f3⟩ := h.any.cell3
    clear HR h ho hE hP
    go_enter Tryd.func29, Tryd.ntmps29
    go_wp2_with fail
    refine HR2.out.mono ?_
    rintro e w1 ⟨rfl, rfl⟩
    go_wp2_with fail
    go_ret
    exact Edt0.place (Edt.same (.int .i64 0) HH.out (Below.refl _ _)).any (by omega)
theorem str_ne {x : Bs} (h : 1 ≤ x.length) : x.isEmpty = false := by
  cases x with
  | nil => simp at h
  | cons _ _ => rfl
set_option maxHeartbeats 1000000 in
theorem binsert_bu (h : Bu w F b mx s p) (i : Int) (x : Bs) (hxl : x.length ≤ 2097152) : Calls Tryd.prog 28 #[ptr b, .int .i64 i, str x] w (Edt F b mx (insS 1048576 s i x) (insP 1048576 s p i x) w (.int .i64 (insE 1048576 s i x))) := by
  have HR := brefuse_bu h i
  have HH := Lib.hid h
  have hl := h.lens
  cases ho : out s i with
  | true =>
    have hE : movE s i = 2 := by unfold movE; rw [ho]; rfl
    rw [insE_out ho, insS_out ho, insP_out ho]
    rw [hE] at HR
    have HR2 := Lib.hid HR
    clear HR h ho hE
    go_enter Tryd.func28, Tryd.ntmps28
    go_wp2_with fail
    refine HR2.out.mono ?_
    rintro e w1 ⟨rfl, rfl⟩
    go_wp2_with fail
    go_ret
    exact Edt.same _ HH.out (Below.refl _ _)
  | false =>
    have hE : movE s i = 0 := by unfold movE; rw [ho]; rfl
    have hi := out_false ho
    obtain ⟨a, rfl⟩ : ∃ a : Nat, i = a := ⟨i.toNat, by omega⟩
    rw [hE] at HR
    have HR2 := Lib.hid HR
    have HRO := Lib.hid (broom_bu h)
    obtain ⟨c3, f3⟩ := h.any.cell3
    by_cases hbig : 1048576 < s.length + x.length
    · rw [insE_big ho hbig, insS_big ho hbig, insP_big ho hbig]
      have d1 : decide ((1048576 : Int) - (s.length : Int) < (x.length : Int)) = true := decide_eq_true (by omega)
      clear HR h ho hE
      go_enter Tryd.func28, Tryd.ntmps28
      go_wp2_with fail
      refine HR2.out.mono ?_
      rintro e w1 ⟨rfl, rfl⟩
      go_wp2_with fail
      refine HRO.out.mono ?_
      rintro e w2 ⟨rfl, rfl⟩
      go_wp2_with fail
      go_ret
      exact Edt.same _ HH.out (Below.refl _ _)
    · rw [insE_in ho hbig, insS_in ho hbig, insP_in ho hbig, Int.toNat_natCast]
      have d1 : decide ((1048576 : Int) - (s.length : Int) < (x.length : Int)) = false := decide_eq_false (by omega)
      have wq : IntKind.i64.wrap ((a : Int) + (x.length : Int)) = ((a + x.length : Nat) : Int) := (IntWalk.i64_in _ (by omega)).trans (by omega)
      rcases Nat.eq_zero_or_pos x.length with h0 | h0
      · have hx : x = [] := List.eq_nil_of_length_eq_zero h0
        subst hx
        have e1 : s.take a ++ ([] ++ s.drop a) = s := by simp
        rw [e1]
        clear HR h ho hE
        go_enter Tryd.func28, Tryd.ntmps28
        go_wp2_with fail
        refine HR2.out.mono ?_
        rintro e w1 ⟨rfl, rfl⟩
        go_wp2_with fail
        refine HRO.out.mono ?_
        rintro e w2 ⟨rfl, rfl⟩
        go_wp2_with fail
        go_ret
        exact Edt0.place (Edt.same (.int .i64 0) HH.out (Below.refl _ _)).any (by simp at hi ⊢; omega)
      · have ne1 := str_ne h0
        have HPU := Lib.hid (put_bu h a x (by omega) h0 (by omega))
        clear HR h ho hE
        go_enter Tryd.func28, Tryd.ntmps28
        go_wp2_with fail
        refine HR2.out.mono ?_
        rintro e w1 ⟨rfl, rfl⟩
        go_wp2_with fail
        refine HRO.out.mono ?_
        rintro e w2 ⟨rfl, rfl⟩
        go_wp2_with fail
        refine HPU.out.mono ?_
        intro e w3 he
        have HE := Lib.hid he
        obtain ⟨p3, g3⟩ := he.2.1.any.cell3
        obtain ⟨rfl, _⟩ := he
        go_wp2_with fail
        go_ret
        exact Edt0.place HE.out.any (by simp; omega)
set_option maxHeartbeats 1000000 in
theorem bdelete_bu (h : Bu w F b mx s p) (i n : Int) : Calls Tryd.prog 31 #[ptr b, .int .i64 i, .int .i64 n] w (Edt F b mx (delS s i n) (delP s p i n) w (.int .i64 (delE s i n))) := by
  have HR := brefuse_bu h i
  have HH := Lib.hid h
  have hl := h.lens
  have HL := Lib.hid (blen_bu h)
  cases ho : out s i with
  | true =>
    have hE : movE s i = 2 := by unfold movE; rw [ho]; rfl
    have hB : delB s i n = true := by unfold delB; rw [ho]; rfl
    have e1 : delE s i n = 2 := by unfold delE; rw [hB]; rfl
    have e2 : delS s i n = s := by unfold delS; rw [hB]; rfl
    have e3 : delP s p i n = p := by unfold delP; rw [hB]; rfl
    rw [e1, e2, e3]
    rw [hE] at HR
    have HR2 := Lib.hid HR
    clear HR h ho hE hB e1 e2 e3
    go_enter Tryd.func31, Tryd.ntmps31
    go_wp2_with fail
    refine HR2.out.mono ?_
    rintro e w1 ⟨rfl, rfl⟩
    go_wp2_with fail
    go_ret
    exact Edt.same _ HH.out (Below.refl _ _)
  | false =>
    have hE : movE s i = 0 := by unfold movE; rw [ho]; rfl
    have hi := out_false ho
    obtain ⟨a, rfl⟩ : ∃ a : Nat, i = a := ⟨i.toNat, by omega⟩
    rw [hE] at HR
    have HR2 := Lib.hid HR
    obtain ⟨c3, f3⟩ := h.any.cell3
    have wq : IntKind.i64.wrap ((s.length : Int) - (a : Int)) = (s.length : Int) - (a : Int) := IntWalk.i64_in _ (by omega)
    cases hB : delB s (a : Int) n with
    | true =>
      have e1 : delE s (a : Int) n = 2 := by unfold delE; rw [hB]; rfl
      have e2 : delS s (a : Int) n = s := by unfold delS; rw [hB]; rfl
      have e3 : delP s p (a : Int) n = p := by unfold delP; rw [hB]; rfl
      rw [e1, e2, e3]
      rcases dels hB ho with d1 | ⟨d1, d2⟩
      · clear HR h ho hE hB e1 e2 e3
        go_enter Tryd.func31, Tryd.ntmps31
        go_wp2_with fail
        refine HR2.out.mono ?_
        rintro e w1 ⟨rfl, rfl⟩
        go_wp2_with fail
        go_ret
        exact Edt.same _ HH.out (Below.refl _ _)
      · clear HR h ho hE hB e1 e2 e3
        go_enter Tryd.func31, Tryd.ntmps31
        go_wp2_with fail
        refine HR2.out.mono ?_
        rintro e w1 ⟨rfl, rfl⟩
        go_wp2_with fail
        refine HL.out.mono ?_
        rintro e w2 ⟨rfl, rfl⟩
        go_wp2_with fail
        go_ret
        exact Edt.same _ HH.out (Below.refl _ _)
    | false =>
      have hn : 0 ≤ n ∧ n ≤ (s.length : Int) - a := by
        unfold delB at hB
        rw [ho] at hB
        simp only [Bool.false_or, Bool.or_eq_false_iff, decide_eq_false_iff_not] at hB
        omega
      obtain ⟨m, rfl⟩ : ∃ m : Nat, n = m := ⟨n.toNat, by omega⟩
      have e1 : delE s (a : Int) (m : Int) = 0 := by unfold delE; rw [hB]; rfl
      have e2 : delS s (a : Int) (m : Int) = s.take a ++ s.drop (a + m) := by unfold delS; rw [hB]; rfl
      have e3 : delP s p (a : Int) (m : Int) = a := by unfold delP; rw [hB]; rfl
      have d1 : decide ((m : Int) < 0) = false := decide_eq_false (by omega)
      have d2 : decide ((s.length : Int) - (a : Int) < (m : Int)) = false := decide_eq_false (by omega)
      have wq2 : IntKind.i64.wrap ((a : Int) + (m : Int)) = ((a + m : Nat) : Int) := (IntWalk.i64_in _ (by omega)).trans (by omega)
      rw [e1, e2, e3]
      rcases Nat.eq_zero_or_pos m with h0 | h0
      · subst h0
        have e4 : s.take a ++ s.drop (a + 0) = s := by rw [Nat.add_zero, List.take_append_drop]
        rw [e4]
        clear HR h ho hE hB e1 e2 e3
        go_enter Tryd.func31, Tryd.ntmps31
        go_wp2_with fail
        refine HR2.out.mono ?_
        rintro e w1 ⟨rfl, rfl⟩
        go_wp2_with fail
        refine HL.out.mono ?_
        rintro e w2 ⟨rfl, rfl⟩
        go_wp2_with fail
        go_ret
        exact Edt0.place (Edt.same (.int .i64 0) HH.out (Below.refl _ _)).any (by omega)
      · have d3 : decide (0 < m) = true := decide_eq_true h0
        have HDR := Lib.hid (drop_bu h a (a + m) (by omega) (by omega))
        clear HR h ho hE hB e1 e2 e3
        go_enter Tryd.func31, Tryd.ntmps31
        go_wp2_with fail
        refine HR2.out.mono ?_
        rintro e w1 ⟨rfl, rfl⟩
        go_wp2_with fail
        refine HL.out.mono ?_
        rintro e w2 ⟨rfl, rfl⟩
        go_wp2_with fail
        refine HDR.out.mono ?_
        intro e w3 he
        have HE := Lib.hid he
        obtain ⟨p3, g3⟩ := he.2.1.cell3
        obtain ⟨rfl, _⟩ := he
        go_wp2_with fail
        go_ret
        exact Edt0.place HE.out (by simp; omega)
end
end Go.Proofs.YtdpjcbljeklhmaaDoor
