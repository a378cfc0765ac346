/-
  What Good of the program and Normal of the page's own answer: whether a list is normal. Condition: at most 1000000 ranges.
-/
import Derived.Test.YtfjcljhodnkieaaW9
namespace Go.Proofs.Ytfjcljhodnkieaa
open Go.RowKit ObSets

/-- Is the range at a place as it should be, by itself and by the one ahead? -/
def gd (l : List R) (j : Nat) : Bool :=
  match l[j]? with
  | none => true
  | some r => sym r.1 && (sym r.2 && (decide (r.1 ≤ r.2) && (match j with
    | 0 => true
    | i + 1 => match l[i]? with
      | none => true
      | some q => ap q r)))
def normB (l : List R) : Bool := decide (∀ j, j < l.length → gd l j = true)
def GoodTo (l : List R) (k : Nat) : Prop := ∀ j, j < k → gd l j = true
theorem GoodTo.succ {l : List R} {k : Nat} (h : GoodTo l k) (h1 : gd l k = true) : GoodTo l (k + 1) := fun j hj => by
  rcases Nat.lt_or_ge j k with h2 | h2
  · exact h j h2
  · obtain rfl : j = k := by omega
    exact h1
theorem normB_false {l : List R} {k : Nat} (hk : k < l.length) (h : gd l k = false) : normB l = false := decide_eq_false fun g => by
  have := g k hk; rw [h] at this; cases this
theorem normB_true {l : List R} {k : Nat} (hk : l.length ≤ k) (h : GoodTo l k) : normB l = true := decide_eq_true fun j hj => h j (by omega)
theorem gd_zero {l : List R} {p q : Int} (h : l[0]? = some (p, q)) : gd l 0 = (sym p && (sym q && decide (p ≤ q))) := by
  unfold gd; rw [h]; simp
theorem gd_succ {l : List R} {k : Nat} {p q a b : Int} (h : l[k + 1]? = some (p, q)) (h1 : l[k]? = some (a, b)) : gd l (k + 1) = (sym p && (sym q && (decide (p ≤ q) && ap (a, b) (p, q)))) := by
  unfold gd; rw [h]; simp only [h1]
theorem gd_first {l : List R} {k : Nat} {p q : Int} (h : l[k]? = some (p, q)) (hb : (sym p && (sym q && decide (p ≤ q))) = false) : gd l k = false := by
  unfold gd; rw [h]
  simp only
  cases hp : sym p with
  | false => rfl
  | true =>
    cases hq : sym q with
    | false => rfl
    | true => rw [hp, hq] at hb; simp only [Bool.true_and] at hb; rw [hb]; rfl
theorem gd_sym {l : List R} {k : Nat} {p q : Int} (h : l[k]? = some (p, q)) (hg : gd l k = true) : sym q = true := by
  unfold gd at hg; rw [h] at hg
  simp only [Bool.and_eq_true] at hg
  exact hg.2.1
theorem normB_nrm {l : List R} (h : Nrm l) : normB l = true := decide_eq_true fun j hj => by
  have e := List.getElem?_eq_getElem hj
  have hv := h.1 _ (List.getElem_mem hj)
  cases j with
  | zero => rw [gd_zero (p := l[0].1) (q := l[0].2) e, hv.1, hv.2.1]; simpa using hv.2.2
  | succ i =>
    have hi : i < l.length := by omega
    rw [gd_succ (p := l[i + 1].1) (q := l[i + 1].2) (a := l[i].1) (b := l[i].2) e (List.getElem?_eq_getElem hi), hv.1, hv.2.1]
    have ha := List.pairwise_iff_getElem.1 h.2 i (i + 1) hi hj (by omega)
    rw [show ((l[i].1, l[i].2) : R) = l[i] from rfl, show ((l[i + 1].1, l[i + 1].2) : R) = l[i + 1] from rfl, ha]
    simpa using hv.2.2

set_option maxHeartbeats 2000000 in
set_option maxRecDepth 100000 in
theorem goodl_any (A : Option Addr) (c : Nat) (l : List R) (w : World) (h : Rgs w w.heap.size A l) (hl : l.length ≤ 1000000) :
    Calls Try.prog 11 #[.slice A l.length c] w fun e w' => e = .returned (.bool (normB l)) ∧ Below w.heap.size w w' := by
  generalize hn : l.length = n at *
  have HN := Lib.hid hn
  clear hn
  go_enter Try.func11, Try.ntmps11
  go_wp2
  go_loopw [7] (fun t wr => ∃ k : Nat, k ≤ n ∧ t = .int .i64 k ∧ GoodTo l k ∧ Below w.heap.size w wr) (fun t _ => n - (intOf t).toNat)
  case atStart => exact ⟨0, by omega, rfl, fun j hj => by omega, Below.refl _ _⟩
  case round =>
    obtain ⟨k, hk, rfl, hs, hb2⟩ := hrel
    have HS := Lib.hid hs
    clear hs
    by_cases hkn : k < n
    · obtain ⟨b, off, p, q, rfl, hbl, e1, f1, f2⟩ := (h.below hb2).at_ (k := k) (by rw [HN.out]; exact hkn)
      have E1 := Lib.hid e1
      clear e1
      have hk1 : (k : Int) < (n : Int) := by omega
      have hsz := Lib.hid hb2.size
      have HB3 := Lib.hid (hb2.alloc hb2.size (.cells #[.int .i64 p, .int .i64 q] 32))
      cases hp : sym p with
      | false =>
        have HF := Lib.hid (normB_false (l := l) (by rw [HN.out]; exact hkn) (gd_first E1.out (by rw [hp]; rfl)))
        go_wp2_with (go_at_call 32; refine (good_any _ _).mono ?_; rintro e w' ⟨rfl, rfl⟩)
        go_ret
        exact ⟨ret_bool HF.out.symm, HB3.out⟩
      | true =>
        cases hq : sym q with
        | false =>
          have HF := Lib.hid (normB_false (l := l) (by rw [HN.out]; exact hkn) (gd_first E1.out (by rw [hp, hq]; rfl)))
          go_wp2_with (go_at_call 32; refine (good_any _ _).mono ?_; rintro e w' ⟨rfl, rfl⟩)
          go_ret
          exact ⟨ret_bool HF.out.symm, HB3.out⟩
        | true =>
          by_cases hpq : q < p
          · have hd : decide (q < p) = true := by simp; omega
            have HF := Lib.hid (normB_false (l := l) (by rw [HN.out]; exact hkn) (gd_first E1.out (by rw [hp, hq]; simp; omega)))
            go_wp2_with (go_at_call 32; refine (good_any _ _).mono ?_; rintro e w' ⟨rfl, rfl⟩)
            go_ret
            exact ⟨ret_bool HF.out.symm, HB3.out⟩
          · have hd : decide (q < p) = false := by simp; omega
            cases k with
            | zero =>
              simp only [Nat.zero_mul, Nat.add_zero] at f1 f2
              have HG := Lib.hid (HS.out.succ (show gd l 0 = true by rw [gd_zero E1.out, hp, hq]; simp; omega))
              go_wp2_with (go_at_call 32; refine (good_any _ _).mono ?_; rintro e w' ⟨rfl, rfl⟩)
              go_quiet (fail)
              go_wp2
              go_roundw
              case rel => exact ⟨1, by omega, by go_num, HG.out, below_drews HB3.out nq⟩
              case measure => simp [intOf]; omega
            | succ k =>
              obtain ⟨b3, off3, a, b', e3, _, e2, g1, g2⟩ := (h.below hb2).at_ (k := k) (by rw [HN.out]; omega)
              injection e3 with e3
              injection e3 with e3 e4
              subst e3; subst e4
              have hk5 : k < n := by omega
              have hk6 : (k : Int) < (n : Int) := by omega
              have hwk : IntKind.i64.wrap (k : Int) = k := IntWalk.i64_in _ (by omega)
              have hbw : b < wr.heap.size := by have := hsz.out; omega
              have hk7 : (0 : Int) ≤ (k : Int) := by omega
              have hk8 : IntKind.i64.wrap ((k : Int) + 1 - 1) = k := IntWalk.i64_in _ (by omega) |>.trans (by omega)
              have s1 : (wr.alloc (.cells #[.int .i64 p, .int .i64 q] 32)).cell? ⟨b, off + k * 2, none⟩ = some (.int .i64 a) := (World.cell?_alloc_lt wr _ ⟨b, off + k * 2, none⟩ hbw).trans g1
              have s2 : (wr.alloc (.cells #[.int .i64 p, .int .i64 q] 32)).cell? ⟨b, off + k * 2 + 1, none⟩ = some (.int .i64 b') := (World.cell?_alloc_lt wr _ ⟨b, off + k * 2 + 1, none⟩ hbw).trans g2
              have s3 : (wr.alloc (.cells #[.int .i64 p, .int .i64 q] 32)).cell? ⟨wr.heap.size, 0, none⟩ = some (.int .i64 p) := by simp
              have s4 : (wr.alloc (.cells #[.int .i64 p, .int .i64 q] 32)).cell? ⟨wr.heap.size, 1, none⟩ = some (.int .i64 q) := by simp
              have HAP := Lib.hid (apart_any (a, b') (p, q))
              have HGD := Lib.hid (gd_succ E1.out e2)
              clear e2
              cases hap : ap (a, b') (p, q) with
              | true =>
                have HG := Lib.hid (HS.out.succ (show gd l (k + 1) = true by rw [HGD.out, hp, hq, hap]; simp; omega))
                rw [hap] at HAP
                clear hap HGD
                unfold rv at HAP
                simp only at HAP
                go_wp2_with (go_at_call 32; refine (good_any _ _).mono ?_; rintro e w' ⟨rfl, rfl⟩)
                go_region_held3 (fun W => W.cell? ⟨b, off + k * 2, none⟩ = some (.int .i64 a) ∧ W.cell? ⟨b, off + k * 2 + 1, none⟩ = some (.int .i64 b') ∧ W.cell? ⟨wr.heap.size, 0, none⟩ = some (.int .i64 p) ∧ W.cell? ⟨wr.heap.size, 1, none⟩ = some (.int .i64 q)) (first | exact ⟨s1, s2, s3, s4⟩ | exact four hb3 s1 s2 s3 s4) (first | (go_at_call 33; refine (HAP.out _).mono ?_; rintro e w3 ⟨rfl, hb3⟩))
                all_goals (
                  have HB4 := Lib.hid (bel_trans HB3.out.drew hb3)
                  clear hb3
                  go_wp2
                  go_roundw
                  case rel => exact ⟨k + 2, by omega, by go_num, HG.out, HB4.out⟩
                  case measure => simp [intOf]; omega)
              | false =>
                have HF := Lib.hid (normB_false (l := l) (by rw [HN.out]; exact hkn) (show gd l (k + 1) = false by rw [HGD.out, hap]; simp))
                rw [hap] at HAP
                clear hap HGD
                unfold rv at HAP
                simp only at HAP
                go_wp2_with (go_at_call 32; refine (good_any _ _).mono ?_; rintro e w' ⟨rfl, rfl⟩)
                go_region_held3 (fun W => W.cell? ⟨b, off + k * 2, none⟩ = some (.int .i64 a) ∧ W.cell? ⟨b, off + k * 2 + 1, none⟩ = some (.int .i64 b') ∧ W.cell? ⟨wr.heap.size, 0, none⟩ = some (.int .i64 p) ∧ W.cell? ⟨wr.heap.size, 1, none⟩ = some (.int .i64 q)) (first | exact ⟨s1, s2, s3, s4⟩ | exact four hb3 s1 s2 s3 s4) (first | (go_at_call 33; refine (HAP.out _).mono ?_; rintro e w3 ⟨rfl, hb3⟩))
                all_goals (
                  have HB4 := Lib.hid (bel_trans HB3.out.drew hb3)
                  clear hb3
                  go_wp2
                  go_ret
                  exact ⟨ret_bool HF.out.symm, HB4.out⟩)
    · have hk1 : decide (k < n) = false := by simp; omega
      obtain rfl : k = n := by omega
      have HF := Lib.hid (normB_true (by rw [HN.out]; exact Nat.le_refl _) HS.out)
      go_wp2
      go_ret
      exact ⟨ret_bool HF.out.symm, hb2⟩
end Go.Proofs.Ytfjcljhodnkieaa
