/-
  Whether a list is normal (Normal of the page's own), carried from the sets' texts. Condition: at most 1000000 ranges.
-/
import Derived.Test.YtceeimolfalmpaaSB
namespace Go.Proofs.Ytceeimolfalmpaa.S
open Go.RowKit ObSets

/-- Is the range at a place as it should be, by itself and by the one ahead? -/
def gd (l : List R) (j : Nat) : Bool :=
  match l[j]? with
  | none => true
  | some r => sym r.1 && (sym r.2 && (decide (r.1 ≤ r.2) && (match j with
    | 0 => true
    | i + 1 => match l[i]? with
      | none => true
      | some q => ap q r)))
def normB (l : List R) : Bool := decide (∀ j, j < l.length → gd l j = true)
def GoodTo (l : List R) (k : Nat) : Prop := ∀ j, j < k → gd l j = true
theorem GoodTo.succ {l : List R} {k : Nat} (h : GoodTo l k) (h1 : gd l k = true) : GoodTo l (k + 1) := fun j hj => by
  rcases Nat.lt_or_ge j k with h2 | h2
  · exact h j h2
  · obtain rfl : j = k := by omega
    exact h1
theorem normB_false {l : List R} {k : Nat} (hk : k < l.length) (h : gd l k = false) : normB l = false := decide_eq_false fun g => by
  have := g k hk; rw [h] at this; cases this
theorem normB_true {l : List R} {k : Nat} (hk : l.length ≤ k) (h : GoodTo l k) : normB l = true := decide_eq_true fun j hj => h j (by omega)
theorem gd_zero {l : List R} {p q : Int} (h : l[0]? = some (p, q)) : gd l 0 = (sym p && (sym q && decide (p ≤ q))) := by
  unfold gd; rw [h]; simp
theorem gd_succ {l : List R} {k : Nat} {p q a b : Int} (h : l[k + 1]? = some (p, q)) (h1 : l[k]? = some (a, b)) : gd l (k + 1) = (sym p && (sym q && (decide (p ≤ q) && ap (a, b) (p, q)))) := by
  unfold gd; rw [h]; simp only [h1]
theorem gd_first {l : List R} {k : Nat} {p q : Int} (h : l[k]? = some (p, q)) (hb : (sym p && (sym q && decide (p ≤ q))) = false) : gd l k = false := by
  unfold gd; rw [h]
  simp only
  cases hp : sym p with
  | false => rfl
  | true =>
    cases hq : sym q with
    | false => rfl
    | true => rw [hp, hq] at hb; simp only [Bool.true_and] at hb; rw [hb]; rfl
theorem gd_sym {l : List R} {k : Nat} {p q : Int} (h : l[k]? = some (p, q)) (hg : gd l k = true) : sym q = true := by
  unfold gd at hg; rw [h] at hg
  simp only [Bool.and_eq_true] at hg
  exact hg.2.1
theorem normB_nrm {l : List R} (h : Nrm l) : normB l = true := decide_eq_true fun j hj => by
  have e := List.getElem?_eq_getElem hj
  have hv := h.1 _ (List.getElem_mem hj)
  cases j with
  | zero => rw [gd_zero (p := l[0].1) (q := l[0].2) e, hv.1, hv.2.1]; simpa using hv.2.2
  | succ i =>
    have hi : i < l.length := by omega
    rw [gd_succ (p := l[i + 1].1) (q := l[i + 1].2) (a := l[i].1) (b := l[i].2) e (List.getElem?_eq_getElem hi), hv.1, hv.2.1]
    have ha := List.pairwise_iff_getElem.1 h.2 i (i + 1) hi hj (by omega)
    rw [show ((l[i].1, l[i].2) : R) = l[i] from rfl, show ((l[i + 1].1, l[i + 1].2) : R) = l[i + 1] from rfl, ha]
    simpa using hv.2.2

theorem quiet_eq {P : Program} {f : FuncId} {args : Array Value} {w : World} {n : Nat} {v : Value} (h : Calls P f args (w.drewN n) fun e w' => e = .returned v ∧ w.drewN n = w') : Calls P f args (w.drewN n) fun e w'' => e = .returned v ∧ ∃ m, w'' = w.drewN m :=
  Calls.quiet_of_same (h.mono fun _ _ g => ⟨g.1, g.2.symm⟩)
set_option maxHeartbeats 2000000 in
set_option maxRecDepth 100000 in
theorem rgoodl_any (A : Option Addr) (c : Nat) (l : List R) (w : World) (h : Rgs w w.heap.size A l) (hl : l.length ≤ 1000000) :
    Calls Try.prog 55 #[.slice A l.length c] w fun e w' => e = .returned (.bool (normB l)) ∧ Below w.heap.size w w' := by
  generalize hn : l.length = n at *
  have HN := Lib.hid hn
  clear hn
  go_enter Try.func55, Try.ntmps55
  go_wp2
  go_loopw [3] (fun t wr => ∃ k : Nat, k ≤ n ∧ t = .int .i64 k ∧ GoodTo l k ∧ Below w.heap.size w wr) (fun t _ => n - (intOf t).toNat)
  case atStart => exact ⟨0, by omega, rfl, fun j hj => by omega, Below.refl _ _⟩
  case round =>
    obtain ⟨k, hk, rfl, hs, hb2⟩ := hrel
    have HS := Lib.hid hs
    clear hs
    by_cases hkn : k < n
    · obtain ⟨b, off, p, q, rfl, hbl, e1, f1, f2⟩ := (h.below hb2).at_ (k := k) (by rw [HN.out]; exact hkn)
      have E1 := Lib.hid e1
      clear e1
      have hk1 : (k : Int) < (n : Int) := by omega
      cases hp : sym p with
      | false =>
        have HF := Lib.hid (normB_false (l := l) (by rw [HN.out]; exact hkn) (gd_first E1.out (by rw [hp]; rfl)))
        go_wp2
        go_quiet (exact quiet_eq (rgood_any _ _))
        go_wp2
        go_ret
        exact ⟨ret_bool HF.out.symm, below_drews hb2 nq⟩
      | true =>
        cases hq : sym q with
        | false =>
          have HF := Lib.hid (normB_false (l := l) (by rw [HN.out]; exact hkn) (gd_first E1.out (by rw [hp, hq]; rfl)))
          go_wp2
          go_quiet (exact quiet_eq (rgood_any _ _))
          go_wp2
          go_ret
          exact ⟨ret_bool HF.out.symm, below_drews hb2 nq⟩
        | true =>
          by_cases hpq : q < p
          · have hd : decide (q < p) = true := by simp; omega
            have HF := Lib.hid (normB_false (l := l) (by rw [HN.out]; exact hkn) (gd_first E1.out (by rw [hp, hq]; simp; omega)))
            go_wp2
            go_quiet (exact quiet_eq (rgood_any _ _))
            go_wp2
            go_ret
            exact ⟨ret_bool HF.out.symm, below_drews hb2 nq⟩
          · have hd : decide (q < p) = false := by simp; omega
            cases k with
            | zero =>
              simp only [Nat.zero_mul, Nat.add_zero] at f1 f2
              have HG := Lib.hid (HS.out.succ (show gd l 0 = true by rw [gd_zero E1.out, hp, hq]; simp; omega))
              go_wp2
              go_quiet (exact quiet_eq (rgood_any _ _))
              go_wp2
              go_quiet (fail)
              go_wp2
              go_roundw
              case rel => exact ⟨1, by omega, by go_num, HG.out, below_drews hb2 _⟩
              case measure => simp [intOf]; omega
            | succ k =>
              obtain ⟨b3, off3, a, b', e3, _, e2, g1, g2⟩ := (h.below hb2).at_ (k := k) (by rw [HN.out]; omega)
              injection e3 with e3
              injection e3 with e3 e4
              subst e3; subst e4
              have hk5 : k < n := by omega
              have hk6 : (k : Int) < (n : Int) := by omega
              have hwk : IntKind.i64.wrap (k : Int) = k := IntWalk.i64_in _ (by omega)
              have hvl := gd_sym e2 (HS.out k (by omega))
              have hvl2 := sym_pos hvl
              have HGD := Lib.hid (gd_succ E1.out e2)
              have HNX := Lib.hid (rnext_any b')
              clear e2
              by_cases hmax : b' = 1114367
              · have hq1 : (b' == 1114367) = true := by simpa using hmax
                have HF := Lib.hid (normB_false (l := l) (by rw [HN.out]; exact hkn) (show gd l (k + 1) = false by rw [HGD.out, show ap (a, b') (p, q) = false by unfold ap; rw [show nx b' = -1 from nx_top.2 (by omega)]; rfl]; simp))
                clear hvl hvl2 hmax HGD
                go_wp2
                go_quiet (exact quiet_eq (rgood_any _ _))
                obtain ⟨wr2, hwr2⟩ : ∃ W, W = wr.drewN nq := ⟨_, rfl⟩
                rw [← hwr2]
                have f1' : wr2.cell? ⟨b, off + (k + 1) * 2, none⟩ = some (.int .i64 p) := by rw [hwr2]; exact f1
                have f2' : wr2.cell? ⟨b, off + (k + 1) * 2 + 1, none⟩ = some (.int .i64 q) := by rw [hwr2]; exact f2
                have g1' : wr2.cell? ⟨b, off + k * 2, none⟩ = some (.int .i64 a) := by rw [hwr2]; exact g1
                have g2' : wr2.cell? ⟨b, off + k * 2 + 1, none⟩ = some (.int .i64 b') := by rw [hwr2]; exact g2
                have hb3 : Below w.heap.size w wr2 := by rw [hwr2]; exact below_drews hb2 nq
                clear hwr2
                go_wp2
                go_quiet (fail)
                go_wp2
                go_ret
                exact ⟨ret_bool HF.out.symm, below_drews hb3 _⟩
              · have hq1 : (b' == 1114367) = false := by simpa using hmax
                have hnn : nx b' ≠ -1 := by rw [Ne, nx_top]; omega
                have hapd : ap (a, b') (p, q) = decide (nx b' < p) := by unfold ap; simp [hnn]
                rw [hapd] at HGD
                clear hvl hvl2 hmax hnn hapd
                generalize nx b' = nb at *
                by_cases hle : p ≤ nb
                · have hdp : decide (p ≤ nb) = true := by simp; omega
                  have HF := Lib.hid (normB_false (l := l) (by rw [HN.out]; exact hkn) (show gd l (k + 1) = false by rw [HGD.out, show decide (nb < p) = false by simp; omega]; simp))
                  clear HGD
                  go_wp2
                  go_quiet (exact quiet_eq (rgood_any _ _))
                  obtain ⟨wr2, hwr2⟩ : ∃ W, W = wr.drewN nq := ⟨_, rfl⟩
                  rw [← hwr2]
                  have f1' : wr2.cell? ⟨b, off + (k + 1) * 2, none⟩ = some (.int .i64 p) := by rw [hwr2]; exact f1
                  have f2' : wr2.cell? ⟨b, off + (k + 1) * 2 + 1, none⟩ = some (.int .i64 q) := by rw [hwr2]; exact f2
                  have g1' : wr2.cell? ⟨b, off + k * 2, none⟩ = some (.int .i64 a) := by rw [hwr2]; exact g1
                  have g2' : wr2.cell? ⟨b, off + k * 2 + 1, none⟩ = some (.int .i64 b') := by rw [hwr2]; exact g2
                  have hb3 : Below w.heap.size w wr2 := by rw [hwr2]; exact below_drews hb2 nq
                  clear hwr2
                  go_wp2
                  go_quiet (exact quiet_eq (HNX.out _))
                  go_wp2
                  go_ret
                  exact ⟨ret_bool HF.out.symm, below_drews hb3 _⟩
                · have hdp : decide (p ≤ nb) = false := by simp; omega
                  have HG := Lib.hid (HS.out.succ (show gd l (k + 1) = true by rw [HGD.out, hp, hq]; simp; omega))
                  clear HGD
                  go_wp2
                  go_quiet (exact quiet_eq (rgood_any _ _))
                  obtain ⟨wr2, hwr2⟩ : ∃ W, W = wr.drewN nq := ⟨_, rfl⟩
                  rw [← hwr2]
                  have f1' : wr2.cell? ⟨b, off + (k + 1) * 2, none⟩ = some (.int .i64 p) := by rw [hwr2]; exact f1
                  have f2' : wr2.cell? ⟨b, off + (k + 1) * 2 + 1, none⟩ = some (.int .i64 q) := by rw [hwr2]; exact f2
                  have g1' : wr2.cell? ⟨b, off + k * 2, none⟩ = some (.int .i64 a) := by rw [hwr2]; exact g1
                  have g2' : wr2.cell? ⟨b, off + k * 2 + 1, none⟩ = some (.int .i64 b') := by rw [hwr2]; exact g2
                  have hb3 : Below w.heap.size w wr2 := by rw [hwr2]; exact below_drews hb2 nq
                  clear hwr2
                  go_wp2
                  go_quiet (exact quiet_eq (HNX.out _))
                  go_wp2
                  go_roundw
                  case rel => exact ⟨k + 2, by omega, by go_num, HG.out, below_drews hb3 _⟩
                  case measure => simp [intOf]; omega
    · have hk1 : decide (k < n) = false := by simp; omega
      obtain rfl : k = n := by omega
      have HF := Lib.hid (normB_true (by rw [HN.out]; exact Nat.le_refl _) HS.out)
      go_wp2
      go_ret
      exact ⟨ret_bool HF.out.symm, hb2⟩
end Go.Proofs.Ytceeimolfalmpaa.S
