/-
  What the page's own end and single (in a class) answer. Conditions: the text has at most 100000 bytes; for single: the class ends.
-/
import Derived.Test.YtceeimolfalmpaaGreatDoorRA
import Derived.Test.YtceeimolfalmpaaGreatDoorLA
namespace Go.Proofs.YtceeimolfalmpaaGreatDoor
open Go.RowKit ObUtf ObSets ObLex

/-- Where a class's items begin. -/
def fr (s : ByteArray) (i : Nat) : Nat := if bt s (i + 1) = 94 then i + 2 else i + 1
theorem fr_cend (s : ByteArray) (i : Nat) : cend s (fr s i) = cend s (i + 1) := cend_from
theorem rat_is {s : ByteArray} {i : Nat} {x : Int} {n : Nat} (hs : s.size ≤ 100000) (hx : sy s i = x) (hn : wd s i = n) {j : Int} (hj : (i : Int) = j) (w : World) : Calls Tryz.prog 74 #[.string s, .int .i64 j] w fun e w' => e = .returned (.tuple #[.int .i64 x, .int .i64 (n : Int)]) ∧ Below w.heap.size w w' := by
  have := rat_nat s i w hs
  rw [hx, hn, hj] at this
  exact this
set_option maxHeartbeats 1000000 in
set_option maxRecDepth 100000 in
theorem rend_any (s : ByteArray) (i : Nat) (w : World) (hs : s.size ≤ 100000) (hi : i < s.size) {T : Int} (hres : (∃ t : Nat, cend s (i + 1) = some t ∧ T = t) ∨ (cend s (i + 1) = none ∧ T = -1)) {f : Nat} (hf : f = fr s i) :
    Calls Tryz.prog 114 #[.string s, .int .i64 (i : Int)] w fun e w' => e = .returned (.tuple #[.int .i64 T, .int .i64 (f : Int)]) ∧ Below w.heap.size w w' := by
  rw [← fr_cend, ← hf] at hres
  have HRES := Lib.hid hres
  clear hres
  have hfl : f ≤ s.size + 1 := by rw [hf]; unfold fr; split <;> omega
  by_cases h94 : bt s (i + 1) = 94
  · have hi1 : i + 1 < s.size := bt_in (by omega)
    have hfe : f = i + 2 := by rw [hf]; unfold fr; rw [if_pos h94]
    have hg := U.bt_eq s (i + 1) hi1
    have e1 : (((s[i + 1]'hi1).toNat : Int) == 94) = true := by rw [← hg, h94]; rfl
    have d1 : (i : Int) + 1 < (s.size : Int) := by omega
    subst hfe
    clear hf hg h94
    go_enter Tryz.func114, Tryz.ntmps114
    go_wp2_with fail
    go_loopw [7] (fun t wr => ∃ k : Nat, t = .int .i64 (k : Int) ∧ Hid (cend s k = cend s (i + 2)) ∧ k ≤ s.size + 1 ∧ Below w.heap.size w wr) (fun t _ => s.size + 1 - (intOf t).toNat)
    case atStart => exact ⟨i + 2, congrArg (Value.int .i64) (by omega), rfl, by omega, Below.refl _ _⟩
    case round =>
      obtain ⟨k, rfl, HC, hkl, hb⟩ := hrel
      by_cases hk : k < s.size
      · have d2 : decide (k < s.size) = true := decide_eq_true hk
        have hgk := U.bt_eq s k hk
        by_cases h93 : bt s k = 93
        · have e2 : (((s[k]'hk).toNat : Int) == 93) = true := by rw [← hgk, h93]; rfl
          obtain rfl : T = k := by
            have := HRES.out
            rw [← HC.out, cend_end h93] at this
            rcases this with ⟨t, e, h1⟩ | ⟨e, _⟩
            · injection e with e; subst e; exact h1
            · cases e
          clear hgk
          go_wp2_with fail
          go_ret2
          exact ⟨rfl, hb⟩
        · have e2 : (((s[k]'hk).toNat : Int) == 93) = false := by rw [← hgk]; exact beq_eq_false_iff_ne.2 (by omega)
          by_cases h92 : bt s k = 92
          · have e3 : (((s[k]'hk).toNat : Int) == 92) = true := by rw [← hgk, h92]; rfl
            have HA := Lib.hid (fun W => rat_is hs (rfl : sy s (k + 1) = _) (rfl : wd s (k + 1) = _) (show ((k + 1 : Nat) : Int) = (k : Int) + 1 by omega) W)
            have hw4 := wd_le s (k + 1)
            have hwf : k + 1 + wd s (k + 1) ≤ s.size := wd_fit (by omega)
            by_cases hk1 : k + 1 < s.size
            · have hwp := wd_pos hk1
              have HC2 := Lib.hid ((cend_two h92).symm.trans HC.out)
              generalize sy s (k + 1) = x at *
              generalize wd s (k + 1) = n at *
              have e4 : ((n : Int) == 0) = false := beq_eq_false_iff_ne.2 (by omega)
              clear hgk
              go_wp2_with fail
              refine (HA.out _).mono ?_
              rintro e w1 ⟨rfl, hb1⟩
              go_wp2_with fail
              go_roundw
              case rel => exact ⟨k + 1 + n, congrArg (Value.int .i64) (by omega), HC2.out, by omega, hb.trans (hb1.mono hb.size)⟩
              case measure => simp [intOf]; omega
            · obtain rfl : T = -1 := by
                have := HRES.out
                rw [← HC.out, cend_esc0 h92 (by omega)] at this
                rcases this with ⟨t, e, h1⟩ | ⟨_, h1⟩
                · cases e
                · exact h1
              rw [wd_out (by omega)] at HA
              generalize sy s (k + 1) = x at *
              clear hgk
              go_wp2_with fail
              refine (HA.out _).mono ?_
              rintro e w1 ⟨rfl, hb1⟩
              go_wp2_with fail
              go_ret2
              exact ⟨rfl, hb.trans (hb1.mono hb.size)⟩
          · have e3 : (((s[k]'hk).toNat : Int) == 92) = false := by rw [← hgk]; exact beq_eq_false_iff_ne.2 (by omega)
            have HA := Lib.hid (fun W => rat_is hs (rfl : sy s k = _) (rfl : wd s k = _) (rfl : (k : Int) = _) W)
            have hwp := wd_pos hk
            have hw4 := wd_le s k
            have hwf : k + wd s k ≤ s.size := wd_fit (by omega)
            have HC2 := Lib.hid ((cend_step hk h93 h92).symm.trans HC.out)
            generalize sy s k = x at *
            generalize wd s k = n at *
            have e4 : ((n : Int) == 0) = false := beq_eq_false_iff_ne.2 (by omega)
            clear hgk
            go_wp2_with fail
            refine (HA.out _).mono ?_
            rintro e w1 ⟨rfl, hb1⟩
            go_wp2_with fail
            go_roundw
            case rel => exact ⟨k + n, congrArg (Value.int .i64) (by omega), HC2.out, by omega, hb.trans (hb1.mono hb.size)⟩
            case measure => simp [intOf]; omega
      · have d2 : decide (k < s.size) = false := decide_eq_false hk
        obtain rfl : T = -1 := by
          have := HRES.out
          rw [← HC.out, cend_out (by omega)] at this
          rcases this with ⟨t, e, h1⟩ | ⟨_, h1⟩
          · cases e
          · exact h1
        go_wp2_with fail
        go_ret2
        exact ⟨rfl, hb⟩
  · have hfe : f = i + 1 := by rw [hf]; unfold fr; rw [if_neg h94]
    subst hfe
    clear hf
    by_cases hi1 : i + 1 < s.size
    · have hg := U.bt_eq s (i + 1) hi1
      have e1 : (((s[i + 1]'hi1).toNat : Int) == 94) = false := by rw [← hg]; exact beq_eq_false_iff_ne.2 (by omega)
      have d1 : (i : Int) + 1 < (s.size : Int) := by omega
      clear hg h94
      go_enter Tryz.func114, Tryz.ntmps114
      go_wp2_with fail
      go_loopw [7] (fun t wr => ∃ k : Nat, t = .int .i64 (k : Int) ∧ Hid (cend s k = cend s (i + 1)) ∧ k ≤ s.size + 1 ∧ Below w.heap.size w wr) (fun t _ => s.size + 1 - (intOf t).toNat)
      case atStart => exact ⟨i + 1, congrArg (Value.int .i64) (by omega), rfl, by omega, Below.refl _ _⟩
      case round =>
        obtain ⟨k, rfl, HC, hkl, hb⟩ := hrel
        by_cases hk : k < s.size
        · have d2 : decide (k < s.size) = true := decide_eq_true hk
          have hgk := U.bt_eq s k hk
          by_cases h93 : bt s k = 93
          · have e2 : (((s[k]'hk).toNat : Int) == 93) = true := by rw [← hgk, h93]; rfl
            obtain rfl : T = k := by
              have := HRES.out
              rw [← HC.out, cend_end h93] at this
              rcases this with ⟨t, e, h1⟩ | ⟨e, _⟩
              · injection e with e; subst e; exact h1
              · cases e
            clear hgk
            go_wp2_with fail
            go_ret2
            exact ⟨rfl, hb⟩
          · have e2 : (((s[k]'hk).toNat : Int) == 93) = false := by rw [← hgk]; exact beq_eq_false_iff_ne.2 (by omega)
            by_cases h92 : bt s k = 92
            · have e3 : (((s[k]'hk).toNat : Int) == 92) = true := by rw [← hgk, h92]; rfl
              have HA := Lib.hid (fun W => rat_is hs (rfl : sy s (k + 1) = _) (rfl : wd s (k + 1) = _) (show ((k + 1 : Nat) : Int) = (k : Int) + 1 by omega) W)
              have hw4 := wd_le s (k + 1)
              have hwf : k + 1 + wd s (k + 1) ≤ s.size := wd_fit (by omega)
              by_cases hk1 : k + 1 < s.size
              · have hwp := wd_pos hk1
                have HC2 := Lib.hid ((cend_two h92).symm.trans HC.out)
                generalize sy s (k + 1) = x at *
                generalize wd s (k + 1) = n at *
                have e4 : ((n : Int) == 0) = false := beq_eq_false_iff_ne.2 (by omega)
                clear hgk
                go_wp2_with fail
                refine (HA.out _).mono ?_
                rintro e w1 ⟨rfl, hb1⟩
                go_wp2_with fail
                go_roundw
                case rel => exact ⟨k + 1 + n, congrArg (Value.int .i64) (by omega), HC2.out, by omega, hb.trans (hb1.mono hb.size)⟩
                case measure => simp [intOf]; omega
              · obtain rfl : T = -1 := by
                  have := HRES.out
                  rw [← HC.out, cend_esc0 h92 (by omega)] at this
                  rcases this with ⟨t, e, h1⟩ | ⟨_, h1⟩
                  · cases e
                  · exact h1
                rw [wd_out (by omega)] at HA
                generalize sy s (k + 1) = x at *
                clear hgk
                go_wp2_with fail
                refine (HA.out _).mono ?_
                rintro e w1 ⟨rfl, hb1⟩
                go_wp2_with fail
                go_ret2
                exact ⟨rfl, hb.trans (hb1.mono hb.size)⟩
            · have e3 : (((s[k]'hk).toNat : Int) == 92) = false := by rw [← hgk]; exact beq_eq_false_iff_ne.2 (by omega)
              have HA := Lib.hid (fun W => rat_is hs (rfl : sy s k = _) (rfl : wd s k = _) (rfl : (k : Int) = _) W)
              have hwp := wd_pos hk
              have hw4 := wd_le s k
              have hwf : k + wd s k ≤ s.size := wd_fit (by omega)
              have HC2 := Lib.hid ((cend_step hk h93 h92).symm.trans HC.out)
              generalize sy s k = x at *
              generalize wd s k = n at *
              have e4 : ((n : Int) == 0) = false := beq_eq_false_iff_ne.2 (by omega)
              clear hgk
              go_wp2_with fail
              refine (HA.out _).mono ?_
              rintro e w1 ⟨rfl, hb1⟩
              go_wp2_with fail
              go_roundw
              case rel => exact ⟨k + n, congrArg (Value.int .i64) (by omega), HC2.out, by omega, hb.trans (hb1.mono hb.size)⟩
              case measure => simp [intOf]; omega
        · have d2 : decide (k < s.size) = false := decide_eq_false hk
          obtain rfl : T = -1 := by
            have := HRES.out
            rw [← HC.out, cend_out (by omega)] at this
            rcases this with ⟨t, e, h1⟩ | ⟨_, h1⟩
            · cases e
            · exact h1
          go_wp2_with fail
          go_ret2
          exact ⟨rfl, hb⟩
    · have d1 : decide ((i : Int) + 1 < (s.size : Int)) = false := decide_eq_false (by omega)
      clear h94
      go_enter Tryz.func114, Tryz.ntmps114
      go_wp2_with fail
      go_loopw [7] (fun t wr => ∃ k : Nat, t = .int .i64 (k : Int) ∧ Hid (cend s k = cend s (i + 1)) ∧ k ≤ s.size + 1 ∧ Below w.heap.size w wr) (fun t _ => s.size + 1 - (intOf t).toNat)
      case atStart => exact ⟨i + 1, congrArg (Value.int .i64) (by omega), rfl, by omega, Below.refl _ _⟩
      case round =>
        obtain ⟨k, rfl, HC, hkl, hb⟩ := hrel
        by_cases hk : k < s.size
        · have d2 : decide (k < s.size) = true := decide_eq_true hk
          have hgk := U.bt_eq s k hk
          by_cases h93 : bt s k = 93
          · have e2 : (((s[k]'hk).toNat : Int) == 93) = true := by rw [← hgk, h93]; rfl
            obtain rfl : T = k := by
              have := HRES.out
              rw [← HC.out, cend_end h93] at this
              rcases this with ⟨t, e, h1⟩ | ⟨e, _⟩
              · injection e with e; subst e; exact h1
              · cases e
            clear hgk
            go_wp2_with fail
            go_ret2
            exact ⟨rfl, hb⟩
          · have e2 : (((s[k]'hk).toNat : Int) == 93) = false := by rw [← hgk]; exact beq_eq_false_iff_ne.2 (by omega)
            by_cases h92 : bt s k = 92
            · have e3 : (((s[k]'hk).toNat : Int) == 92) = true := by rw [← hgk, h92]; rfl
              have HA := Lib.hid (fun W => rat_is hs (rfl : sy s (k + 1) = _) (rfl : wd s (k + 1) = _) (show ((k + 1 : Nat) : Int) = (k : Int) + 1 by omega) W)
              have hw4 := wd_le s (k + 1)
              have hwf : k + 1 + wd s (k + 1) ≤ s.size := wd_fit (by omega)
              by_cases hk1 : k + 1 < s.size
              · have hwp := wd_pos hk1
                have HC2 := Lib.hid ((cend_two h92).symm.trans HC.out)
                generalize sy s (k + 1) = x at *
                generalize wd s (k + 1) = n at *
                have e4 : ((n : Int) == 0) = false := beq_eq_false_iff_ne.2 (by omega)
                clear hgk
                go_wp2_with fail
                refine (HA.out _).mono ?_
                rintro e w1 ⟨rfl, hb1⟩
                go_wp2_with fail
                go_roundw
                case rel => exact ⟨k + 1 + n, congrArg (Value.int .i64) (by omega), HC2.out, by omega, hb.trans (hb1.mono hb.size)⟩
                case measure => simp [intOf]; omega
              · obtain rfl : T = -1 := by
                  have := HRES.out
                  rw [← HC.out, cend_esc0 h92 (by omega)] at this
                  rcases this with ⟨t, e, h1⟩ | ⟨_, h1⟩
                  · cases e
                  · exact h1
                rw [wd_out (by omega)] at HA
                generalize sy s (k + 1) = x at *
                clear hgk
                go_wp2_with fail
                refine (HA.out _).mono ?_
                rintro e w1 ⟨rfl, hb1⟩
                go_wp2_with fail
                go_ret2
                exact ⟨rfl, hb.trans (hb1.mono hb.size)⟩
            · have e3 : (((s[k]'hk).toNat : Int) == 92) = false := by rw [← hgk]; exact beq_eq_false_iff_ne.2 (by omega)
              have HA := Lib.hid (fun W => rat_is hs (rfl : sy s k = _) (rfl : wd s k = _) (rfl : (k : Int) = _) W)
              have hwp := wd_pos hk
              have hw4 := wd_le s k
              have hwf : k + wd s k ≤ s.size := wd_fit (by omega)
              have HC2 := Lib.hid ((cend_step hk h93 h92).symm.trans HC.out)
              generalize sy s k = x at *
              generalize wd s k = n at *
              have e4 : ((n : Int) == 0) = false := beq_eq_false_iff_ne.2 (by omega)
              clear hgk
              go_wp2_with fail
              refine (HA.out _).mono ?_
              rintro e w1 ⟨rfl, hb1⟩
              go_wp2_with fail
              go_roundw
              case rel => exact ⟨k + n, congrArg (Value.int .i64) (by omega), HC2.out, by omega, hb.trans (hb1.mono hb.size)⟩
              case measure => simp [intOf]; omega
        · have d2 : decide (k < s.size) = false := decide_eq_false hk
          obtain rfl : T = -1 := by
            have := HRES.out
            rw [← HC.out, cend_out (by omega)] at this
            rcases this with ⟨t, e, h1⟩ | ⟨_, h1⟩
            · cases e
            · exact h1
          go_wp2_with fail
          go_ret2
          exact ⟨rfl, hb⟩
/-- What single tells of what begins at a place. -/
def sg1 : Esc → Int
  | .one x _ => x
  | _ => 0
def sg2 : Esc → Int
  | .one _ n => n
  | _ => 0
section
variable {s : ByteArray} {p to : Nat} (w : World) (hs : s.size ≤ 100000) (hc : cend s p = some to)
include hs hc
set_option maxHeartbeats 1000000 in
set_option maxRecDepth 100000 in
theorem rsingle_any : Calls Tryz.prog 115 #[.string s, .int .i64 (p : Int), .int .i64 (to : Int)] w fun e w' => e = .returned (.tuple #[.int .i64 (sg1 (unit s p)), .int .i64 (sg2 (unit s p))]) ∧ Below w.heap.size w w' := by
  have hcs := cend_some hc
  have hl : p < s.size := by omega
  have hg := U.bt_eq s p hl
  have h93 := cend_here hc
  by_cases hpt : to ≤ p
  · have : unit s p = .bad 4 := by unfold unit; rw [h93.2 (by omega), if_neg (by decide), if_pos (.inr rfl)]
    rw [this]
    have d1 : decide (to ≤ p) = true := decide_eq_true hpt
    simp only [sg1, sg2]
    clear hg h93 this
    go_enter Tryz.func115, Tryz.ntmps115
    go_wp2_with fail
    go_ret2
    exact ⟨rfl, Below.refl _ _⟩
  · have d1 : decide (to ≤ p) = false := decide_eq_false hpt
    have hn93 : bt s p ≠ 93 := fun e => by have := h93.1 e; omega
    by_cases h45 : bt s p = 45
    · have : unit s p = .bad 4 := by unfold unit; rw [h45, if_neg (by decide), if_pos (.inl rfl)]
      rw [this]
      have e1 : (((s[p]'hl).toNat : Int) == 45) = true := by rw [← hg, h45]; rfl
      simp only [sg1, sg2]
      clear hg h93 this
      go_enter Tryz.func115, Tryz.ntmps115
      go_wp2_with fail
      go_ret2
      exact ⟨rfl, Below.refl _ _⟩
    · have e1 : (((s[p]'hl).toNat : Int) == 45) = false := by rw [← hg]; exact beq_eq_false_iff_ne.2 (by omega)
      by_cases h92 : bt s p = 92
      · have e2 : (((s[p]'hl).toNat : Int) == 92) = true := by rw [← hg, h92]; rfl
        have hu : unit s p = esc s p := by unfold unit; rw [if_pos h92]
        rw [hu]
        have HE := Lib.hid (resc_any (s := s) (i := p) w hs hl)
        clear hu hg h93 h92 hn93 h45
        cases he : esc s p with
        | bad x =>
          rw [he] at HE
          simp only [sg1, sg2]
          clear he
          go_enter Tryz.func115, Tryz.ntmps115
          go_wp2_with fail
          refine HE.out.mono ?_
          rintro e w1 ⟨A, m, k, b, N, er, rfl, hb1, rfl, rfl, rfl, rfl, rfl, rfl, hee⟩
          have en : (er != 0) = true := by simp; omega
          go_wp2_with fail
          go_ret2
          exact ⟨rfl, hb1.alloc hb1.size _⟩
        | many l =>
          rw [he] at HE
          simp only [sg1, sg2]
          clear he
          go_enter Tryz.func115, Tryz.ntmps115
          go_wp2_with fail
          refine HE.out.mono ?_
          rintro e w1 ⟨A, m, k, b, N, er, rfl, hb1, rfl, rfl, rfl, hm, ho⟩
          go_wp2_with fail
          go_ret2
          exact ⟨rfl, hb1.alloc hb1.size _⟩
        | one x n =>
          rw [he] at HE
          simp only [sg1, sg2]
          clear he
          go_enter Tryz.func115, Tryz.ntmps115
          go_wp2_with fail
          refine HE.out.mono ?_
          rintro e w1 ⟨A, m, k, b, N, er, rfl, hb1, rfl, rfl, rfl, rfl, ho⟩
          obtain ⟨A', k', hv, _, _, hrg, _⟩ := ho.shape
          injection hv with hv1 hv2 hv3
          subst hv1 hv3
          obtain ⟨b, off, a1, a2, hA, hbl, e3, f1, f2⟩ := hrg.at_ (k := 0) (by simp)
          simp at e3
          obtain ⟨rfl, rfl⟩ := e3
          subst hA
          rw [Nat.zero_mul, Nat.add_zero] at f1
          clear hv2 ho hrg f2
          go_wp2_with fail
          go_quiet (fail)
          go_wp2_with fail
          go_ret2
          exact ⟨rfl, below_drews (hb1.alloc hb1.size _) nq⟩
      · have e2 : (((s[p]'hl).toNat : Int) == 92) = false := by rw [← hg]; exact beq_eq_false_iff_ne.2 (by omega)
        have hu : unit s p = .one (sy s p) (wd s p) := by unfold unit; rw [if_neg h92, if_neg (by omega)]
        rw [hu]
        simp only [sg1, sg2]
        have HA := Lib.hid (rat_nat s p w hs)
        clear hu hg h93
        go_enter Tryz.func115, Tryz.ntmps115
        go_wp2_with fail
        refine HA.out.mono ?_
        rintro e w1 ⟨rfl, hb1⟩
        go_wp2_with fail
        go_ret2
        exact ⟨rfl, hb1⟩
end
end Go.Proofs.YtceeimolfalmpaaGreatDoor
