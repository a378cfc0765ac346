/-
  The statement on two texts (UtfJoins) answers true for all texts. Condition: the two tables of unicode/utf8 lie as their text lays them.
-/
import Derived.Test.YteabicdmgbcpaaaDoorBack
import Derived.Test.YteabicdmgbcpaaaDoorCat
import Derived.Laws.AppendOwnNone
namespace Go.Proofs.YteabicdmgbcpaaaDoor
open Go.RowKit ObUtf

/-- A slice of a call's own, as the source of an append: nil, or a row with its cells. -/
def Src (w : World) (A : Option Addr) (c : Nat) (zs : List Int) : Prop :=
  (A = none ∧ zs = [] ∧ c = 0) ∨ ∃ g, A = some ⟨g, 0, none⟩ ∧ g < w.heap.size ∧ ∀ j u, (zs.map (Value.int .i64))[j]? = some u → w.cell? ((⟨g, 0, none⟩ : Addr).add j) = some u
theorem own_src {w : World} {base : Nat} {v : Value} {zs : List Int} (h : w.ownsRow base 3 1 v zs.length (zs.map (Value.int .i64))) : ∃ A c, v = .slice A zs.length c ∧ Src w A c zs := by
  have h0 := h
  rcases h.2 with ⟨hv, h1⟩ | ⟨g, cap, cur, hv, _, hg, _⟩
  · exact ⟨none, 0, by rw [hv, h1], Or.inl ⟨rfl, List.eq_nil_of_length_eq_zero h1, rfl⟩⟩
  · subst hv
    exact ⟨_, cap, rfl, Or.inr ⟨g, rfl, heap_lt hg, h0.cells rfl⟩⟩
theorem Src.below {w w' : World} {A : Option Addr} {c : Nat} {zs : List Int} (h : Src w A c zs) (hb : Below w.heap.size w w') : Src w' A c zs := by
  rcases h with h | ⟨g, e, hg, hc⟩
  · exact Or.inl h
  · refine Or.inr ⟨g, e, Nat.lt_of_lt_of_le hg hb.size, fun j u hu => (hb.cell (p := (⟨g, 0, none⟩ : Addr).add j) ?_).trans (hc j u hu)⟩
    unfold Addr.add; split <;> exact hg
/-- One append of such a source to a slice of the call's own. -/
theorem wpList_append_src {w : World} {ops : Array Oper} {rest : List Oper} {o : Oper} {a : Act} {Q : Exit → Act → World → Prop} (hgd : o.guard = none) (s x : Operand)
    (ho : o.op = .call { callee := .builtin .append, args := #[s, x], argTypes := #[27, 27] }) (base : Nat) (v : Value) (xs zs : List Int) (hs : a.eval s = v)
    (hown : w.ownsRow base 3 1 v xs.length (xs.map (Value.int .i64))) (A : Option Addr) (c : Nat) (hx : a.eval x = .slice A zs.length c) (hsrc : Src w A c zs)
    (hlen : xs.length + zs.length ≤ 1000000) (hbase : base ≤ w.heap.size)
    (h : ∀ v' w', w'.ownsRow base 3 1 v' (xs ++ zs).length ((xs ++ zs).map (Value.int .i64)) → w.grownBy w' v.ownBlock → wpList Tryd.prog ops Q rest (a.put o.dst v') w') : wpList Tryd.prog ops Q (o :: rest) a w := by
  obtain ⟨i0, hi, hz0, hz1, hz2⟩ := info_parts Tryd.info3
  rcases hsrc with ⟨rfl, rfl, rfl⟩ | ⟨g, rfl, _, hc⟩
  · refine wpList_append_own_none hgd s x 27 ho base 3 i0 1 Tryd.underlying27 hi v _ _ hs hown hx ?_
    exact h v w (by simpa using hown) (World.grownBy.refl w _)
  · refine wpList_append_own w hgd s x 27 ho base 3 i0 (.int .i64 0) 1 8 Tryd.underlying27 hi hz0 hz1 hz2 rfl (by decide) v _ _ hs hown ⟨g, 0, none⟩ zs.length c (zs.map (Value.int .i64)) hx (by simp) hc
      (fun u hu => by obtain ⟨z, _, rfl⟩ := List.mem_map.1 hu; rfl) (by unfold maxLen; omega) (by omega) hbase ?_
    intro v' w' h1 h2 _
    exact h v' w' (by simpa using h1) h2
set_option maxHeartbeats 2000000 in
set_option maxRecDepth 100000 in
theorem joins_fresh (a b : ByteArray) (w : World) (hT : Tb w) (ha : (cutB a 100).size ≤ 100) (hb : (cutB b 100).size ≤ 100) (hf : Fresh (cutB b 100)) : Calls Tryd.prog 7 #[.string a, .string b] w fun e w' => e = .returned (.bool true) ∧ Below w.heap.size w w' := by
  have HT := Lib.hid hT; clear hT
  have H1 := Lib.hid (cut_any a 100 w (by omega))
  have H2 := Lib.hid (cut_any b 100 w (by omega))
  rw [show (100 : Int).toNat = 100 from rfl] at H1 H2
  generalize cutB a 100 = s at *
  generalize cutB b 100 = t at *
  have hs := size_cat s t
  have HSZ := Lib.hid hs
  have HC := Lib.hid (syms_cat (a := s) hf)
  have HB := Lib.hid (isBI_true (isB_cat (a := s) hf))
  have l1 := cnt_le s
  have l2 := cnt_le t
  have L1 := Lib.hid (syms_length s)
  have L2 := Lib.hid (syms_length t)
  have hfr : (0 : Int) < (t.size : Int) → ¬ (128 ≤ bt t 0 ∧ bt t 0 ≤ 191) := fun h => by have := hf (by omega); omega
  have hadd := fun W : World => run_string_add_sum (P := Tryd.prog) (w := W) s t (by omega)
  clear hs hf
  rcases (show t.size = 0 ∨ (0 < t.size ∧ bt t 0 < 128) ∨ (0 < t.size ∧ 191 < bt t 0) by omega) with hc | ⟨h0, hc⟩ | ⟨h0, hc⟩
  · have hd : decide ((0 : Int) < (t.size : Int)) = false := decide_eq_false (by omega)
    have hd' : decide (0 < t.size) = false := decide_eq_false (by omega)
    have HZ := Lib.hid hc
    clear hc hfr
    go_enter Tryd.func7, Tryd.ntmps7
    go_wp2_with fail
    refine H1.out.mono ?_
    rintro e w' ⟨rfl, rfl⟩
    go_wp2_with fail
    refine H2.out.mono ?_
    rintro e w' ⟨rfl, rfl⟩
    go_wp2_with fail
    refine (all_any (s ++ t) _ (by have := HSZ.out; omega) HT.out).mono ?_
    rintro e w1 ⟨v1, rfl, o1, b1⟩
    obtain ⟨A1, c1, rfl, k1⟩ := own_cells o1
    have K1 := Lib.hid k1
    have O0 := Lib.hid (World.ownsRow_lit (base := w1.heap.size) (e := 3) (size := 1) w1 #[] 0 (Nat.le_refl _) (by unfold maxLen; omega) rfl)
    have W0 := (Below.refl w1.heap.size w1).alloc (Nat.le_refl _) (.cells #[] 3)
    clear o1 k1 H1 H2
    go_wp2_with fail
    refine (all_any s _ (by omega) (HT.out.below (bel_trans b1 W0))).mono ?_
    rintro e w2 ⟨v2, rfl, o2, b2⟩
    obtain ⟨A2, c2, rfl, k2⟩ := own_src o2
    have K2 := Lib.hid k2
    have O2 := Lib.hid (own_below O0.out b2)
    have W2 := bel_trans W0 b2
    clear o2 k2 O0 W0 b2
    go_wp2_with (at_builtin; refine wpList_append_src rfl _ _ rfl w1.heap.size _ [] (syms s) rfl O2.out A2 c2 rfl K2.out ?_ ?_ ?_)
    · rw [L1.out]; simp; omega
    · exact W2.size
    intro v3 w3 o3 g3
    have W3 := W2.grown g3 W2.size (fun k hk => (O2.out.lt k hk).1)
    have O3 := Lib.hid o3
    clear o3 g3 W2 O2 K2
    go_wp2_with fail
    refine (all_any t _ (by omega) (HT.out.below (bel_trans b1 W3))).mono ?_
    rintro e w4 ⟨v4, rfl, o4, b4⟩
    obtain ⟨A4, c4, rfl, k4⟩ := own_src o4
    have K4 := Lib.hid k4
    have O4 := Lib.hid (own_below O3.out b4)
    have W4 := bel_trans W3 b4
    clear o4 k4 O3 W3 b4
    go_wp2_with (at_builtin; refine wpList_append_src rfl _ _ rfl w1.heap.size _ (syms s) (syms t) rfl O4.out A4 c4 rfl K4.out ?_ ?_ ?_)
    · rw [L1.out, L2.out]; omega
    · exact W4.size
    intro v5 w5 o5 g5
    have W5 := W4.grown g5 W4.size (fun k hk => (O4.out.lt k hk).1)
    have o6 : w5.ownsRow w1.heap.size 3 1 v5 (syms (s ++ t)).length ((syms (s ++ t)).map (Value.int .i64)) := by rw [HC.out]; simpa using o5
    obtain ⟨A5, c5, rfl, k5⟩ := own_cells o6
    have K5 := Lib.hid k5
    have K6 := Lib.hid ((K1.out.below W5).more W5.size)
    have B5 := bel_trans b1 W5
    clear o5 o6 g5 k5 W4 O4 K4 K1 W5
    go_wp2_with fail
    refine (eq_same A1 A5 _ c1 c5 w5.heap.size _ _ _ K6.out K5.out (by rw [HC.out, List.length_append, L1.out, L2.out]; omega) (fun j _ => rfl)).mono ?_
    rintro e w6 ⟨rfl, b6⟩
    have B6 := bel_trans B5 b6
    clear K5 K6 B5 b6 b1
    have HI := Lib.hid (is_any (s ++ t) s.size w6 (by unfold maxLen; have := HSZ.out; omega) (HT.out.below B6))
    rw [HB.out] at HI
    go_wp2_with fail
    refine HI.out.mono ?_
    rintro e w7 ⟨rfl, b7⟩
    have B7 := bel_trans B6 b7
    go_wp2_with fail
    refine (wakes_any _ (HT.out.below B7)).mono ?_
    rintro e w8 ⟨rfl, b8⟩
    go_wp2_with fail
    go_ret
    exact ⟨rfl, bel_trans B7 b8⟩
  · have hd : decide ((0 : Int) < (t.size : Int)) = true := decide_eq_true (by omega)
    have hd' : decide (0 < t.size) = true := decide_eq_true h0
    rw [bt_eq t 0 h0] at hc
    clear hfr
    go_enter Tryd.func7, Tryd.ntmps7
    go_wp2_with fail
    refine H1.out.mono ?_
    rintro e w' ⟨rfl, rfl⟩
    go_wp2_with fail
    refine H2.out.mono ?_
    rintro e w' ⟨rfl, rfl⟩
    go_wp2_with fail
    refine (all_any (s ++ t) _ (by have := HSZ.out; omega) HT.out).mono ?_
    rintro e w1 ⟨v1, rfl, o1, b1⟩
    obtain ⟨A1, c1, rfl, k1⟩ := own_cells o1
    have K1 := Lib.hid k1
    have O0 := Lib.hid (World.ownsRow_lit (base := w1.heap.size) (e := 3) (size := 1) w1 #[] 0 (Nat.le_refl _) (by unfold maxLen; omega) rfl)
    have W0 := (Below.refl w1.heap.size w1).alloc (Nat.le_refl _) (.cells #[] 3)
    clear o1 k1 H1 H2
    go_wp2_with fail
    refine (all_any s _ (by omega) (HT.out.below (bel_trans b1 W0))).mono ?_
    rintro e w2 ⟨v2, rfl, o2, b2⟩
    obtain ⟨A2, c2, rfl, k2⟩ := own_src o2
    have K2 := Lib.hid k2
    have O2 := Lib.hid (own_below O0.out b2)
    have W2 := bel_trans W0 b2
    clear o2 k2 O0 W0 b2
    go_wp2_with (at_builtin; refine wpList_append_src rfl _ _ rfl w1.heap.size _ [] (syms s) rfl O2.out A2 c2 rfl K2.out ?_ ?_ ?_)
    · rw [L1.out]; simp; omega
    · exact W2.size
    intro v3 w3 o3 g3
    have W3 := W2.grown g3 W2.size (fun k hk => (O2.out.lt k hk).1)
    have O3 := Lib.hid o3
    clear o3 g3 W2 O2 K2
    go_wp2_with fail
    refine (all_any t _ (by omega) (HT.out.below (bel_trans b1 W3))).mono ?_
    rintro e w4 ⟨v4, rfl, o4, b4⟩
    obtain ⟨A4, c4, rfl, k4⟩ := own_src o4
    have K4 := Lib.hid k4
    have O4 := Lib.hid (own_below O3.out b4)
    have W4 := bel_trans W3 b4
    clear o4 k4 O3 W3 b4
    go_wp2_with (at_builtin; refine wpList_append_src rfl _ _ rfl w1.heap.size _ (syms s) (syms t) rfl O4.out A4 c4 rfl K4.out ?_ ?_ ?_)
    · rw [L1.out, L2.out]; omega
    · exact W4.size
    intro v5 w5 o5 g5
    have W5 := W4.grown g5 W4.size (fun k hk => (O4.out.lt k hk).1)
    have o6 : w5.ownsRow w1.heap.size 3 1 v5 (syms (s ++ t)).length ((syms (s ++ t)).map (Value.int .i64)) := by rw [HC.out]; simpa using o5
    obtain ⟨A5, c5, rfl, k5⟩ := own_cells o6
    have K5 := Lib.hid k5
    have K6 := Lib.hid ((K1.out.below W5).more W5.size)
    have B5 := bel_trans b1 W5
    clear o5 o6 g5 k5 W4 O4 K4 K1 W5
    go_wp2_with fail
    refine (eq_same A1 A5 _ c1 c5 w5.heap.size _ _ _ K6.out K5.out (by rw [HC.out, List.length_append, L1.out, L2.out]; omega) (fun j _ => rfl)).mono ?_
    rintro e w6 ⟨rfl, b6⟩
    have B6 := bel_trans B5 b6
    clear K5 K6 B5 b6 b1
    have HI := Lib.hid (is_any (s ++ t) s.size w6 (by unfold maxLen; have := HSZ.out; omega) (HT.out.below B6))
    rw [HB.out] at HI
    go_wp2_with fail
    refine HI.out.mono ?_
    rintro e w7 ⟨rfl, b7⟩
    have B7 := bel_trans B6 b7
    go_wp2_with fail
    refine (wakes_any _ (HT.out.below B7)).mono ?_
    rintro e w8 ⟨rfl, b8⟩
    go_wp2_with fail
    go_ret
    exact ⟨rfl, bel_trans B7 b8⟩
  · have hd : decide ((0 : Int) < (t.size : Int)) = true := decide_eq_true (by omega)
    have hd' : decide (0 < t.size) = true := decide_eq_true h0
    rw [bt_eq t 0 h0] at hc
    clear hfr
    go_enter Tryd.func7, Tryd.ntmps7
    go_wp2_with fail
    refine H1.out.mono ?_
    rintro e w' ⟨rfl, rfl⟩
    go_wp2_with fail
    refine H2.out.mono ?_
    rintro e w' ⟨rfl, rfl⟩
    go_wp2_with fail
    refine (all_any (s ++ t) _ (by have := HSZ.out; omega) HT.out).mono ?_
    rintro e w1 ⟨v1, rfl, o1, b1⟩
    obtain ⟨A1, c1, rfl, k1⟩ := own_cells o1
    have K1 := Lib.hid k1
    have O0 := Lib.hid (World.ownsRow_lit (base := w1.heap.size) (e := 3) (size := 1) w1 #[] 0 (Nat.le_refl _) (by unfold maxLen; omega) rfl)
    have W0 := (Below.refl w1.heap.size w1).alloc (Nat.le_refl _) (.cells #[] 3)
    clear o1 k1 H1 H2
    go_wp2_with fail
    refine (all_any s _ (by omega) (HT.out.below (bel_trans b1 W0))).mono ?_
    rintro e w2 ⟨v2, rfl, o2, b2⟩
    obtain ⟨A2, c2, rfl, k2⟩ := own_src o2
    have K2 := Lib.hid k2
    have O2 := Lib.hid (own_below O0.out b2)
    have W2 := bel_trans W0 b2
    clear o2 k2 O0 W0 b2
    go_wp2_with (at_builtin; refine wpList_append_src rfl _ _ rfl w1.heap.size _ [] (syms s) rfl O2.out A2 c2 rfl K2.out ?_ ?_ ?_)
    · rw [L1.out]; simp; omega
    · exact W2.size
    intro v3 w3 o3 g3
    have W3 := W2.grown g3 W2.size (fun k hk => (O2.out.lt k hk).1)
    have O3 := Lib.hid o3
    clear o3 g3 W2 O2 K2
    go_wp2_with fail
    refine (all_any t _ (by omega) (HT.out.below (bel_trans b1 W3))).mono ?_
    rintro e w4 ⟨v4, rfl, o4, b4⟩
    obtain ⟨A4, c4, rfl, k4⟩ := own_src o4
    have K4 := Lib.hid k4
    have O4 := Lib.hid (own_below O3.out b4)
    have W4 := bel_trans W3 b4
    clear o4 k4 O3 W3 b4
    go_wp2_with (at_builtin; refine wpList_append_src rfl _ _ rfl w1.heap.size _ (syms s) (syms t) rfl O4.out A4 c4 rfl K4.out ?_ ?_ ?_)
    · rw [L1.out, L2.out]; omega
    · exact W4.size
    intro v5 w5 o5 g5
    have W5 := W4.grown g5 W4.size (fun k hk => (O4.out.lt k hk).1)
    have o6 : w5.ownsRow w1.heap.size 3 1 v5 (syms (s ++ t)).length ((syms (s ++ t)).map (Value.int .i64)) := by rw [HC.out]; simpa using o5
    obtain ⟨A5, c5, rfl, k5⟩ := own_cells o6
    have K5 := Lib.hid k5
    have K6 := Lib.hid ((K1.out.below W5).more W5.size)
    have B5 := bel_trans b1 W5
    clear o5 o6 g5 k5 W4 O4 K4 K1 W5
    go_wp2_with fail
    refine (eq_same A1 A5 _ c1 c5 w5.heap.size _ _ _ K6.out K5.out (by rw [HC.out, List.length_append, L1.out, L2.out]; omega) (fun j _ => rfl)).mono ?_
    rintro e w6 ⟨rfl, b6⟩
    have B6 := bel_trans B5 b6
    clear K5 K6 B5 b6 b1
    have HI := Lib.hid (is_any (s ++ t) s.size w6 (by unfold maxLen; have := HSZ.out; omega) (HT.out.below B6))
    rw [HB.out] at HI
    go_wp2_with fail
    refine HI.out.mono ?_
    rintro e w7 ⟨rfl, b7⟩
    have B7 := bel_trans B6 b7
    go_wp2_with fail
    refine (wakes_any _ (HT.out.below B7)).mono ?_
    rintro e w8 ⟨rfl, b8⟩
    go_wp2_with fail
    go_ret
    exact ⟨rfl, bel_trans B7 b8⟩
set_option maxHeartbeats 2000000 in
set_option maxRecDepth 100000 in
theorem joins_cont (a b : ByteArray) (w : World) (hT : Tb w) (h0 : 0 < (cutB b 100).size) (h1 : 128 ≤ bt (cutB b 100) 0) (h2 : bt (cutB b 100) 0 ≤ 191) : Calls Tryd.prog 7 #[.string a, .string b] w fun e w' => e = .returned (.bool true) ∧ Below w.heap.size w w' := by
  have HT := Lib.hid hT; clear hT
  have H1 := Lib.hid (cut_any a 100 w (by omega))
  have H2 := Lib.hid (cut_any b 100 w (by omega))
  rw [show (100 : Int).toNat = 100 from rfl] at H1 H2
  generalize cutB a 100 = s at *
  generalize cutB b 100 = t at *
  have hd : decide ((0 : Int) < (t.size : Int)) = true := decide_eq_true (by omega)
  have hd' : decide (0 < t.size) = true := decide_eq_true h0
  rw [bt_eq t 0 h0] at h1 h2
  go_enter Tryd.func7, Tryd.ntmps7
  go_wp2_with fail
  refine H1.out.mono ?_
  rintro e w' ⟨rfl, rfl⟩
  go_wp2_with fail
  refine H2.out.mono ?_
  rintro e w' ⟨rfl, rfl⟩
  go_wp2_with fail
  refine (wakes_any _ HT.out).mono ?_
  rintro e w8 ⟨rfl, b8⟩
  go_wp2_with fail
  go_ret
  exact ⟨rfl, b8⟩
theorem joins_walk (a b : ByteArray) (w : World) (hT : Tb w) : Calls Tryd.prog 7 #[.string a, .string b] w fun e w' => e = .returned (.bool true) ∧ Below w.heap.size w w' := by
  by_cases h : 0 < (cutB b 100).size ∧ 128 ≤ bt (cutB b 100) 0 ∧ bt (cutB b 100) 0 ≤ 191
  · exact joins_cont a b w hT h.1 h.2.1 h.2.2
  · exact joins_fresh a b w hT (cutB_size a 100) (cutB_size b 100) (fun h0 => by omega)
end Go.Proofs.YteabicdmgbcpaaaDoor
