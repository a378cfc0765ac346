/-
  How many nodes are groups, which are sets (Caps, Leaves), of the program and of the page's own; numbers held against each other (EqInts); Within. Condition: at most 20000 nodes.
-/
import Derived.Test.YtceeimolfalmpaaVE
namespace Go.Proofs.Ytceeimolfalmpaa
open Go.RowKit ObSets ObTree

/-- The numbers of the first nodes of some kind, rising. -/
def idx (kd : Int) (L : List Nd) : Nat → List Int
  | 0 => []
  | m + 1 => idx kd L m ++ (match L[m]? with | some x => if x.kind = kd then [(m : Int)] else [] | none => [])
theorem idx_yes {kd : Int} {L : List Nd} {m : Nat} {x : Nd} (h : L[m]? = some x) (hk : x.kind = kd) : idx kd L (m + 1) = idx kd L m ++ [(m : Int)] := by
  simp only [idx, h]; rw [if_pos hk]
theorem idx_no {kd : Int} {L : List Nd} {m : Nat} {x : Nd} (h : L[m]? = some x) (hk : x.kind ≠ kd) : idx kd L (m + 1) = idx kd L m := by
  simp only [idx, h]; rw [if_neg hk, List.append_nil]
theorem idx_len (kd : Int) (L : List Nd) : ∀ m, (idx kd L m).length ≤ m
  | 0 => Nat.le_refl _
  | m + 1 => by
    have := idx_len kd L m
    simp only [idx, List.length_append]
    split
    · split <;> simp <;> omega
    · simp; omega
/-- A slice that reads as numbers. -/
def IntsAt (W : World) (v : Value) (zs : List Int) : Prop := ∃ A c, v = .slice A zs.length c ∧ ∀ j z, zs[j]? = some z → ∃ g o, A = some ⟨g, o, none⟩ ∧ g < W.heap.size ∧ W.cell? ⟨g, o + j, none⟩ = some (.int .i64 z)
theorem IntsAt.below {W W' : World} {v : Value} {zs : List Int} (h : IntsAt W v zs) (hb : Below W.heap.size W W') : IntsAt W' v zs := by
  obtain ⟨A, c, e, hc⟩ := h
  refine ⟨A, c, e, fun j z hz => ?_⟩
  obtain ⟨g, o, e1, e2, e3⟩ := hc j z hz
  exact ⟨g, o, e1, Nat.lt_of_lt_of_le e2 hb.size, (hb.cell (p := ⟨g, o + j, none⟩) e2).trans e3⟩
theorem IntsAt.own {w : World} {B : Nat} {v : Value} {zs : List Int} (h : w.ownsRow B 3 1 v zs.length (ints zs)) : IntsAt w v zs := by
  obtain ⟨A, c, e, hc⟩ := row_see h
  refine ⟨A, c, e, fun j z hz => ?_⟩
  obtain ⟨g, e1, _, e2, e3⟩ := hc j z hz
  exact ⟨g, 0, e1, e2, by rw [Nat.zero_add]; exact e3⟩
set_option maxHeartbeats 1000000 in
theorem within_any (i n : Int) (hn : 0 < n) (hn2 : n ≤ 1000000) (w : World) : Calls Try.prog 10 #[.int .i64 i, .int .i64 n] w fun e w' => ∃ k : Nat, (k : Int) < n ∧ e = .returned (.int .i64 (k : Int)) ∧ w' = w := by
  have h1 : Int.tmod i n < n := by
    have := Int.tmod_lt_of_pos i hn
    exact this
  have h2 : -n < Int.tmod i n := Int.lt_tmod_of_pos i hn
  have hn0 : (n == 0) = false := beq_eq_false_iff_ne.2 (by omega)
  by_cases h3 : Int.tmod i n < 0
  · obtain ⟨k, hk⟩ := Int.eq_ofNat_of_zero_le (show 0 ≤ Int.tmod i n + n by omega)
    have hw : wrap64 (Int.tmod i n) = Int.tmod i n := IntWalk.wrap64_in _ (by omega)
    have hd : decide (Int.tmod i n < 0) = true := decide_eq_true h3
    go_enter Try.func10, Try.ntmps10
    go_wp2_with fail
    go_ret
    exact ⟨k, by omega, rfl, rfl⟩
  · obtain ⟨k, hk⟩ := Int.eq_ofNat_of_zero_le (show 0 ≤ Int.tmod i n by omega)
    have hw : wrap64 (Int.tmod i n) = Int.tmod i n := IntWalk.wrap64_in _ (by omega)
    have hd : decide (Int.tmod i n < 0) = false := decide_eq_false h3
    go_enter Try.func10, Try.ntmps10
    go_wp2_with fail
    go_ret
    exact ⟨k, by omega, rfl, rfl⟩
set_option maxHeartbeats 1000000 in
set_option maxRecDepth 100000 in
theorem eqints_any (v u : Value) (l m : List Int) (w : World) (h1 : IntsAt w v l) (h2 : IntsAt w u m) (hl : l.length ≤ 1000000) :
    Calls Try.prog 28 #[v, u] w (RetB w (l = m)) := by
  obtain ⟨A1, c1, rfl, k1⟩ := h1
  obtain ⟨A2, c2, rfl, k2⟩ := h2
  by_cases hlen : l.length = m.length
  · have HL := Lib.hid hlen
    have hb : ((l.length : Int) != (m.length : Int)) = false := by simp; omega
    obtain ⟨n, hn⟩ : ∃ n, l.length = n := ⟨_, rfl⟩
    rw [← hlen] at hb ⊢
    rw [hn] at hb hl ⊢
    have HN := Lib.hid hn
    have K1 := Lib.hid k1; have K2 := Lib.hid k2
    clear hlen hn k1 k2
    go_enter Try.func28, Try.ntmps28
    go_wp2
    go_loopw [5] (fun t wr => ∃ k : Nat, k ≤ n ∧ t = .int .i64 k ∧ Hid (l.take k = m.take k) ∧ Below w.heap.size w wr) (fun t _ => n - (intOf t).toNat)
    case atStart => exact ⟨0, by omega, rfl, Lib.hid rfl, Below.refl _ _⟩
    case round =>
      obtain ⟨k, hk, rfl, HS, hb2⟩ := hrel
      by_cases hkn : k < n
      · obtain ⟨a, ha⟩ : ∃ a, l[k]? = some a := ⟨_, List.getElem?_eq_getElem (by rw [HN.out]; exact hkn)⟩
        obtain ⟨b, hb'⟩ : ∃ b, m[k]? = some b := ⟨_, List.getElem?_eq_getElem (by rw [← HL.out, HN.out]; exact hkn)⟩
        obtain ⟨g, o, rfl, hg, e1⟩ := K1.out k a ha
        obtain ⟨g', o', rfl, hg', e2⟩ := K2.out k b hb'
        have f1 := (hb2.cell (p := ⟨g, o + k, none⟩) hg).trans e1
        have f2 := (hb2.cell (p := ⟨g', o' + k, none⟩) hg').trans e2
        have hk1 : (k : Int) < (n : Int) := by omega
        have hd : decide (k < n) = true := decide_eq_true hkn
        by_cases hq : a = b
        · subst hq
          have HS2 := Lib.hid (show l.take (k + 1) = m.take (k + 1) by rw [List.take_add_one, List.take_add_one, HS.out, ha, hb'])
          clear ha hb' e1 e2
          go_wp2
          go_quiet (fail)
          go_wp2
          go_roundw
          case rel => exact ⟨k + 1, by omega, by go_num, HS2, S.below_drews hb2 nq⟩
          case measure => simp [intOf]; omega
        · have hqq : (a != b) = true := by rw [bne_iff_ne]; exact hq
          have HF := Lib.hid (show l ≠ m from fun h => hq (by rw [h, hb'] at ha; injection ha with ha; exact ha.symm))
          clear ha hb' e1 e2 hq
          go_wp2
          go_quiet (fail)
          go_wp2
          go_ret
          exact ⟨false, rfl, iff_of_false Bool.noConfusion HF.out, S.below_drews hb2 nq⟩
      · have hk1 : decide (k < n) = false := by simp; omega
        obtain rfl : k = n := by omega
        have HF := Lib.hid (show l = m by have := HS.out; rw [List.take_of_length_le (by rw [HN.out]; exact Nat.le_refl _), List.take_of_length_le (by rw [← HL.out, HN.out]; exact Nat.le_refl _)] at this; exact this)
        go_wp2
        go_ret
        exact ⟨true, rfl, iff_of_true rfl HF.out, hb2⟩
  · have hb : ((l.length : Int) != (m.length : Int)) = true := by rw [bne_iff_ne]; omega
    have HF := Lib.hid (show l ≠ m from fun h => hlen (by rw [h]))
    generalize l.length = n1 at *
    generalize m.length = n2 at *
    clear k1 k2
    go_enter Try.func28, Try.ntmps28
    go_wp2
    go_ret
    exact ⟨false, rfl, iff_of_false Bool.noConfusion HF.out, Below.refl _ _⟩
set_option maxHeartbeats 2000000 in
set_option maxRecDepth 100000 in
theorem tcaps_any (A : Option Addr) (n c : Nat) (L : List Nd) (w : World) (hN : Nr w A L) (hn : L.length = n) (hnb : n ≤ 20000) :
    Calls Try.prog 23 #[tr A n c] w fun e w' => e = .returned (.int .i64 ((idx 8 L n).length : Int)) ∧ Below w.heap.size w w' := by
  have HN := Lib.hid hN; have HLN := Lib.hid hn
  clear hN hn
  have ha0 := (Below.refl w.heap.size w).alloc (Nat.le_refl _) (.cells #[.slice A n c] 24)
  have hz : (w.alloc (.cells #[.slice A n c] 24)).heap.size = w.heap.size + 1 := by simp
  have hGA := heap_new w (.cells #[.slice A n c] 24)
  go_enter Try.func23, Try.ntmps23
  go_upto_region 1 with fail
  generalize w.alloc (.cells #[.slice A n c] 24) = W0 at *
  obtain ⟨a0, _⟩ := obj29 hGA
  have HGA := Lib.hid hGA; have HA0 := Lib.hid ha0
  clear hGA ha0
  go_wp2_with fail
  go_loopw [3, 9] (fun tc ti wr => ∃ i : Nat, ti = .int .i64 (i : Int) ∧ i ≤ n ∧ tc = .int .i64 ((idx 8 L i).length : Int) ∧ Hid (Below W0.heap.size W0 wr)) (fun _ ti _ => n - (intOf ti).toNat)
  case atStart => exact ⟨0, rfl, Nat.zero_le _, rfl, Lib.hid (Below.refl _ _)⟩
  case round =>
    obtain ⟨i, rfl, hi, rfl, HG⟩ := hrel
    have hgs := HG.out.size
    have HB2 := Lib.hid (HA0.out.trans (HG.out.mono HA0.out.size))
    obtain ⟨o0, _⟩ := obj29 (keepL HGA.out HG.out)
    have hil := idx_len 8 L i
    obtain ⟨kc, hkc⟩ : ∃ kc, (idx 8 L i).length = kc := ⟨_, rfl⟩
    have HKC := Lib.hid hkc
    rw [hkc] at hil ⊢
    clear hkc
    by_cases hin : i < n
    · have d1 : decide (i < n) = true := decide_eq_true hin
      have hin' : (i : Int) < (n : Int) := by omega
      obtain ⟨x, hx⟩ : ∃ x, L[i]? = some x := ⟨_, List.getElem?_eq_getElem (by rw [HLN.out]; exact hin)⟩
      obtain ⟨bb, off, rfl, hbl, hnd⟩ := nr_at HN.out hx
      obtain ⟨As, ks, ⟨c0, c1, c2, c3, c4, c5, c6⟩, _⟩ := hnd.below hbl HB2.out
      have HX := Lib.hid hx
      obtain ⟨sl, hsl⟩ : ∃ sl, x.set.length = sl := ⟨_, rfl⟩
      rw [hsl] at c3
      have HBX := Lib.hid (HG.out.alloc hgs (.cells #[.int .i64 x.kind, .int .i64 x.a, .int .i64 x.b, .slice As sl ks, .int .i64 x.mn, .int .i64 x.mx, .int .i64 x.n] 35))
      clear hnd hx hsl
      by_cases hk : x.kind = 8
      · have e1 : (x.kind == 8) = true := by simp [hk]
        have HS := Lib.hid (show (idx 8 L (i + 1)).length = kc + 1 by rw [idx_yes HX.out hk, List.length_append, HKC.out]; rfl)
        clear hk
        go_wp2_with fail
        go_roundw
        case rel => exact ⟨i + 1, congrArg (Value.int .i64) (by omega), hin, congrArg (Value.int .i64) (by rw [HS.out]; omega), HBX⟩
        case measure => simp [intOf]; omega
      · have e1 : (x.kind == 8) = false := beq_eq_false_iff_ne.2 hk
        have HS := Lib.hid (show (idx 8 L (i + 1)).length = kc by rw [idx_no HX.out hk, HKC.out])
        clear hk
        go_wp2_with fail
        go_roundw
        case rel => exact ⟨i + 1, congrArg (Value.int .i64) (by omega), hin, congrArg (Value.int .i64) (by rw [HS.out]), HBX⟩
        case measure => simp [intOf]; omega
    · have d1 : decide (i < n) = false := decide_eq_false hin
      obtain rfl : i = n := by omega
      go_wp2_with fail
      go_ret
      exact ⟨by rw [HKC.out]; rfl, HB2.out⟩
set_option maxHeartbeats 2000000 in
set_option maxRecDepth 100000 in
theorem rcaps_any (A : Option Addr) (n c : Nat) (L : List Nd) (w : World) (hN : Nr w A L) (hn : L.length = n) (hnb : n ≤ 20000) :
    Calls Try.prog 27 #[tr A n c] w fun e w' => e = .returned (.int .i64 ((idx 8 L n).length : Int)) ∧ Below w.heap.size w w' := by
  have HN := Lib.hid hN; have HLN := Lib.hid hn
  clear hN hn
  have ha0 := (Below.refl w.heap.size w).alloc (Nat.le_refl _) (.cells #[.slice A n c] 24)
  have hz : (w.alloc (.cells #[.slice A n c] 24)).heap.size = w.heap.size + 1 := by simp
  have hGA := heap_new w (.cells #[.slice A n c] 24)
  go_enter Try.func27, Try.ntmps27
  go_upto_region 1 with fail
  generalize w.alloc (.cells #[.slice A n c] 24) = W0 at *
  obtain ⟨a0, _⟩ := obj29 hGA
  have HGA := Lib.hid hGA; have HA0 := Lib.hid ha0
  clear hGA ha0
  go_wp2_with fail
  go_loopw [3, 4] (fun tc ti wr => ∃ i : Nat, ti = .int .i64 (i : Int) ∧ i ≤ n ∧ tc = .int .i64 ((idx 8 L i).length : Int) ∧ Hid (Below W0.heap.size W0 wr)) (fun _ ti _ => n - (intOf ti).toNat)
  case atStart => exact ⟨0, rfl, Nat.zero_le _, rfl, Lib.hid (Below.refl _ _)⟩
  case round =>
    obtain ⟨i, rfl, hi, rfl, HG⟩ := hrel
    have hgs := HG.out.size
    have HB2 := Lib.hid (HA0.out.trans (HG.out.mono HA0.out.size))
    obtain ⟨o0, _⟩ := obj29 (keepL HGA.out HG.out)
    have hil := idx_len 8 L i
    obtain ⟨kc, hkc⟩ : ∃ kc, (idx 8 L i).length = kc := ⟨_, rfl⟩
    have HKC := Lib.hid hkc
    rw [hkc] at hil ⊢
    clear hkc
    by_cases hin : i < n
    · have d1 : decide (i < n) = true := decide_eq_true hin
      have hin' : (i : Int) < (n : Int) := by omega
      obtain ⟨x, hx⟩ : ∃ x, L[i]? = some x := ⟨_, List.getElem?_eq_getElem (by rw [HLN.out]; exact hin)⟩
      obtain ⟨bb, off, rfl, hbl, hnd⟩ := nr_at HN.out hx
      obtain ⟨As, ks, ⟨c0, c1, c2, c3, c4, c5, c6⟩, _⟩ := hnd.below hbl HB2.out
      have HX := Lib.hid hx
      obtain ⟨sl, hsl⟩ : ∃ sl, x.set.length = sl := ⟨_, rfl⟩
      rw [hsl] at c3
      have HBX := Lib.hid (HG.out.alloc hgs (.cells #[.int .i64 x.kind, .int .i64 x.a, .int .i64 x.b, .slice As sl ks, .int .i64 x.mn, .int .i64 x.mx, .int .i64 x.n] 35))
      clear hnd hx hsl
      by_cases hk : x.kind = 8
      · have e1 : (x.kind == 8) = true := by simp [hk]
        have HS := Lib.hid (show (idx 8 L (i + 1)).length = kc + 1 by rw [idx_yes HX.out hk, List.length_append, HKC.out]; rfl)
        clear hk
        go_wp2_with fail
        go_roundw
        case rel => exact ⟨i + 1, congrArg (Value.int .i64) (by omega), hin, congrArg (Value.int .i64) (by rw [HS.out]; omega), HG⟩
        case measure => simp [intOf]; omega
      · have e1 : (x.kind == 8) = false := beq_eq_false_iff_ne.2 hk
        have HS := Lib.hid (show (idx 8 L (i + 1)).length = kc by rw [idx_no HX.out hk, HKC.out])
        clear hk
        go_wp2_with fail
        go_roundw
        case rel => exact ⟨i + 1, congrArg (Value.int .i64) (by omega), hin, congrArg (Value.int .i64) (by rw [HS.out]), HG⟩
        case measure => simp [intOf]; omega
    · have d1 : decide (i < n) = false := decide_eq_false hin
      obtain rfl : i = n := by omega
      go_wp2_with fail
      go_ret
      exact ⟨by rw [HKC.out]; rfl, HB2.out⟩
end Go.Proofs.Ytceeimolfalmpaa
