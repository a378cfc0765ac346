/-
  The statement on groups within one another (ParseDeep) answers true for every number and every choice of kinds. Condition: the two tables of unicode/utf8 lie as their text lays them.
-/
import Derived.Test.YtceeimolfalmpaaDoorDMN
import Derived.Test.YtceeimolfalmpaaDoorDB
namespace Go.Proofs.YtceeimolfalmpaaDoor.T
open Go.RowKit ObUtf ObSets ObTree ObParse
open Go.Proofs.YtceeimolfalmpaaDoor (tv fv fo Tr Tk FlOf eqf)

def idx (kd : Int) (L : List Nd) : Nat → List Int
  | 0 => []
  | m + 1 => idx kd L m ++ (match L[m]? with | some x => if x.kind = kd then [(m : Int)] else [] | none => [])
theorem idx_yes {kd : Int} {L : List Nd} {m : Nat} {x : Nd} (h : L[m]? = some x) (hk : x.kind = kd) : idx kd L (m + 1) = idx kd L m ++ [(m : Int)] := by
  simp only [idx, h]; rw [if_pos hk]
theorem idx_no {kd : Int} {L : List Nd} {m : Nat} {x : Nd} (h : L[m]? = some x) (hk : x.kind ≠ kd) : idx kd L (m + 1) = idx kd L m := by
  simp only [idx, h]; rw [if_neg hk, List.append_nil]
theorem idx_len (kd : Int) (L : List Nd) : ∀ m, (idx kd L m).length ≤ m
  | 0 => Nat.le_refl _
  | m + 1 => by
    have := idx_len kd L m
    simp only [idx, List.length_append]
    split
    · split <;> simp <;> omega
    · simp; omega
set_option maxHeartbeats 2000000 in
set_option maxRecDepth 100000 in
theorem tcaps_any (A : Option Addr) (n c : Nat) (L : List Nd) (w : World) (hN : Nr w A L) (hn : L.length = n) (hnb : n ≤ 20000) :
    Calls Tryd.prog 7 #[tr A n c] w fun e w' => e = .returned (.int .i64 ((idx 8 L n).length : Int)) ∧ Below w.heap.size w w' := by
  have HN := Lib.hid hN; have HLN := Lib.hid hn
  clear hN hn
  have ha0 := (Below.refl w.heap.size w).alloc (Nat.le_refl _) (.cells #[.slice A n c] 25)
  have hz : (w.alloc (.cells #[.slice A n c] 25)).heap.size = w.heap.size + 1 := by simp
  have hGA := heap_new w (.cells #[.slice A n c] 25)
  go_enter Tryd.func7, Tryd.ntmps7
  go_upto_region 1 with fail
  generalize w.alloc (.cells #[.slice A n c] 25) = W0 at *
  obtain ⟨a0, _⟩ := obj29 hGA
  have HGA := Lib.hid hGA; have HA0 := Lib.hid ha0
  clear hGA ha0
  go_wp2_with fail
  go_loopw [3, 9] (fun tc ti wr => ∃ i : Nat, ti = .int .i64 (i : Int) ∧ i ≤ n ∧ tc = .int .i64 ((idx 8 L i).length : Int) ∧ Hid (Below W0.heap.size W0 wr)) (fun _ ti _ => n - (intOf ti).toNat)
  case atStart => exact ⟨0, rfl, Nat.zero_le _, rfl, Lib.hid (Below.refl _ _)⟩
  case round =>
    obtain ⟨i, rfl, hi, rfl, HG⟩ := hrel
    have hgs := HG.out.size
    have HB2 := Lib.hid (HA0.out.trans (HG.out.mono HA0.out.size))
    obtain ⟨o0, _⟩ := obj29 (keepL HGA.out HG.out)
    have hil := idx_len 8 L i
    obtain ⟨kc, hkc⟩ : ∃ kc, (idx 8 L i).length = kc := ⟨_, rfl⟩
    have HKC := Lib.hid hkc
    rw [hkc] at hil ⊢
    clear hkc
    by_cases hin : i < n
    · have d1 : decide (i < n) = true := decide_eq_true hin
      have hin' : (i : Int) < (n : Int) := by omega
      obtain ⟨x, hx⟩ : ∃ x, L[i]? = some x := ⟨_, List.getElem?_eq_getElem (by rw [HLN.out]; exact hin)⟩
      obtain ⟨bb, off, rfl, hbl, hnd⟩ := nr_at HN.out hx
      obtain ⟨As, ks, ⟨c0, c1, c2, c3, c4, c5, c6⟩, _⟩ := hnd.below hbl HB2.out
      have HX := Lib.hid hx
      obtain ⟨sl, hsl⟩ : ∃ sl, x.set.length = sl := ⟨_, rfl⟩
      rw [hsl] at c3
      have HBX := Lib.hid (HG.out.alloc hgs (.cells #[.int .i64 x.kind, .int .i64 x.a, .int .i64 x.b, .slice As sl ks, .int .i64 x.mn, .int .i64 x.mx, .int .i64 x.n] 36))
      clear hnd hx hsl
      by_cases hk : x.kind = 8
      · have e1 : (x.kind == 8) = true := by simp [hk]
        have HS := Lib.hid (show (idx 8 L (i + 1)).length = kc + 1 by rw [idx_yes HX.out hk, List.length_append, HKC.out]; rfl)
        clear hk
        go_wp2_with fail
        go_roundw
        case rel => exact ⟨i + 1, congrArg (Value.int .i64) (by omega), hin, congrArg (Value.int .i64) (by rw [HS.out]; omega), HBX⟩
        case measure => simp [intOf]; omega
      · have e1 : (x.kind == 8) = false := beq_eq_false_iff_ne.2 hk
        have HS := Lib.hid (show (idx 8 L (i + 1)).length = kc by rw [idx_no HX.out hk, HKC.out])
        clear hk
        go_wp2_with fail
        go_roundw
        case rel => exact ⟨i + 1, congrArg (Value.int .i64) (by omega), hin, congrArg (Value.int .i64) (by rw [HS.out]), HBX⟩
        case measure => simp [intOf]; omega
    · have d1 : decide (i < n) = false := decide_eq_false hin
      obtain rfl : i = n := by omega
      go_wp2_with fail
      go_ret
      exact ⟨by rw [HKC.out]; rfl, HB2.out⟩
theorem idx_caps (L : List Nd) : ∀ m, m ≤ L.length → (idx 8 L m).length = capsN L m
  | 0, _ => rfl
  | m + 1, h => by
    obtain ⟨x, hx⟩ : ∃ x, L[m]? = some x := ⟨_, List.getElem?_eq_getElem (by omega)⟩
    have ih := idx_caps L m (by omega)
    rw [capsN_succ hx]
    by_cases h8 : x.kind = 8
    · rw [idx_yes hx h8, List.length_append, ih, if_pos h8]; rfl
    · rw [idx_no hx h8, ih, if_neg h8]; rfl
theorem closeT_data : ∀ n, (closeT n).data = Array.replicate n 41
  | 0 => rfl
  | n + 1 => by
    unfold closeT
    rw [ByteArray.data_append, closeT_data n, Array.replicate_succ]
    rfl
theorem close_cut (n : Nat) : (closeT (n + 1)).extract 1 (n + 1) = closeT n := by
  apply ByteArray.ext
  rw [ByteArray.data_extract, closeT_data, closeT_data, Array.extract_replicate]
  congr 1
  omega
theorem deepT_size (fl : Nat → Bool) (k c : Nat) : (deepT fl k c).size = (openT fl k).size + 1 + c := by
  unfold deepT
  rw [size_cat, size_cat, closeT_size]
  rfl
/-- What Parse answers of groups within one another. -/
theorem parse_deep (fl : Nat → Bool) (k : Nat) (hk : 1 ≤ k) (hk2 : k ≤ 100) (w : World) (hT : U.Tb w) : Calls Tryd.prog 5 #[.string (deepT fl k k)] w fun e w' => ∃ A c L E q, e = .returned (.tuple #[.agg #[.slice A L.length c], fv E q]) ∧ Nr w' A L ∧ Below w.heap.size w w' ∧
    (k ≤ 64 → E = 0 ∧ q = 0 ∧ L.length = 1 + cpN fl k ∧ capsN L L.length = cpN fl k) ∧ (64 < k → E = 6 ∧ q = (((openT fl 64).size : Nat) : Int)) := by
  obtain ⟨W, ht, h1, _, h3⟩ := deep_fin fl k k hk
  have hs := deepT_size fl k k
  have ho := openT_size fl k
  by_cases h64 : k ≤ 64
  · obtain ⟨s', g1, g2, g3⟩ := h1 h64 rfl
    exact (parse_at (L := s'.L) (E := 0) (q := 0) (x := 0) (a := 0) (.inl ht) (by rw [ht]; exact ⟨rfl, rfl⟩) (by unfold outc; rw [g1]; rfl) w hT (by omega)).mono fun e w' ⟨A, c, q1, q2, q3⟩ => ⟨A, c, s'.L, 0, 0, q1, q2, q3, fun _ => ⟨rfl, rfl, g2, g3⟩, fun h => by omega⟩
  · have g1 := h3 (by omega)
    exact (parse_at (L := []) (E := 6) (q := (((openT fl 64).size : Nat) : Int)) (x := 0) (a := 0) (.inl ht) (by rw [ht]; exact ⟨rfl, rfl⟩) (by unfold outc; rw [g1]) w hT (by omega)).mono fun e w' ⟨A, c, q1, q2, q3⟩ => ⟨A, c, [], 6, _, q1, q2, q3, fun h => absurd h h64, fun _ => ⟨rfl, rfl⟩⟩
theorem parse_open (fl : Nat → Bool) (k : Nat) (hk2 : k + 1 ≤ 64) (w : World) (hT : U.Tb w) : Calls Tryd.prog 5 #[.string (deepT fl (k + 1) k)] w fun e w' => ∃ A c, e = .returned (.tuple #[.agg #[.slice A 0 c], fv 4 ((((openT fl (k + 1)).size + (k + 1) : Nat)) : Int)]) ∧ Nr w' A [] ∧ Below w.heap.size w w' := by
  obtain ⟨W, ht, _, h2, _⟩ := deep_fin fl (k + 1) k (by omega)
  have hs := deepT_size fl (k + 1) k
  have ho := openT_size fl (k + 1)
  have g1 := h2 hk2 rfl
  exact parse_at (L := []) (E := 4) (q := (((openT fl (k + 1)).size + (k + 1) : Nat) : Int)) (x := 0) (a := 0) (.inl ht) (by rw [ht]; exact ⟨rfl, rfl⟩) (by unfold outc; rw [g1]; dsimp only; rw [if_pos rfl, hs]; congr 3; omega) w hT (by omega)
theorem parse_open1 (fl : Nat → Bool) (i : Nat) (h1 : 1 ≤ i) (h64 : i ≤ 64) (w : World) (hT : U.Tb w) : Calls Tryd.prog 5 #[.string (deepT fl i (i - 1))] w fun e w' => ∃ A c, e = .returned (.tuple #[.agg #[.slice A 0 c], fv 4 (((openT fl i).size : Int) + (i : Int))]) ∧ Nr w' A [] ∧ Below w.heap.size w w' := by
  obtain ⟨j, rfl⟩ : ∃ j, i = j + 1 := ⟨i - 1, by omega⟩
  exact parse_open fl j h64 w hT
theorem close_cut1 (i : Nat) (h1 : 1 ≤ i) : (closeT i).extract 1 i = closeT (i - 1) := by
  obtain ⟨j, rfl⟩ : ∃ j, i = j + 1 := ⟨i - 1, by omega⟩
  exact close_cut j
/-- A slice of bools that reads so. -/
def CellsB (w : World) (B : Nat) (A : Option Addr) (n : Nat) (f : Nat → Bool) : Prop := 0 < n → ∃ b off, A = some ⟨b, off, none⟩ ∧ b < B ∧ ∀ j, j < n → w.cell? ⟨b, off + j, none⟩ = some (.bool (f j))
/-- Which groups are plain. -/
def flP (n : Nat) (f : Nat → Bool) (i : Nat) : Bool := decide (i < n) && f i
theorem flP_no {n : Nat} {f : Nat → Bool} {i : Nat} (h : ¬ i < n) : flP n f i = false := by unfold flP; rw [decide_eq_false h]; rfl
theorem flP_in {n : Nat} {f : Nat → Bool} {i : Nat} (h : i < n) : flP n f i = f i := by unfold flP; rw [decide_eq_true h]; rfl
theorem openT_y {fl : Nat → Bool} {i : Nat} (h : fl i = true) : openT fl (i + 1) = openT fl i ++ pcP := by show (if fl i then _ else _) = _; rw [h]; rfl
theorem openT_n {fl : Nat → Bool} {i : Nat} (h : fl i = false) : openT fl (i + 1) = openT fl i ++ pcO := by show (if fl i then _ else _) = _; rw [h]; rfl
theorem cpN_y {fl : Nat → Bool} {i : Nat} (h : fl i = true) : cpN fl (i + 1) = cpN fl i := by show (if fl i then _ else _) = _; rw [h]; rfl
theorem cpN_n {fl : Nat → Bool} {i : Nat} (h : fl i = false) : cpN fl (i + 1) = cpN fl i + 1 := by show (if fl i then _ else _) = _; rw [h]; rfl
/-- The place of the first group that is too deep, as it is kept. -/
def atP (fl : Nat → Bool) (i : Nat) : Int := if 64 < i then (((openT fl 64).size : Nat) : Int) else 0
set_option maxHeartbeats 8000000 in
set_option maxRecDepth 100000 in
theorem pdeep_walk (m : Nat) (A : Option Addr) (n c : Nat) (f : Nat → Bool) (w : World) (hT : U.Tb w) (hC : CellsB w w.heap.size A n f) (hm : m < 256) : Calls Tryd.prog 3 #[.int .u8 (m : Int), .slice A n c] w fun e w' => e = .returned (.bool true) ∧ Below w.heap.size w w' := by
  have HT := Lib.hid hT; have HC := Lib.hid hC; clear hT hC
  go_enter Tryd.func3, Tryd.ntmps3
  go_wp2_with fail
  obtain ⟨k, hk, h1, h90⟩ : ∃ k : Nat, 1 + (m : Int) % 90 = (k : Int) ∧ 1 ≤ k ∧ k ≤ 90 := ⟨1 + m % 90, by omega, by omega, by omega⟩
  rw [hk]
  clear hk
  have HPD := Lib.hid (fun (W : World) (hW : U.Tb W) => parse_deep (flP n f) k h1 (by omega) W hW)
  go_loopw [6, 7, 8, 9, 10] (fun o e a cp t wr => ∃ i : Nat, o = .string (openT (flP n f) i) ∧ e = .string (closeT i) ∧ a = .int .i64 (atP (flP n f) i) ∧ cp = .int .i64 ((cpN (flP n f) i : Nat) : Int) ∧ t = .int .i64 (i : Int) ∧ i ≤ k ∧ wr = w) (fun _ _ _ _ t _ => k - (intOf t).toNat)
  case atStart => exact ⟨0, rfl, rfl, rfl, rfl, rfl, Nat.zero_le _, by first | trivial | rfl⟩
  case round =>
    obtain ⟨i, rfl, rfl, rfl, rfl, rfl, hik, rfl⟩ := hrel
    by_cases hlt : i < k
    · have d1 : decide (i < k) = true := decide_eq_true hlt
      have hlt' : (i : Int) < (k : Int) := by omega
      have hso : (openT (flP n f) i).size ≤ 300 := by have := openT_size (flP n f) i; omega
      have hsc : (closeT i).size ≤ 100 := by rw [closeT_size]; omega
      have hcl : closeT i ++ (⟨#[41]⟩ : ByteArray) = closeT (i + 1) := rfl
      have hcp : cpN (flP n f) i ≤ 100 := by have := cpN_le (flP n f) i; omega
      have HCL := Lib.hid hcl
      clear hcl
      by_cases h64 : i = 64
      · subst h64
        by_cases hin : 64 < n
        · have d2 : decide (64 < n) = true := decide_eq_true hin
          have d2' : ((64 : Nat) : Int) < (n : Int) := by omega
          obtain ⟨b, off, rfl, hb, hcell⟩ := HC.out (by omega)
          have c0 := hcell 64 hin
          clear hcell
          cases hfi : f 64 with
          | true =>
            have hfl : flP n f 64 = true := by rw [flP_in hin]; exact hfi
            rw [hfi] at c0
            clear hfi
            have HO := Lib.hid (openT_y hfl)
            have HCP := Lib.hid (cpN_y hfl)
            have HAT := Lib.hid (show atP (flP n f) (64 + 1) = (((openT (flP n f) 64).size : Nat) : Int) from by unfold atP; rw [if_pos (by decide)])
            clear hfl
            generalize openT (flP n f) 64 = ot at *
            generalize closeT 64 = ct at *
            generalize cpN (flP n f) 64 = cc at *
            go_wp2_with fail
            go_roundw
            case rel => exact ⟨64 + 1, congrArg Value.string HO.out.symm, congrArg Value.string HCL.out, congrArg (Value.int .i64) HAT.out.symm, congrArg (Value.int .i64) (by rw [HCP.out]), congrArg (Value.int .i64) (by omega), hlt, by first | trivial | rfl⟩
            case measure => simp [intOf]; omega
          | false =>
            have hfl : flP n f 64 = false := by rw [flP_in hin]; exact hfi
            rw [hfi] at c0
            clear hfi
            have HO := Lib.hid (openT_n hfl)
            have HCP := Lib.hid (cpN_n hfl)
            have HAT := Lib.hid (show atP (flP n f) (64 + 1) = (((openT (flP n f) 64).size : Nat) : Int) from by unfold atP; rw [if_pos (by decide)])
            clear hfl
            generalize openT (flP n f) 64 = ot at *
            generalize closeT 64 = ct at *
            generalize cpN (flP n f) 64 = cc at *
            go_wp2_with fail
            go_roundw
            case rel => exact ⟨64 + 1, congrArg Value.string HO.out.symm, congrArg Value.string HCL.out, congrArg (Value.int .i64) HAT.out.symm, congrArg (Value.int .i64) (by rw [HCP.out]; omega), congrArg (Value.int .i64) (by omega), hlt, by first | trivial | rfl⟩
            case measure => simp [intOf]; omega
        · have d2 : decide (64 < n) = false := decide_eq_false hin
          have d2' : (n : Int) ≤ ((64 : Nat) : Int) := by omega
          have hfl : flP n f 64 = false := flP_no hin
          have HO := Lib.hid (openT_n hfl)
          have HCP := Lib.hid (cpN_n hfl)
          have HAT := Lib.hid (show atP (flP n f) (64 + 1) = (((openT (flP n f) 64).size : Nat) : Int) from by unfold atP; rw [if_pos (by decide)])
          clear hfl
          generalize openT (flP n f) 64 = ot at *
          generalize closeT 64 = ct at *
          generalize cpN (flP n f) 64 = cc at *
          go_wp2_with fail
          go_roundw
          case rel => exact ⟨64 + 1, congrArg Value.string HO.out.symm, congrArg Value.string HCL.out, congrArg (Value.int .i64) HAT.out.symm, congrArg (Value.int .i64) (by rw [HCP.out]; omega), congrArg (Value.int .i64) (by omega), hlt, by first | trivial | rfl⟩
          case measure => simp [intOf]; omega
      · have e64 : ((i : Int) == 64) = false := beq_eq_false_iff_ne.2 (by omega)
        by_cases hin : i < n
        · have d2 : decide (i < n) = true := decide_eq_true hin
          have d2' : ((i : Nat) : Int) < (n : Int) := by omega
          obtain ⟨b, off, rfl, hb, hcell⟩ := HC.out (by omega)
          have c0 := hcell i hin
          clear hcell
          cases hfi : f i with
          | true =>
            have hfl : flP n f i = true := by rw [flP_in hin]; exact hfi
            rw [hfi] at c0
            clear hfi
            have HO := Lib.hid (openT_y hfl)
            have HCP := Lib.hid (cpN_y hfl)
            have HAT := Lib.hid (show atP (flP n f) (i + 1) = atP (flP n f) i from by unfold atP; by_cases h : 64 < i; (rw [if_pos h, if_pos (by omega)]); (rw [if_neg h, if_neg (by omega)]))
            clear hfl
            generalize openT (flP n f) i = ot at *
            generalize closeT i = ct at *
            generalize cpN (flP n f) i = cc at *
            generalize atP (flP n f) i = av at *
            go_wp2_with fail
            go_roundw
            case rel => exact ⟨i + 1, congrArg Value.string HO.out.symm, congrArg Value.string HCL.out, congrArg (Value.int .i64) HAT.out.symm, congrArg (Value.int .i64) (by rw [HCP.out]), congrArg (Value.int .i64) (by omega), hlt, by first | trivial | rfl⟩
            case measure => simp [intOf]; omega
          | false =>
            have hfl : flP n f i = false := by rw [flP_in hin]; exact hfi
            rw [hfi] at c0
            clear hfi
            have HO := Lib.hid (openT_n hfl)
            have HCP := Lib.hid (cpN_n hfl)
            have HAT := Lib.hid (show atP (flP n f) (i + 1) = atP (flP n f) i from by unfold atP; by_cases h : 64 < i; (rw [if_pos h, if_pos (by omega)]); (rw [if_neg h, if_neg (by omega)]))
            clear hfl
            generalize openT (flP n f) i = ot at *
            generalize closeT i = ct at *
            generalize cpN (flP n f) i = cc at *
            generalize atP (flP n f) i = av at *
            go_wp2_with fail
            go_roundw
            case rel => exact ⟨i + 1, congrArg Value.string HO.out.symm, congrArg Value.string HCL.out, congrArg (Value.int .i64) HAT.out.symm, congrArg (Value.int .i64) (by rw [HCP.out]; omega), congrArg (Value.int .i64) (by omega), hlt, by first | trivial | rfl⟩
            case measure => simp [intOf]; omega
        · have d2 : decide (i < n) = false := decide_eq_false hin
          have d2' : (n : Int) ≤ ((i : Nat) : Int) := by omega
          have hfl : flP n f i = false := flP_no hin
          have HO := Lib.hid (openT_n hfl)
          have HCP := Lib.hid (cpN_n hfl)
          have HAT := Lib.hid (show atP (flP n f) (i + 1) = atP (flP n f) i from by unfold atP; by_cases h : 64 < i; (rw [if_pos h, if_pos (by omega)]); (rw [if_neg h, if_neg (by omega)]))
          clear hfl
          generalize openT (flP n f) i = ot at *
          generalize closeT i = ct at *
          generalize cpN (flP n f) i = cc at *
          generalize atP (flP n f) i = av at *
          go_wp2_with fail
          go_roundw
          case rel => exact ⟨i + 1, congrArg Value.string HO.out.symm, congrArg Value.string HCL.out, congrArg (Value.int .i64) HAT.out.symm, congrArg (Value.int .i64) (by rw [HCP.out]; omega), congrArg (Value.int .i64) (by omega), hlt, by first | trivial | rfl⟩
          case measure => simp [intOf]; omega
    · have d1 : decide (i < k) = false := decide_eq_false hlt
      obtain rfl : i = k := by omega
      have hso : (openT (flP n f) i).size ≤ 300 := by have := openT_size (flP n f) i; omega
      have hsc : (closeT i).size ≤ 100 := by rw [closeT_size]; omega
      have hdt : openT (flP n f) i ++ (⟨#[97]⟩ : ByteArray) ++ closeT i = deepT (flP n f) i i := rfl
      have HDT := Lib.hid hdt
      have hcp : cpN (flP n f) i ≤ 100 := by have := cpN_le (flP n f) i; omega
      clear hdt
      have hgt := Tryd.eqGuardType28
      go_wp2_with fail
      rw [HDT.out]
      refine (HPD.out _ HT.out).mono ?_
      rintro e w1 ⟨A1, c1, L, E, q, rfl, hN, hb1, hok, hbad⟩
      obtain ⟨nl, hn⟩ : ∃ nl, L.length = nl := ⟨_, rfl⟩
      rw [hn]
      obtain ⟨ba, kz0, kz1⟩ := two_new w1 A1 nl c1 E q
      have HB1 := Lib.hid (S.bel_trans hb1 ba)
      have HN := Lib.hid (hN.below ba)
      have HK0 := Lib.hid kz0; have HK1 := Lib.hid kz1
      obtain ⟨p0, _⟩ := obj29 kz0
      obtain ⟨z0, z1, _⟩ := blk2 kz1
      have HNL := Lib.hid hn
      by_cases h64 : i ≤ 64
      · obtain ⟨rfl, rfl, hl1, hl2⟩ := hok h64
        have d64 : decide (64 < i) = false := decide_eq_false (by omega)
        have d64' : (i : Int) ≤ 64 := by omega
        have HPO := Lib.hid (fun (W : World) (hW : U.Tb W) => parse_open1 (flP n f) i h1 h64 W hW)
        have hcut : (closeT i).extract 1 (closeT i).size = closeT (i - 1) := by rw [closeT_size]; exact close_cut1 i h1
        have hcz : 1 ≤ (closeT i).size := by rw [closeT_size]; exact h1
        have hcz' : (1 : Int) ≤ ((closeT i).size : Int) := by omega
        have hxs : ((closeT i).extract 1 (closeT i).size).size ≤ 100 := by rw [hcut, closeT_size]; omega
        have HCUT := Lib.hid hcut
        have HD2 := Lib.hid (show openT (flP n f) i ++ (⟨#[97]⟩ : ByteArray) ++ closeT (i - 1) = deepT (flP n f) i (i - 1) from rfl)
        have HL1 := Lib.hid (hn.symm.trans hl1)
        have HL2 := Lib.hid hl2
        clear hok hbad hl1 hl2 hn hN hb1 ba kz0 kz1 hcut HPD h64
        go_wp2_with fail
        rw [HCUT.out, HD2.out]
        refine (HPO.out _ (HT.out.below HB1.out)).mono ?_
        rintro e w2 ⟨A2, c2, rfl, _, hb2⟩
        obtain ⟨ba2, ky0, ky1⟩ := two_new w2 A2 0 c2 4 (((openT (flP n f) i).size : Int) + (i : Int))
        have hb := S.bel_trans hb2 ba2
        have HB2 := Lib.hid (S.bel_trans HB1.out hb)
        have HJ0 := Lib.hid (keepL HK0.out hb); have HJ1 := Lib.hid (keepL HK1.out hb); have HJ3 := Lib.hid ky1
        obtain ⟨p1, _⟩ := obj29 HJ0.out
        obtain ⟨x0, x1, _⟩ := blk2 HJ1.out
        have hnl : nl ≤ 20000 := by have := HL1.out; omega
        have hcc : ((idx 8 L nl).length : Int) = ((cpN (flP n f) i : Nat) : Int) := by
          rw [idx_caps L nl (by rw [HNL.out]; exact Nat.le_refl _), ← HL2.out, HNL.out]
        have HCAP := Lib.hid ((tcaps_any A1 nl c1 L _ (HN.out.below hb) HNL.out hnl).mono fun e w' g => (show e = .returned (.int .i64 ((cpN (flP n f) i : Nat) : Int)) ∧ Below _ _ w' from ⟨by rw [g.1, hcc], g.2⟩))
        have hnq : ((nl : Int) == 1 + ((cpN (flP n f) i : Nat) : Int)) = true := by have := HL1.out; simp; omega
        have hq := eqf 4 (((openT (flP n f) i).size : Int) + (i : Int))
        clear hb2 ba2 ky0 ky1 hb hcc p0 z0 z1
        go_wp2_with fail
        refine HCAP.out.mono ?_
        rintro e w3 ⟨rfl, hb3⟩
        obtain ⟨p3, _⟩ := obj29 (keepL HJ0.out hb3)
        obtain ⟨y0, y1, _⟩ := blk2 (keepL HJ3.out hb3)
        have HB3 := Lib.hid (S.bel_trans HB2.out hb3)
        clear hb3
        go_wp2_with fail
        refine (wakes9_any _ (HT.out.below HB3.out)).mono ?_
        rintro e w4 ⟨rfl, hb4⟩
        go_wp2_with fail
        go_ret
        exact ⟨rfl, S.bel_trans HB3.out hb4⟩
      · obtain ⟨rfl, rfl⟩ := hbad (by omega)
        have d64 : decide (64 < i) = true := decide_eq_true (by omega)
        have d64' : (64 : Int) < (i : Int) := by omega
        have hat : atP (flP n f) i = (((openT (flP n f) 64).size : Nat) : Int) := by unfold atP; rw [if_pos (by omega)]
        rw [hat]
        have hq := eqf 6 (((openT (flP n f) 64).size : Nat) : Int)
        clear hok hbad hn hN hb1 ba kz0 kz1 hat
        go_wp2_with fail
        refine (wakes9_any _ (HT.out.below HB1.out)).mono ?_
        rintro e w3 ⟨rfl, hb3⟩
        go_wp2_with fail
        go_ret
        exact ⟨rfl, S.bel_trans HB1.out hb3⟩
theorem pdeep_any (n : Int) (A : Option Addr) (p c : Nat) (f : Nat → Bool) (w : World) (hT : U.Tb w) (hC : CellsB w w.heap.size A p f) (hn : 0 ≤ n ∧ n < 256) : Calls Tryd.prog 3 #[.int .u8 n, .slice A p c] w fun e w' => e = .returned (.bool true) ∧ Below w.heap.size w w' := by
  obtain ⟨m, rfl⟩ := Int.eq_ofNat_of_zero_le hn.1
  exact pdeep_walk m A p c f w hT hC (by omega)
end Go.Proofs.YtceeimolfalmpaaDoor.T
