/-
  Which nodes are sets (Leaves), of the program and of the page's own. Condition: at most 20000 nodes.
-/
import Derived.Test.YtceeimolfalmpaaVF
namespace Go.Proofs.Ytceeimolfalmpaa
open Go.RowKit ObSets ObTree

set_option maxHeartbeats 2000000 in
set_option maxRecDepth 100000 in
theorem tleaves_any (A : Option Addr) (n c : Nat) (L : List Nd) (w : World) (hN : Nr w A L) (hn : L.length = n) (hnb : n ≤ 20000) :
    Calls Try.prog 24 #[tr A n c] w (RetZ (idx 2 L n) w) := by
  obtain ⟨i0, hi0, hz0, hz1, hz2⟩ := info_parts info3
  have HN := Lib.hid hN; have HLN := Lib.hid hn
  clear hN hn
  have ha0 := (Below.refl w.heap.size w).alloc (Nat.le_refl _) (.cells #[.slice A n c] 24)
  have hz : (w.alloc (.cells #[.slice A n c] 24)).heap.size = w.heap.size + 1 := by simp
  have hGA := heap_new w (.cells #[.slice A n c] 24)
  go_enter Try.func24, Try.ntmps24
  go_upto_region 1 with fail
  generalize w.alloc (.cells #[.slice A n c] 24) = W0 at *
  obtain ⟨a0, _⟩ := obj29 hGA
  have HGA := Lib.hid hGA; have HA0 := Lib.hid ha0
  clear hGA ha0
  go_wp2_with fail
  go_loopw [3, 9] (fun tv ti wr => ∃ i : Nat, ti = .int .i64 (i : Int) ∧ i ≤ n ∧ Hid (wr.ownsRow W0.heap.size 3 1 tv (idx 2 L i).length (ints (idx 2 L i))) ∧ Hid (Below W0.heap.size W0 wr)) (fun _ ti _ => n - (intOf ti).toNat)
  case atStart => exact ⟨0, rfl, Nat.zero_le _, Lib.hid (World.ownsRow_nil _ _ _ _), Lib.hid (Below.refl _ _)⟩
  case round =>
    obtain ⟨i, rfl, hi, HR, HG⟩ := hrel
    have hgs := HG.out.size
    have HB2 := Lib.hid (HA0.out.trans (HG.out.mono HA0.out.size))
    obtain ⟨o0, _⟩ := obj29 (keepL HGA.out HG.out)
    have hil := idx_len 2 L i
    obtain ⟨kc, hkc⟩ : ∃ kc, (idx 2 L i).length = kc := ⟨_, rfl⟩
    have HKC := Lib.hid hkc
    rw [hkc] at hil HR
    clear hkc
    by_cases hin : i < n
    · have d1 : decide (i < n) = true := decide_eq_true hin
      have hin' : (i : Int) < (n : Int) := by omega
      obtain ⟨x, hx⟩ : ∃ x, L[i]? = some x := ⟨_, List.getElem?_eq_getElem (by rw [HLN.out]; exact hin)⟩
      obtain ⟨bb, off, rfl, hbl, hnd⟩ := nr_at HN.out hx
      obtain ⟨As, ks, ⟨c0, c1, c2, c3, c4, c5, c6⟩, _⟩ := hnd.below hbl HB2.out
      have HX := Lib.hid hx
      obtain ⟨sl, hsl⟩ : ∃ sl, x.set.length = sl := ⟨_, rfl⟩
      rw [hsl] at c3
      have HBX := Lib.hid (show Below W0.heap.size W0 (wr.alloc (.cells #[.int .i64 x.kind, .int .i64 x.a, .int .i64 x.b, .slice As sl ks, .int .i64 x.mn, .int .i64 x.mx, .int .i64 x.n] 35)) from HG.out.alloc hgs _)
      have HRX := Lib.hid (show ((wr.alloc (.cells #[.int .i64 x.kind, .int .i64 x.a, .int .i64 x.b, .slice As sl ks, .int .i64 x.mn, .int .i64 x.mx, .int .i64 x.n] 35))).ownsRow W0.heap.size 3 1 u3 kc (ints (idx 2 L i)) from HR.out.alloc _)
      clear hnd hx hsl
      by_cases hk : x.kind = 2
      · have e1 : (x.kind == 2) = true := by simp [hk]
        have HS := Lib.hid (idx_yes HX.out hk)
        have HWA := Lib.hid (HBX.out.alloc HBX.out.size (.cells #[.int .i64 (i : Int)] 3))
        have HRA := Lib.hid (HRX.out.alloc (.cells #[.int .i64 (i : Int)] 3))
        have HCL := Lib.hid (one_cell (wr.alloc (.cells #[.int .i64 x.kind, .int .i64 x.a, .int .i64 x.b, .slice As sl ks, .int .i64 x.mn, .int .i64 x.mx, .int .i64 x.n] 35)) (wr.heap.size + 1) (by simp) (i : Int))
        clear hk
        go_wp2_with (at_builtin; refine wpList_append_own _ rfl _ _ 29 rfl W0.heap.size 3 i0 (.int .i64 0) 1 8 Try.underlying29 hi0 hz0 hz1 hz2 rfl (by decide) _ _ _ rfl HRA.out ⟨_, 0, none⟩ 1 1 [.int .i64 (i : Int)] rfl rfl ?cl (by intro u hu; simp at hu; subst hu; rfl) ?c3 ?c4 ?c5 ?_)
        case cl => exact HCL.out
        case c3 => unfold maxLen; omega
        case c4 => omega
        case c5 => exact HWA.out.size
        intro v2 w2 hown2 hg2 _
        have HR2 := Lib.hid (show w2.ownsRow W0.heap.size 3 1 v2 (idx 2 L (i + 1)).length (ints (idx 2 L (i + 1))) by
          rw [hz, HS.out, List.length_append, HKC.out, show ints (idx 2 L i ++ [(i : Int)]) = ints (idx 2 L i) ++ [.int .i64 (i : Int)] by simp [ints]]; exact hown2)
        have HG2 := Lib.hid (HWA.out.grown hg2 HWA.out.size (fun k hk => (HRA.out.lt k hk).1))
        clear hown2 hg2
        go_wp2_with fail
        go_roundw
        case rel => exact ⟨i + 1, congrArg (Value.int .i64) (by omega), hin, HR2, HG2⟩
        case measure => simp [intOf]; omega
      · have e1 : (x.kind == 2) = false := beq_eq_false_iff_ne.2 hk
        have HS := Lib.hid (idx_no HX.out hk)
        have HR2 := Lib.hid (show ((wr.alloc (.cells #[.int .i64 x.kind, .int .i64 x.a, .int .i64 x.b, .slice As sl ks, .int .i64 x.mn, .int .i64 x.mx, .int .i64 x.n] 35))).ownsRow W0.heap.size 3 1 u3 (idx 2 L (i + 1)).length (ints (idx 2 L (i + 1))) by rw [HS.out, HKC.out]; exact HRX.out)
        clear hk
        go_wp2_with fail
        go_roundw
        case rel => exact ⟨i + 1, congrArg (Value.int .i64) (by omega), hin, HR2, HBX⟩
        case measure => simp [intOf]; omega
    · have d1 : decide (i < n) = false := decide_eq_false hin
      obtain rfl : i = n := by omega
      go_wp2_with fail
      go_ret
      exact ⟨_, rfl, less1 (by rw [HKC.out]; exact HR.out) (by omega), HB2.out⟩
set_option maxHeartbeats 2000000 in
set_option maxRecDepth 100000 in
theorem rleaves_any (A : Option Addr) (n c : Nat) (L : List Nd) (w : World) (hN : Nr w A L) (hn : L.length = n) (hnb : n ≤ 20000) :
    Calls Try.prog 29 #[tr A n c] w (RetZ (idx 2 L n) w) := by
  obtain ⟨i0, hi0, hz0, hz1, hz2⟩ := info_parts info3
  have HN := Lib.hid hN; have HLN := Lib.hid hn
  clear hN hn
  have ha0 := (Below.refl w.heap.size w).alloc (Nat.le_refl _) (.cells #[.slice A n c] 24)
  have hz : (w.alloc (.cells #[.slice A n c] 24)).heap.size = w.heap.size + 1 := by simp
  have hGA := heap_new w (.cells #[.slice A n c] 24)
  go_enter Try.func29, Try.ntmps29
  go_upto_region 1 with fail
  generalize w.alloc (.cells #[.slice A n c] 24) = W0 at *
  obtain ⟨a0, _⟩ := obj29 hGA
  have HGA := Lib.hid hGA; have HA0 := Lib.hid ha0
  clear hGA ha0
  go_wp2_with fail
  go_loopw [3, 4] (fun tv ti wr => ∃ i : Nat, ti = .int .i64 (i : Int) ∧ i ≤ n ∧ Hid (wr.ownsRow W0.heap.size 3 1 tv (idx 2 L i).length (ints (idx 2 L i))) ∧ Hid (Below W0.heap.size W0 wr)) (fun _ ti _ => n - (intOf ti).toNat)
  case atStart => exact ⟨0, rfl, Nat.zero_le _, Lib.hid (World.ownsRow_nil _ _ _ _), Lib.hid (Below.refl _ _)⟩
  case round =>
    obtain ⟨i, rfl, hi, HR, HG⟩ := hrel
    have hgs := HG.out.size
    have HB2 := Lib.hid (HA0.out.trans (HG.out.mono HA0.out.size))
    obtain ⟨o0, _⟩ := obj29 (keepL HGA.out HG.out)
    have hil := idx_len 2 L i
    obtain ⟨kc, hkc⟩ : ∃ kc, (idx 2 L i).length = kc := ⟨_, rfl⟩
    have HKC := Lib.hid hkc
    rw [hkc] at hil HR
    clear hkc
    by_cases hin : i < n
    · have d1 : decide (i < n) = true := decide_eq_true hin
      have hin' : (i : Int) < (n : Int) := by omega
      obtain ⟨x, hx⟩ : ∃ x, L[i]? = some x := ⟨_, List.getElem?_eq_getElem (by rw [HLN.out]; exact hin)⟩
      obtain ⟨bb, off, rfl, hbl, hnd⟩ := nr_at HN.out hx
      obtain ⟨As, ks, ⟨c0, c1, c2, c3, c4, c5, c6⟩, _⟩ := hnd.below hbl HB2.out
      have HX := Lib.hid hx
      obtain ⟨sl, hsl⟩ : ∃ sl, x.set.length = sl := ⟨_, rfl⟩
      rw [hsl] at c3
      have HBX := Lib.hid (show Below W0.heap.size W0 wr from HG.out)
      have HRX := Lib.hid (show (wr).ownsRow W0.heap.size 3 1 u3 kc (ints (idx 2 L i)) from HR.out)
      clear hnd hx hsl
      by_cases hk : x.kind = 2
      · have e1 : (x.kind == 2) = true := by simp [hk]
        have HS := Lib.hid (idx_yes HX.out hk)
        have HWA := Lib.hid (HBX.out.alloc HBX.out.size (.cells #[.int .i64 (i : Int)] 3))
        have HRA := Lib.hid (HRX.out.alloc (.cells #[.int .i64 (i : Int)] 3))
        have HCL := Lib.hid (one_cell wr _ rfl (i : Int))
        clear hk
        go_wp2_with (at_builtin; refine wpList_append_own _ rfl _ _ 29 rfl W0.heap.size 3 i0 (.int .i64 0) 1 8 Try.underlying29 hi0 hz0 hz1 hz2 rfl (by decide) _ _ _ rfl HRA.out ⟨_, 0, none⟩ 1 1 [.int .i64 (i : Int)] rfl rfl ?cl (by intro u hu; simp at hu; subst hu; rfl) ?c3 ?c4 ?c5 ?_)
        case cl => exact HCL.out
        case c3 => unfold maxLen; omega
        case c4 => omega
        case c5 => exact HWA.out.size
        intro v2 w2 hown2 hg2 _
        have HR2 := Lib.hid (show w2.ownsRow W0.heap.size 3 1 v2 (idx 2 L (i + 1)).length (ints (idx 2 L (i + 1))) by
          rw [hz, HS.out, List.length_append, HKC.out, show ints (idx 2 L i ++ [(i : Int)]) = ints (idx 2 L i) ++ [.int .i64 (i : Int)] by simp [ints]]; exact hown2)
        have HG2 := Lib.hid (HWA.out.grown hg2 HWA.out.size (fun k hk => (HRA.out.lt k hk).1))
        clear hown2 hg2
        go_wp2_with fail
        go_roundw
        case rel => exact ⟨i + 1, congrArg (Value.int .i64) (by omega), hin, HR2, HG2⟩
        case measure => simp [intOf]; omega
      · have e1 : (x.kind == 2) = false := beq_eq_false_iff_ne.2 hk
        have HS := Lib.hid (idx_no HX.out hk)
        have HR2 := Lib.hid (show (wr).ownsRow W0.heap.size 3 1 u3 (idx 2 L (i + 1)).length (ints (idx 2 L (i + 1))) by rw [HS.out, HKC.out]; exact HRX.out)
        clear hk
        go_wp2_with fail
        go_roundw
        case rel => exact ⟨i + 1, congrArg (Value.int .i64) (by omega), hin, HR2, HBX⟩
        case measure => simp [intOf]; omega
    · have d1 : decide (i < n) = false := decide_eq_false hin
      obtain rfl : i = n := by omega
      go_wp2_with fail
      go_ret
      exact ⟨_, rfl, less1 (by rw [HKC.out]; exact HR.out) (by omega), HB2.out⟩
end Go.Proofs.Ytceeimolfalmpaa
