/-
  A tree's nodes behind others (shift), of the statements' own. Conditions: at most 50000 nodes, whose kids stand below 100000.
-/
import Derived.Test.YtceeimolfalmpaaTF
namespace Go.Proofs.Ytceeimolfalmpaa
open Go.RowKit ObSets ObTree

/-- What is handed back: a row of nodes. -/
def RetN (w0 w : World) (l : List Nd) (e : Ending) (w' : World) : Prop := ∃ A c, e = .returned (.slice A l.length c) ∧ Nk w' w0.heap.size (.slice A l.length c) l ∧ Below w.heap.size w w'
/-- A node opened. -/
theorem nr_at {w : World} {A : Option Addr} {l : List Nd} (h : Nr w A l) {j : Nat} {x : Nd} (hx : l[j]? = some x) : ∃ b off, A = some ⟨b, off, none⟩ ∧ b < w.heap.size ∧ NdAt w b (off + j * 7) x := by
  obtain ⟨b, off, e, hlt, hc⟩ := h (by rintro rfl; simp at hx)
  exact ⟨b, off, e, hlt, hc j x hx⟩
theorem blk7 {w : World} {r : Nat} {a b c d e f g : Value} {t : TypeId} (h : w.heap[r]? = some (.cells #[a, b, c, d, e, f, g] t (0, 0))) : (w.cell? ⟨r, 0, none⟩ = some a ∧ w.cell? ⟨r, 1, none⟩ = some b ∧ w.cell? ⟨r, 2, none⟩ = some c ∧ w.cell? ⟨r, 3, none⟩ = some d ∧ w.cell? ⟨r, 4, none⟩ = some e ∧ w.cell? ⟨r, 5, none⟩ = some f ∧ w.cell? ⟨r, 6, none⟩ = some g) ∧ ∀ k, w.frozen? ⟨r, k, none⟩ = false := by
  refine ⟨⟨by simp [World.cell?, h], by simp [World.cell?, h], by simp [World.cell?, h], by simp [World.cell?, h], by simp [World.cell?, h], by simp [World.cell?, h], by simp [World.cell?, h]⟩, fun k => by simp [World.frozen?, h]⟩
set_option maxHeartbeats 4000000 in
set_option maxRecDepth 100000 in
theorem shift_any (w0 w : World) (A : Option Addr) (n c N : Nat) (L : List Nd) (hN : Nr w0 A L) (hn : L.length = n) (hb : Below w0.heap.size w0 w) (hn1 : n ≤ 50000) (hN1 : N ≤ 50000) (hk : ∀ (j : Nat) x, L[j]? = some x → ∀ k ∈ kids x, 0 ≤ k ∧ k < 100000) :
    Calls Try.prog 40 #[tr A n c, .int .i64 (N : Int)] w (RetN w0 w (L.map (sh N))) := by
  have HN := Lib.hid hN; have HLN := Lib.hid hn; have HB := Lib.hid hb; have HK := Lib.hid hk
  have hs0 := hb.size
  clear hN hn hb hk
  have HBX := Lib.hid (heap_new w (.cells #[.slice A n c] 24))
  have ha1 := (Below.refl w.heap.size w).alloc (Nat.le_refl _) (.cells #[.slice A n c] 24)
  have HA1 := Lib.hid ha1
  have hs1 : (w.alloc (.cells #[.slice A n c] 24)).heap.size = w.heap.size + 1 := by simp
  clear ha1
  go_enter Try.func40, Try.ntmps40
  go_wp2_with fail
  go_loopw [5, 6] (fun tv ti wr => ∃ i : Nat, ti = .int .i64 (i : Int) ∧ i ≤ n ∧ Hid (Nk wr w0.heap.size tv ((L.take i).map (sh N))) ∧ Hid (∀ k, tv.ownBlock = some k → w.heap.size + 1 ≤ k) ∧ Hid (Below (w.heap.size + 1) (w.alloc (.cells #[.slice A n c] 24)) wr)) (fun _ ti _ => n - (intOf ti).toNat)
  case atStart => exact ⟨0, rfl, Nat.zero_le _, Lib.hid (Nk.nil _ _), Lib.hid (fun k hk => by cases hk), Lib.hid (Below.refl _ _)⟩
  case round =>
    obtain ⟨i, rfl, hi, HK1, HV, HW⟩ := hrel
    have hws := HW.out.size
    rw [hs1] at hws
    have HBX1 := Lib.hid ((HW.out.block _ (Nat.lt_succ_self _)).trans HBX.out)
    have b0 := blk1 HBX1.out
    have HB0 := Lib.hid (HB.out.trans ((HA1.out.mono hs0).trans (HW.out.mono (by omega))))
    by_cases hin : i < n
    · have d1 : decide (i < n) = true := decide_eq_true hin
      have hin' : (i : Int) < (n : Int) := by omega
      obtain ⟨x, hx⟩ : ∃ x, L[i]? = some x := ⟨_, List.getElem?_eq_getElem (by rw [HLN.out]; exact hin)⟩
      have HKX := Lib.hid (HK.out i x hx)
      obtain ⟨b, off, rfl, hlt, hnd⟩ := nr_at HN.out hx
      obtain ⟨As, ks, ⟨z0, z1, z2, z3, z4, z5, z6⟩, hrg⟩ := hnd
      have c0 := (HB0.out.cell (p := ⟨b, _, none⟩) hlt).trans z0
      have c1 := (HB0.out.cell (p := ⟨b, _, none⟩) hlt).trans z1
      have c2 := (HB0.out.cell (p := ⟨b, _, none⟩) hlt).trans z2
      have c3 := (HB0.out.cell (p := ⟨b, _, none⟩) hlt).trans z3
      have c4 := (HB0.out.cell (p := ⟨b, _, none⟩) hlt).trans z4
      have c5 := (HB0.out.cell (p := ⟨b, _, none⟩) hlt).trans z5
      have c6 := (HB0.out.cell (p := ⟨b, _, none⟩) hlt).trans z6
      have HRG := Lib.hid hrg
      have HTAKE := Lib.hid (show (L.take (i + 1)).map (sh N) = (L.take i).map (sh N) ++ [sh N x] by rw [List.take_add_one, hx]; simp)
      clear hx hrg z0 z1 z2 z3 z4 z5 z6
      go_wp2_with fail
      refine (kids_any x (.slice As x.set.length ks) ⟨_, _, _, rfl⟩ _).mono ?_
      rintro e w2 ⟨v2, rfl, hk2, hb2⟩
      obtain ⟨A2, k2, rfl, _⟩ := row_see hk2
      have hW := (Below.refl wr.heap.size wr).alloc (Nat.le_refl _) (.cells #[.int .i64 x.kind, .int .i64 x.a, .int .i64 x.b, .slice As x.set.length ks, .int .i64 x.mn, .int .i64 x.mx, .int .i64 x.n] 35)
      have hsz : wr.heap.size + 1 ≤ w2.heap.size := by have := hb2.size; simpa using this
      have HG7 := Lib.hid (keepL (heap_new wr (.cells #[.int .i64 x.kind, .int .i64 x.a, .int .i64 x.b, .slice As x.set.length ks, .int .i64 x.mn, .int .i64 x.mx, .int .i64 x.n] 35)) hb2)
      have HW2 := Lib.hid (hW.trans (hb2.mono (by simp)))
      obtain ⟨⟨d0', d1', d2', d3', d4', d5', d6'⟩, hfz⟩ := blk7 HG7.out
      have f1 := hfz 1
      have f2 := hfz 2
      clear hk2 hb2 hW hfz c0 c1 c2 c3 c4 c5 c6 b0
      by_cases h2 : x.kind = 5 ∨ x.kind = 6
      · have hkk := kids_two h2
        rw [hkk] at HKX ⊢
        have ka := HKX.out x.a (by simp)
        have kb := HKX.out x.b (by simp)
        simp only [List.length_cons, List.length_nil]
        have HSH := Lib.hid (sh_two (n := N) h2)
        clear hkk h2
        go_wp2_with (at_builtin; refine wpList_wanted ?_ ?_)
        intro K hK
        have hbw := ((HW2.out.setCell (p := ⟨wr.heap.size, 1, none⟩) (Nat.le_refl _) (.int .i64 (x.a + (N : Int)))).setCell (p := ⟨wr.heap.size, 2, none⟩) (Nat.le_refl _) (.int .i64 (x.b + (N : Int))))
        have hbw3 := hbw.alloc hbw.size (.cells #[.int .i64 x.kind, .int .i64 (x.a + (N : Int)), .int .i64 (x.b + (N : Int)), .slice As x.set.length ks, .int .i64 x.mn, .int .i64 x.mx, .int .i64 x.n] 35)
        have hws3 := hbw3.size
        have hnk := HK1.out.below (by omega) hbw3
        have hsc : Sc ((((w2.setCell ⟨wr.heap.size, 1, none⟩ (.int .i64 (x.a + (N : Int)))).setCell ⟨wr.heap.size, 2, none⟩ (.int .i64 (x.b + (N : Int))))).alloc (.cells #[.int .i64 x.kind, .int .i64 (x.a + (N : Int)), .int .i64 (x.b + (N : Int)), .slice As x.set.length ks, .int .i64 x.mn, .int .i64 x.mx, .int .i64 x.n] 35)) w0.heap.size (some ⟨w2.heap.size, 0, none⟩) 1 [sh N x] := by
          rw [HSH.out]
          exact Sc.one (x := { x with a := x.a + (N : Int), b := x.b + (N : Int) }) (by have := heap_new ((w2.setCell ⟨wr.heap.size, 1, none⟩ (.int .i64 (x.a + (N : Int)))).setCell ⟨wr.heap.size, 2, none⟩ (.int .i64 (x.b + (N : Int)))) (.cells #[.int .i64 x.kind, .int .i64 (x.a + (N : Int)), .int .i64 (x.b + (N : Int)), .slice As x.set.length ks, .int .i64 x.mn, .int .i64 x.mx, .int .i64 x.n] 35); simpa using this) (HRG.out.below (HB0.out.trans (hbw3.mono (by omega))))
        refine wp_append_nk _ _ rfl w0.heap.size u5 _ [sh N x] 1 rfl hnk (some ⟨w2.heap.size, 0, none⟩) 1 rfl rfl hsc (by rw [List.length_map, List.length_take]; omega) (w.heap.size + 1) (by omega) (by omega) HV.out ?_
        intro v4 w4 h4 hv4 hg4
        have hbw4 := HW.out.trans ((hbw3.mono hws).trans (below_grown hg4 (by omega) HV.out))
        refine hK _ _ ?_
        clear hK K hnk hsc hbw hbw3 hg4
        go_wp2_with fail
        go_roundw
        case rel => exact ⟨i + 1, congrArg (Value.int .i64) (by omega), hin, Lib.hid (by rw [HTAKE.out]; exact h4), Lib.hid hv4, Lib.hid hbw4⟩
        case measure => simp [intOf]; omega
      · by_cases h1 : x.kind = 7 ∨ x.kind = 8 ∨ x.kind = 9
        · have hkk := kids_one h1
          rw [hkk] at HKX ⊢
          have ka := HKX.out x.a (by simp)
          simp only [List.length_cons, List.length_nil]
          have HSH := Lib.hid (sh_one (n := N) h1)
          clear hkk h1 h2
          go_wp2_with (at_builtin; refine wpList_wanted ?_ ?_)
          intro K hK
          have hbw := (HW2.out.setCell (p := ⟨wr.heap.size, 1, none⟩) (Nat.le_refl _) (.int .i64 (x.a + (N : Int))))
          have hbw3 := hbw.alloc hbw.size (.cells #[.int .i64 x.kind, .int .i64 (x.a + (N : Int)), .int .i64 (x.b), .slice As x.set.length ks, .int .i64 x.mn, .int .i64 x.mx, .int .i64 x.n] 35)
          have hws3 := hbw3.size
          have hnk := HK1.out.below (by omega) hbw3
          have hsc : Sc (((w2.setCell ⟨wr.heap.size, 1, none⟩ (.int .i64 (x.a + (N : Int))))).alloc (.cells #[.int .i64 x.kind, .int .i64 (x.a + (N : Int)), .int .i64 (x.b), .slice As x.set.length ks, .int .i64 x.mn, .int .i64 x.mx, .int .i64 x.n] 35)) w0.heap.size (some ⟨w2.heap.size, 0, none⟩) 1 [sh N x] := by
            rw [HSH.out]
            exact Sc.one (x := { x with a := x.a + (N : Int) }) (by have := heap_new (w2.setCell ⟨wr.heap.size, 1, none⟩ (.int .i64 (x.a + (N : Int)))) (.cells #[.int .i64 x.kind, .int .i64 (x.a + (N : Int)), .int .i64 (x.b), .slice As x.set.length ks, .int .i64 x.mn, .int .i64 x.mx, .int .i64 x.n] 35); simpa using this) (HRG.out.below (HB0.out.trans (hbw3.mono (by omega))))
          refine wp_append_nk _ _ rfl w0.heap.size u5 _ [sh N x] 1 rfl hnk (some ⟨w2.heap.size, 0, none⟩) 1 rfl rfl hsc (by rw [List.length_map, List.length_take]; omega) (w.heap.size + 1) (by omega) (by omega) HV.out ?_
          intro v4 w4 h4 hv4 hg4
          have hbw4 := HW.out.trans ((hbw3.mono hws).trans (below_grown hg4 (by omega) HV.out))
          refine hK _ _ ?_
          clear hK K hnk hsc hbw hbw3 hg4
          go_wp2_with fail
          go_roundw
          case rel => exact ⟨i + 1, congrArg (Value.int .i64) (by omega), hin, Lib.hid (by rw [HTAKE.out]; exact h4), Lib.hid hv4, Lib.hid hbw4⟩
          case measure => simp [intOf]; omega
        · have hkk : kids x = [] := by unfold kids; rw [if_neg h2, if_neg h1]
          have HSH := Lib.hid (sh_none (n := N) hkk)
          rw [hkk]
          simp only [List.length_nil]
          clear hkk h1 h2
          go_wp2_with (at_builtin; refine wpList_wanted ?_ ?_)
          intro K hK
          have hbw := HW2.out
          have hbw3 := hbw.alloc hbw.size (.cells #[.int .i64 x.kind, .int .i64 (x.a), .int .i64 (x.b), .slice As x.set.length ks, .int .i64 x.mn, .int .i64 x.mx, .int .i64 x.n] 35)
          have hws3 := hbw3.size
          have hnk := HK1.out.below (by omega) hbw3
          have hsc : Sc ((w2).alloc (.cells #[.int .i64 x.kind, .int .i64 (x.a), .int .i64 (x.b), .slice As x.set.length ks, .int .i64 x.mn, .int .i64 x.mx, .int .i64 x.n] 35)) w0.heap.size (some ⟨w2.heap.size, 0, none⟩) 1 [sh N x] := by
            rw [HSH.out]
            exact Sc.one (x := x) (by have := heap_new w2 (.cells #[.int .i64 x.kind, .int .i64 (x.a), .int .i64 (x.b), .slice As x.set.length ks, .int .i64 x.mn, .int .i64 x.mx, .int .i64 x.n] 35); simpa using this) (HRG.out.below (HB0.out.trans (hbw3.mono (by omega))))
          refine wp_append_nk _ _ rfl w0.heap.size u5 _ [sh N x] 1 rfl hnk (some ⟨w2.heap.size, 0, none⟩) 1 rfl rfl hsc (by rw [List.length_map, List.length_take]; omega) (w.heap.size + 1) (by omega) (by omega) HV.out ?_
          intro v4 w4 h4 hv4 hg4
          have hbw4 := HW.out.trans ((hbw3.mono hws).trans (below_grown hg4 (by omega) HV.out))
          refine hK _ _ ?_
          clear hK K hnk hsc hbw hbw3 hg4
          go_wp2_with fail
          go_roundw
          case rel => exact ⟨i + 1, congrArg (Value.int .i64) (by omega), hin, Lib.hid (by rw [HTAKE.out]; exact h4), Lib.hid hv4, Lib.hid hbw4⟩
          case measure => simp [intOf]; omega
    · have d1 : decide (i < n) = false := decide_eq_false hin
      have hk1 := HK1.out
      rw [List.take_of_length_le (by rw [HLN.out]; omega)] at hk1
      obtain ⟨A', k', rfl⟩ := hk1.shape
      have HE := Lib.hid hk1
      clear hk1
      go_wp2_with fail
      go_ret
      exact ⟨A', k', rfl, HE.out, HA1.out.trans (HW.out.mono (by omega))⟩
end Go.Proofs.Ytceeimolfalmpaa
