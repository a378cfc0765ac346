/-
  Of two trees one (Two), of the statements' own. Conditions: at most 20000 nodes each, whose kids stand below 100000.
-/
import Derived.Test.YtceeimolfalmpaaTH
namespace Go.Proofs.Ytceeimolfalmpaa
open Go.RowKit ObSets ObTree

theorem obj29 {w : World} {r : Nat} {v : Value} (h : w.heap[r]? = some (.cells #[v] 24)) : w.cell? ⟨r, 0, none⟩ = some v ∧ w.frozen? ⟨r, 0, none⟩ = false := ⟨blk1 h, by simp [World.frozen?, h]⟩
set_option maxHeartbeats 4000000 in
set_option maxRecDepth 100000 in
theorem two_any (kd : Int) (A A' : Option Addr) (n c m d : Nat) (L M : List Nd) (w : World) (hN : Nr w A L) (hA : A = none → L = [] ∧ c = 0) (hn : L.length = n) (hM : Nr w A' M) (hA' : A' = none → M = [] ∧ d = 0) (hm : M.length = m) (h0 : 1 ≤ n) (hm0 : 1 ≤ m) (hnb : n ≤ 20000) (hmb : m ≤ 20000)
    (hk : ∀ (j : Nat) x, M[j]? = some x → ∀ k ∈ kids x, 0 ≤ k ∧ k < 100000) :
    Calls Try.prog 20 #[.int .i64 kd, tr A n c, tr A' m d] w (RetTr w (L ++ (M.map (sh n) ++ [⟨kd, (n : Int) - 1, (n : Int) + m - 1, [], 0, 0, 0⟩]))) := by
  have HN := Lib.hid hN; have HA := Lib.hid hA; have HLN := Lib.hid hn; have HM := Lib.hid hM; have HA' := Lib.hid hA'; have HLM := Lib.hid hm; have HK := Lib.hid hk
  clear hN hA hn hM hA' hm hk
  have ha0 := (((Below.refl w.heap.size w).alloc (Nat.le_refl _) (.cells #[.slice A n c] 24)).alloc (by simp) (.cells #[.slice A' m d] 24)).alloc (by simp; omega) (.cells #[.slice none 0 0] 24)
  have hz : (((w.alloc (.cells #[.slice A n c] 24)).alloc (.cells #[.slice A' m d] 24)).alloc (.cells #[.slice none 0 0] 24)).heap.size = w.heap.size + 3 := by simp
  have hGA := keepL (keepL (heap_new w (.cells #[.slice A n c] 24)) ((Below.refl _ _).alloc (Nat.le_refl _) (.cells #[.slice A' m d] 24))) ((Below.refl _ _).alloc (Nat.le_refl _) (.cells #[.slice none 0 0] 24))
  have hGB : (((w.alloc (.cells #[.slice A n c] 24)).alloc (.cells #[.slice A' m d] 24)).alloc (.cells #[.slice none 0 0] 24)).heap[w.heap.size + 1]? = some (.cells #[.slice A' m d] 24) := by
    have h := keepL (heap_new (w.alloc (.cells #[.slice A n c] 24)) (.cells #[.slice A' m d] 24)) ((Below.refl _ _).alloc (Nat.le_refl _) (.cells #[.slice none 0 0] 24))
    simpa using h
  have hGR : (((w.alloc (.cells #[.slice A n c] 24)).alloc (.cells #[.slice A' m d] 24)).alloc (.cells #[.slice none 0 0] 24)).heap[w.heap.size + 2]? = some (.cells #[.slice none 0 0] 24) := by
    have h := heap_new ((w.alloc (.cells #[.slice A n c] 24)).alloc (.cells #[.slice A' m d] 24)) (.cells #[.slice none 0 0] 24)
    simpa using h
  go_enter Try.func20, Try.ntmps20
  go_upto_region 1 with fail
  generalize (((w.alloc (.cells #[.slice A n c] 24)).alloc (.cells #[.slice A' m d] 24)).alloc (.cells #[.slice none 0 0] 24)) = W0 at *
  have HA0 := Lib.hid ha0
  have GA := Lib.hid hGA; have GB := Lib.hid hGB; have GR := Lib.hid hGR
  obtain ⟨a0, _⟩ := obj29 hGA
  obtain ⟨b0, _⟩ := obj29 hGB
  clear ha0 hGA hGB hGR
  go_wp2_with (at_builtin; refine wpList_wanted ?_ ?_)
  intro K hK
  have hE1 := (Below.refl (w.heap.size + 3) W0).alloc (show w.heap.size + 3 ≤ W0.heap.size by omega) (.cells #[] 35)
  refine wp_append_nk _ _ rfl w.heap.size _ [] L n rfl (Nk.empty hz.symm (by omega)) A c HLN.out rfl (Sc.of HN.out HA.out (HA0.out.trans (hE1.mono (by omega)))) (by simp; omega) (w.heap.size + 3) (by omega) (by simp; omega) (fun k hk => by injection hk with hk; simp at hk; omega) ?_
  intro v1 V1 hn1 hv1 hg1
  rw [List.nil_append] at hn1
  have hb1 := hE1.trans (below_grown hg1 (by simp; omega) (fun k hk => by injection hk with hk; simp at hk; omega))
  have hz1 : w.heap.size + 3 ≤ V1.heap.size := by have := hb1.size; omega
  obtain ⟨a1, _⟩ := obj29 ((hb1.block _ (show w.heap.size < w.heap.size + 3 by omega)).trans GA.out)
  obtain ⟨b1, _⟩ := obj29 ((hb1.block _ (show w.heap.size + 1 < w.heap.size + 3 by omega)).trans GB.out)
  have HN1 := Lib.hid hn1; have HV1 := Lib.hid hv1; have HB1 := Lib.hid hb1
  refine hK _ _ ?_
  clear hK K hn1 hv1 hg1 hb1 hE1 a0 b0
  go_wp2_with fail
  refine (shift_any w V1 A' m d n M HM.out HLM.out (HA0.out.trans (HB1.out.mono (by omega))) (by omega) (by omega) HK.out).mono ?_
  rintro e V2 ⟨A2, k2, rfl, hn2, hb2⟩
  rw [show (M.map (sh n)).length = m by rw [List.length_map]; exact HLM.out] at hn2 ⊢
  have HN2 := Lib.hid hn2
  have HB2 := Lib.hid hb2
  have hz2 : w.heap.size + 3 ≤ V2.heap.size := Nat.le_trans hz1 hb2.size
  have hb2' := HB1.out.trans (hb2.mono hz1)
  have HB2' := Lib.hid hb2'
  clear hn2 hb2 hb2' a1 b1
  go_wp2_with (at_builtin; refine wpList_wanted ?_ ?_)
  intro K hK
  refine wp_append_nk _ _ rfl w.heap.size v1 L (M.map (sh n)) m rfl (HN1.out.below (by omega) HB2.out) A2 k2 (by rw [List.length_map]; exact HLM.out) rfl (Sc.own HN2.out) (by rw [HLN.out]; omega) (w.heap.size + 3) (by omega) hz2 HV1.out ?_
  intro v3 V3 hn3 hv3 hg3
  have hb3 := HB2'.out.trans (below_grown hg3 hz2 HV1.out)
  have hz3 : w.heap.size + 3 ≤ V3.heap.size := by have := hg3.size; omega
  obtain ⟨a3, _⟩ := obj29 ((hb3.block _ (show w.heap.size < w.heap.size + 3 by omega)).trans GA.out)
  obtain ⟨b3, _⟩ := obj29 ((hb3.block _ (show w.heap.size + 1 < w.heap.size + 3 by omega)).trans GB.out)
  have HN3 := Lib.hid hn3; have HV3 := Lib.hid hv3; have HB3 := Lib.hid hb3
  refine hK _ _ ?_
  clear hK K hn3 hv3 hg3 hb3
  go_wp2_with (at_builtin; refine wpList_wanted ?_ ?_)
  intro K hK
  have ha4 := (Below.refl V3.heap.size V3).alloc (Nat.le_refl _) (.cells #[.int .i64 kd, .int .i64 ((n : Int) - 1), .int .i64 ((n : Int) + m - 1), .slice none 0 0, .int .i64 0, .int .i64 0, .int .i64 0] 35)
  have hb4' := HB3.out.trans (ha4.mono hz3)
  refine wp_append_nk _ _ rfl w.heap.size v3 (L ++ M.map (sh n)) [(⟨kd, (n : Int) - 1, (n : Int) + m - 1, [], 0, 0, 0⟩ : Nd)] 1 rfl (HN3.out.below (by omega) ha4) (some ⟨V3.heap.size, 0, none⟩) 1 rfl rfl (Sc.one (x := ⟨kd, (n : Int) - 1, (n : Int) + m - 1, [], 0, 0, 0⟩) (As := none) (ks := 0) (heap_new V3 (.cells #[.int .i64 kd, .int .i64 ((n : Int) - 1), .int .i64 ((n : Int) + m - 1), .slice none 0 0, .int .i64 0, .int .i64 0, .int .i64 0] 35)) S.Rgs.nil) (by rw [List.length_append, List.length_map, HLN.out, HLM.out]; omega) (w.heap.size + 3) (by omega) (by simp; omega) HV3.out ?_
  intro v4 V4 hn4 hv4 hg4
  have hz5 : (V3.alloc (.cells #[.int .i64 kd, .int .i64 ((n : Int) - 1), .int .i64 ((n : Int) + m - 1), .slice none 0 0, .int .i64 0, .int .i64 0, .int .i64 0] 35)).heap.size = V3.heap.size + 1 := by simp
  have hb4 := hb4'.trans (below_grown hg4 (by omega) HV3.out)
  obtain ⟨A4, k4, rfl⟩ := hn4.shape
  obtain ⟨r0, r1⟩ := obj29 ((hb4.block _ (show w.heap.size + 1 + 1 < w.heap.size + 3 by omega)).trans GR.out)
  have HN4 := Lib.hid (hn4.setO (r := w.heap.size + 1 + 1) (k := 0) (by omega) (fun g hg => by have := hv4 g hg; omega) (.slice A4 ((L ++ M.map (sh n)) ++ [(⟨kd, (n : Int) - 1, (n : Int) + m - 1, [], 0, 0, 0⟩ : Nd)]).length k4))
  have HB4 := Lib.hid ((hb4.mono (show w.heap.size + 1 + 1 ≤ w.heap.size + 3 by omega)).setCell (p := ⟨w.heap.size + 1 + 1, 0, none⟩) (Nat.le_refl _) (.slice A4 ((L ++ M.map (sh n)) ++ [(⟨kd, (n : Int) - 1, (n : Int) + m - 1, [], 0, 0, 0⟩ : Nd)]).length k4))
  have hz4 : w.heap.size + 3 ≤ V4.heap.size := by have := hg4.size; omega
  refine hK _ _ ?_
  clear hK K hn4 hv4 hg4 hb4 hb4' ha4 hz5
  generalize hq : ((L ++ M.map (sh n)) ++ [(⟨kd, (n : Int) - 1, (n : Int) + m - 1, [], 0, 0, 0⟩ : Nd)]).length = q at *
  go_wp2_with fail
  refine bodyPost_ret (v := tr A4 q k4) ?_ rfl ⟨A4, k4, by rw [← hq, List.append_assoc], ?_, ?_, HA0.out.trans (HB4.out.mono (by omega))⟩
  · rw [S.results_cell1 rfl]
    go_simp
  · rw [← List.append_assoc]; exact HN4.out.reads (by simp; omega)
  · rw [← List.append_assoc]; exact (Sc.own HN4.out).1
end Go.Proofs.Ytceeimolfalmpaa
