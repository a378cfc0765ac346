/-
  What Norm of the program answers: a new row that holds the normal list. Condition: at most 1000000 ranges.
-/
import Derived.Test.YtfjcljhodnkieaaW2
import Derived.Test.YtfjcljhodnkieaaW6
import Derived.Test.YtfjcljhodnkieaaW7
import Derived.RegionTactic
import Derived.Deep.RegionHeld3
namespace Go.Proofs.Ytfjcljhodnkieaa
open Go.RowKit ObSets

/-- Four cells, behind a draw and a call that leaves what was. -/
theorem four {W W' : World} {p1 p2 p3 p4 : Addr} {v1 v2 v3 v4 : Value} (hb : Below W.drew.heap.size W.drew W') (s1 : W.cell? p1 = some v1) (s2 : W.cell? p2 = some v2) (s3 : W.cell? p3 = some v3) (s4 : W.cell? p4 = some v4) :
    W'.cell? p1 = some v1 ∧ W'.cell? p2 = some v2 ∧ W'.cell? p3 = some v3 ∧ W'.cell? p4 = some v4 :=
  ⟨(hb.cell (p := p1) (World.block_lt_of_cell? W p1 s1)).trans s1, (hb.cell (p := p2) (World.block_lt_of_cell? W p2 s2)).trans s2, (hb.cell (p := p3) (World.block_lt_of_cell? W p3 s3)).trans s3, (hb.cell (p := p4) (World.block_lt_of_cell? W p4 s4)).trans s4⟩
theorem clip_ok {r : R} {a b : Int} (h : ok r = true) (hc : cut r = (a, b)) (w : World) : Calls Try.prog 35 #[.agg #[.int .i64 r.1, .int .i64 r.2]] w fun e w' => e = .returned (.tuple #[.agg #[.int .i64 a, .int .i64 b], .bool true]) ∧ Below w.heap.size w w' := by
  have := clip_any r w
  rw [h, hc] at this
  exact this
theorem clip_no {r : R} (h : ok r = false) (w : World) : Calls Try.prog 35 #[.agg #[.int .i64 r.1, .int .i64 r.2]] w fun e w' => e = .returned (.tuple #[.agg #[.int .i64 0, .int .i64 0], .bool false]) ∧ Below w.heap.size w w' := by
  have := clip_any r w
  rw [h] at this
  exact this
theorem cuts_take_ok {l : List R} {k : Nat} {r q : R} (h1 : l[k]? = some r) (h : ok r = true) (hc : cut r = q) : cuts (l.take (k + 1)) = cuts (l.take k) ++ [q] := by
  rw [List.take_add_one, h1, cuts_append]
  show _ ++ cuts [r] = _
  rw [cuts_one_ok h, hc]
theorem cuts_take_no {l : List R} {k : Nat} {r : R} (h1 : l[k]? = some r) (h : ok r = false) : cuts (l.take (k + 1)) = cuts (l.take k) := by
  rw [List.take_add_one, h1, cuts_append]
  show _ ++ cuts [r] = _
  rw [cuts_one_no h, List.append_nil]
theorem cuts_take_len (l : List R) (k : Nat) : (cuts (l.take k)).length ≤ k := by
  have h1 := cuts_len (l.take k)
  rw [List.length_take] at h1
  omega
theorem mg_take {l : List R} {k : Nat} {r : R} (h1 : l[k]? = some r) : mg (l.take (k + 1)) = ObSets.step (mg (l.take k)) r := by
  rw [List.take_add_one, h1]
  exact mg_snoc _ _
theorem mg_take_len (l : List R) (k : Nat) : (mg (l.take k)).length ≤ k := by
  have h1 := mg_len (l.take k)
  rw [List.length_take] at h1
  omega

theorem two_cellsD (w : World) (o : Obj) (n : Nat) (a b : Value) (t : TypeId) : ∀ j u, [a, b][j]? = some u → (((w.alloc o).drewN n).alloc (.cells #[a, b] t)).cell? ((⟨w.heap.size + 1, 0, none⟩ : Addr).add j) = some u := by
  have := two_cells ((w.alloc o).drewN n) a b t
  rwa [show ((w.alloc o).drewN n).heap.size = w.heap.size + 1 by simp] at this
theorem Ow.reads {w : World} {B n cap : Nat} {A : Option Addr} {l : List R} (h : Ow w B (.slice A n cap) l) : Rgs w w.heap.size A l ∧ l.length = n := by
  obtain ⟨A', cap', hv, _, _, hr, _⟩ := h.shape
  injection hv with e1 e2 e3
  subst e1
  exact ⟨hr, e2.symm⟩
theorem cellsR_set (p : List R) (a b c : Int) : (cellsR (p ++ [(a, b)])).set (p.length * 2 + 1) (.int .i64 c) = cellsR (p ++ [(a, c)]) := by
  rw [cellsR_append, cellsR_append, List.set_append_right _ _ (by rw [cellsR_len]; omega), cellsR_len]
  rw [show p.length * 2 + 1 - p.length * 2 = 1 by omega]
  rfl
/-- The last range's Hi stored anew. -/
theorem Ow.hi {w : World} {B g n cap : Nat} {p : List R} {a b : Int} (h : Ow w B (.slice (some ⟨g, 0, none⟩) n cap) (p ++ [(a, b)])) (c : Int) (j : Nat) (hj : j = p.length * 2 + 1) :
    Ow (w.setCell ⟨g, j, none⟩ (.int .i64 c)) B (.slice (some ⟨g, 0, none⟩) n cap) (p ++ [(a, c)]) := by
  subst hj
  have e := h.reads.2
  unfold Ow at h ⊢
  rw [e] at h
  have := (World.ownsRow.stored h (p.length * 2 + 1) (.int .i64 c)).1
  rw [cellsR_set] at this
  rw [show (p ++ [(a, c)]).length = n by rw [← e]; simp]
  exact this
/-- The last range of an own row, and where it lies. -/
theorem Ow.last {w : World} {B : Nat} {v : Value} {p : List R} {a b : Int} (h : Ow w B v (p ++ [(a, b)])) :
    ∃ g cap, v = .slice (some ⟨g, 0, none⟩) (p.length + 1) cap ∧ B ≤ g ∧ g < w.heap.size ∧ w.cell? ⟨g, p.length * 2, none⟩ = some (.int .i64 a) ∧ w.cell? ⟨g, p.length * 2 + 1, none⟩ = some (.int .i64 b) ∧ w.frozen? ⟨g, p.length * 2, none⟩ = false ∧ w.frozen? ⟨g, p.length * 2 + 1, none⟩ = false := by
  obtain ⟨A, cap, hv, _, _, hr, hg⟩ := h.shape
  rcases hg with hg | ⟨g, rfl, hB, hlt⟩
  · simp at hg
  · rw [show (p ++ [(a, b)]).length = p.length + 1 by simp] at hv
    subst hv
    obtain ⟨g', off, e, _, hc⟩ := hr (by simp)
    injection e with e
    injection e with e1 e2
    subst e1; subst e2
    have h1 := hc p.length (a, b) (by simp)
    rw [Nat.zero_add] at h1
    have h2 : w.ownsRow B 32 2 (.slice (some ⟨g, 0, none⟩) (p.length + 1) cap) (p.length + 1) (cellsR (p ++ [(a, b)])) := by
      have := h; unfold Ow at this; rwa [show (p ++ [(a, b)]).length = p.length + 1 by simp] at this
    exact ⟨g, cap, rfl, hB, hlt, h1.1, h1.2, h2.frozenAt _, h2.frozenAt _⟩

set_option maxHeartbeats 2000000 in
set_option maxRecDepth 100000 in
theorem norm_any (A : Option Addr) (c : Nat) (l : List R) (w : World) (h : Rgs w w.heap.size A l) (hl : l.length ≤ 1000000) :
    Calls Try.prog 14 #[.slice A l.length c] w (RetR (nrm l) w) := by
  obtain ⟨i0, hi, hz0, hz1, hz2⟩ := info_parts info32
  generalize hn : l.length = n at *
  have HN := Lib.hid hn
  clear hn
  go_enter Try.func14, Try.ntmps14
  go_wp2
  go_loopw [3, 14] (fun v t wr => ∃ k : Nat, k ≤ n ∧ t = .int .i64 k ∧ Ow wr w.heap.size v (cuts (l.take k)) ∧ Below w.heap.size w wr) (fun _ t _ => n - (intOf t).toNat)
  case atStart => exact ⟨0, by omega, rfl, Ow.nil _ _, Below.refl _ _⟩
  case round =>
    obtain ⟨k, hk, rfl, hown, hb2⟩ := hrel
    have HO := Lib.hid hown
    clear hown
    by_cases hkn : k < n
    · obtain ⟨b, off, p, q, rfl, hbl, e1, f1, f2⟩ := (h.below hb2).at_ (k := k) (by rw [HN.out]; exact hkn)
      have E1 := Lib.hid e1
      clear e1
      have hk1 : (k : Int) < (n : Int) := by omega
      have hlen := Lib.hid (cuts_take_len l k)
      have hsz := Lib.hid hb2.size
      cases hok : ok (p, q) with
      | true =>
        obtain ⟨a', b', hc⟩ : ∃ a' b', cut (p, q) = (a', b') := ⟨_, _, rfl⟩
        have HT := Lib.hid (cuts_take_ok E1.out hok hc)
        have HC := Lib.hid (clip_ok hok hc)
        generalize hm : cuts (l.take k) = m at HO hlen HT
        clear hm hok hc
        go_wp2_with (first | (go_at_call 35; refine (HC.out _).mono ?_; rintro e w1 ⟨rfl, hb3⟩; have HB3 := Lib.hid (((Below.refl _ wr).alloc (Nat.le_refl _) _).trans (hb3.mono (by simp))); have HO1 := Lib.hid (HO.out.below HB3.out); clear hb3) | (at_builtin; refine wpList_append_own _ rfl _ _ 22 rfl w.heap.size 32 i0 (.agg #[.int .i64 0, .int .i64 0]) 2 16 Try.underlying22 hi hz0 hz1 hz2 rfl (by omega) _ _ _ rfl ((HO1.out.alloc _).alloc _) ⟨w1.heap.size + 1, 0, none⟩ 1 1 [.int .i64 a', .int .i64 b'] rfl rfl (two_cells1 _ _ _ _ _) (ones2 _ _) ?c3 ?c4 ?c5 ?_))
        case c3 => have := hlen.out; unfold maxLen; omega
        case c4 => have := hlen.out; omega
        case c5 => have := hsz.out; have := HB3.out.size; simp; omega
        intro v' w2 hown' hgrow _
        have R := push_rel hb2 (HB3.out.alloc HB3.out.size _) HO.out hown' hgrow
        clear hown' hgrow
        have R1 := Lib.hid R.1; have R2 := R.2
        clear R
        go_wp2
        go_roundw
        case rel => exact ⟨k + 1, by omega, by go_num, by rw [HT.out]; exact R1.out, R2⟩
        case measure => simp [intOf]; omega
      | false =>
        have HT := Lib.hid (cuts_take_no E1.out hok)
        have HC := Lib.hid (clip_no hok)
        generalize hm : cuts (l.take k) = m at HO hlen HT
        clear hm hok
        go_wp2_with (go_at_call 35; refine (HC.out _).mono ?_; rintro e w1 ⟨rfl, hb3⟩; have HB3 := Lib.hid (((Below.refl _ wr).alloc (Nat.le_refl _) _).trans (hb3.mono (by simp))); have HO1 := Lib.hid (HO.out.below HB3.out); clear hb3)
        go_roundw
        case rel => exact ⟨k + 1, by omega, by go_num, by rw [HT.out]; exact HO1.out.alloc _, (bel_trans hb2 HB3.out).alloc (by have := hsz.out; have := HB3.out.size; omega) _⟩
        case measure => simp [intOf]; omega
    · have hk1 : decide (k < n) = false := by simp; omega
      obtain rfl : k = n := by omega
      have HO2 := Lib.hid (show Ow wr w.heap.size _ (cuts l) by have := HO.out; rwa [← HN.out, List.take_length] at this)
      have hcl := Lib.hid (show (cuts l).length ≤ 1000000 by have := cuts_len l; rw [HN.out] at this; omega)
      clear HO
      obtain ⟨Av, cap, rfl, hcap1, hcap2, _, _⟩ := HO2.out.shape
      have HS := Lib.hid (sort_any w.heap.size _ (cuts l) wr HO2.out hb2.size hcl.out)
      have HR := Lib.hid (show ∀ cs : List R, cs.Perm (cuts l) → Srt cs → mg cs = nrm l from fun cs h1 h2 => mg_nrm h1 h2)
      generalize hcs : cuts l = cs at *
      clear hcs HO2
      generalize hm : cs.length = m at *
      have HM := Lib.hid hm
      clear hm
      go_wp2_with (go_at_call 36; refine HS.out.mono ?_; rintro e w1 ⟨rfl, l', hperm, hsrt, hlen', hown', hb4⟩)
      have hb5 := hb2.trans hb4
      have HRd := Lib.hid hown'.reads.1
      have HL' := Lib.hid hlen'
      have HE := Lib.hid (HR.out _ hperm hsrt)
      have hmm := hcl.out
      clear hperm hsrt hlen' hown' hb4 HS HR h HN hcl hcap1 hb2
      go_loopw [8, 33] (fun v t wr => ∃ k : Nat, k ≤ m ∧ t = .int .i64 k ∧ Ow wr w1.heap.size v (mg (l'.take k)) ∧ Below w1.heap.size w1 wr) (fun _ t _ => m - (intOf t).toNat)
      case atStart => exact ⟨0, by omega, rfl, Ow.nil _ _, Below.refl _ _⟩
      case round =>
        obtain ⟨k, hk, rfl, hown, hb2⟩ := hrel
        have HO := Lib.hid hown
        clear hown
        by_cases hkn : k < m
        · obtain ⟨b, off, p, q, rfl, hbl, e1, f1, f2⟩ := (HRd.out.below hb2).at_ (k := k) (by rw [HL'.out]; exact hkn)
          have HT := Lib.hid (mg_take e1)
          have hlen := Lib.hid (mg_take_len l' k)
          have hsz := Lib.hid hb2.size
          clear e1
          have hk1' : (k : Int) < (m : Int) := by omega
          generalize hmm : mg (l'.take k) = mm at HO hlen HT
          clear hmm
          rcases List.eq_nil_or_concat mm with rfl | ⟨pre, last, rfl⟩
          · rw [step_nil] at HT
            obtain ⟨A2, cap2, rfl, _, _, _, _⟩ := HO.out.shape
            have HO1 := Lib.hid (show Ow wr w1.heap.size (.slice A2 0 cap2) [] from HO.out)
            clear HO
            simp only [List.length_nil]
            go_wp2
            go_quiet (fail)
            have HBX := Lib.hid (below_drews ((Below.refl _ wr).alloc (Nat.le_refl _) (.cells #[.int .i64 p, .int .i64 q] 32)) nq)
            have HO2 := Lib.hid (own_below HO1.out HBX.out)
            go_wp2_with (at_builtin; refine wpList_append_own _ rfl _ _ 22 rfl w1.heap.size 32 i0 (.agg #[.int .i64 0, .int .i64 0]) 2 16 Try.underlying22 hi hz0 hz1 hz2 rfl (by omega) _ _ _ rfl (HO2.out.alloc _) ⟨wr.heap.size + 1, 0, none⟩ 1 1 [.int .i64 p, .int .i64 q] rfl rfl (two_cellsD _ _ _ _ _ _) (ones2 _ _) ?c3 ?c4 ?c5 ?_)
            case c3 => unfold maxLen; simp
            case c4 => simp
            case c5 => have := hsz.out; simp; omega
            intro v' w2 hown' hgrow _
            have R := push_rel hb2 HBX.out HO1.out hown' hgrow
            clear hown' hgrow
            have R1 := Lib.hid R.1; have R2 := R.2
            clear R
            go_wp2
            go_roundw
            case rel => exact ⟨k + 1, by omega, by go_num, by rw [HT.out]; exact R1.out, R2⟩
            case measure => simp [intOf]; omega
          · rw [List.concat_eq_append] at HO hlen HT
            obtain ⟨a, b'⟩ := last
            obtain ⟨g, cap2, rfl, hgB, hglt, g1, g2, g3, g4⟩ := HO.out.last
            have hlen2 := Lib.hid (show pre.length + 1 ≤ k by have := hlen.out; simpa using this)
            have hpk := hlen2.out
            have HAP := Lib.hid (apart_any (a, b') (p, q))
            have HJ := Lib.hid (show (pre ++ [(a, b')]).length = pre.length + 1 by simp)
            have hHI := Lib.hid (fun (W : World) (hW : Ow W w1.heap.size (.slice (some ⟨g, 0, none⟩) (pre.length + 1) cap2) (pre ++ [(a, b')])) (x : Int) => hW.hi x (pre.length * 2 + 1) rfl)
            have F3 := Lib.hid g3; have F4 := Lib.hid g4; have G1 := Lib.hid g1; have G2 := Lib.hid g2
            cases hap : ap (a, b') (p, q) with
            | true =>
              rw [step_apart hap] at HT
              rw [hap] at HAP
              clear hap hHI
              unfold rv at HAP
              simp only at HAP
              generalize hmm3 : pre ++ [(a, b')] = mm at HO HT HJ
              clear hmm3 hlen
              generalize pre.length = j at *
              have hd1 : decide (((j : Int) + 1 - 1) < 0) = false := by simp
              have s1 : (wr.alloc (.cells #[.int .i64 p, .int .i64 q] 32)).cell? ⟨g, j * 2, none⟩ = some (.int .i64 a) := (World.cell?_alloc_lt wr _ ⟨g, j * 2, none⟩ hglt).trans G1.out
              have s2 : (wr.alloc (.cells #[.int .i64 p, .int .i64 q] 32)).cell? ⟨g, j * 2 + 1, none⟩ = some (.int .i64 b') := (World.cell?_alloc_lt wr _ ⟨g, j * 2 + 1, none⟩ hglt).trans G2.out
              have s3 : (wr.alloc (.cells #[.int .i64 p, .int .i64 q] 32)).cell? ⟨wr.heap.size, 0, none⟩ = some (.int .i64 p) := by simp
              have s4 : (wr.alloc (.cells #[.int .i64 p, .int .i64 q] 32)).cell? ⟨wr.heap.size, 1, none⟩ = some (.int .i64 q) := by simp
              have jb1 : (j : Int) < (j : Int) + 1 := by omega
              have jb2 : (0 : Int) ≤ (j : Int) := by omega
              have jb3 : IntKind.i64.wrap (j : Int) = j := IntWalk.i64_in _ (by omega)
              go_wp2
              go_region_held3 (fun W => W.cell? ⟨g, j * 2, none⟩ = some (.int .i64 a) ∧ W.cell? ⟨g, j * 2 + 1, none⟩ = some (.int .i64 b') ∧ W.cell? ⟨wr.heap.size, 0, none⟩ = some (.int .i64 p) ∧ W.cell? ⟨wr.heap.size, 1, none⟩ = some (.int .i64 q)) (first | exact ⟨s1, s2, s3, s4⟩ | exact four hb3 s1 s2 s3 s4) (first | (go_at_call 33; refine (HAP.out _).mono ?_; rintro e w3 ⟨rfl, hb3⟩))
              all_goals (
                have c1 : w3.cell? ⟨wr.heap.size, 0, none⟩ = some (.int .i64 p) := (hb3.cell (p := ⟨wr.heap.size, 0, none⟩) (by simp)).trans (by simp)
                have c2 : w3.cell? ⟨wr.heap.size, 1, none⟩ = some (.int .i64 q) := (hb3.cell (p := ⟨wr.heap.size, 1, none⟩) (by simp)).trans (by simp)
                have HB3 := Lib.hid ((((Below.refl _ wr).alloc (Nat.le_refl _) (.cells #[.int .i64 p, .int .i64 q] 32)).drew).trans (hb3.mono (by simp)))
                have HO2 := Lib.hid (own_below HO.out HB3.out)
                clear hb3
                go_wp2_with (at_builtin; refine wpList_append_own _ rfl _ _ 22 rfl w1.heap.size 32 i0 (.agg #[.int .i64 0, .int .i64 0]) 2 16 Try.underlying22 hi hz0 hz1 hz2 rfl (by omega) _ _ _ rfl (HO2.out.alloc _) ⟨w3.heap.size, 0, none⟩ 1 1 [.int .i64 p, .int .i64 q] rfl rfl (two_cells _ _ _ _) (ones2 _ _) ?c3 ?c4 ?c5 ?_)
                case c3 => have := HJ.out; unfold maxLen; omega
                case c4 => have := HJ.out; omega
                case c5 => have := hsz.out; have := HB3.out.size; simp; omega
                intro v' w2 hown' hgrow _
                have R := push_rel hb2 HB3.out HO.out hown' hgrow
                clear hown' hgrow
                have R1 := Lib.hid R.1; have R2 := R.2
                clear R
                go_wp2
                go_roundw
                case rel => exact ⟨k + 1, by omega, by go_num, by rw [HT.out]; exact R1.out, R2⟩
                case measure => simp [intOf]; omega)
            | false =>
              rw [step_join hap] at HT
              rw [hap] at HAP
              clear hap
              unfold rv at HAP
              simp only at HAP
              clear hlen HJ
              generalize hj : pre.length = j at *
              clear hj
              have hd1 : decide (((j : Int) + 1 - 1) < 0) = false := by simp
              have s1 : (wr.alloc (.cells #[.int .i64 p, .int .i64 q] 32)).cell? ⟨g, j * 2, none⟩ = some (.int .i64 a) := (World.cell?_alloc_lt wr _ ⟨g, j * 2, none⟩ hglt).trans G1.out
              have s2 : (wr.alloc (.cells #[.int .i64 p, .int .i64 q] 32)).cell? ⟨g, j * 2 + 1, none⟩ = some (.int .i64 b') := (World.cell?_alloc_lt wr _ ⟨g, j * 2 + 1, none⟩ hglt).trans G2.out
              have s3 : (wr.alloc (.cells #[.int .i64 p, .int .i64 q] 32)).cell? ⟨wr.heap.size, 0, none⟩ = some (.int .i64 p) := by simp
              have s4 : (wr.alloc (.cells #[.int .i64 p, .int .i64 q] 32)).cell? ⟨wr.heap.size, 1, none⟩ = some (.int .i64 q) := by simp
              have jb1 : (j : Int) < (j : Int) + 1 := by omega
              have jb2 : (0 : Int) ≤ (j : Int) := by omega
              have jb3 : IntKind.i64.wrap (j : Int) = j := IntWalk.i64_in _ (by omega)
              go_wp2
              go_region_held3 (fun W => W.cell? ⟨g, j * 2, none⟩ = some (.int .i64 a) ∧ W.cell? ⟨g, j * 2 + 1, none⟩ = some (.int .i64 b') ∧ W.cell? ⟨wr.heap.size, 0, none⟩ = some (.int .i64 p) ∧ W.cell? ⟨wr.heap.size, 1, none⟩ = some (.int .i64 q)) (first | exact ⟨s1, s2, s3, s4⟩ | exact four hb3 s1 s2 s3 s4) (first | (go_at_call 33; refine (HAP.out _).mono ?_; rintro e w3 ⟨rfl, hb3⟩))
              all_goals (
                have c1 : w3.cell? ⟨wr.heap.size, 0, none⟩ = some (.int .i64 p) := (hb3.cell (p := ⟨wr.heap.size, 0, none⟩) (by simp)).trans (by simp)
                have c2 : w3.cell? ⟨wr.heap.size, 1, none⟩ = some (.int .i64 q) := (hb3.cell (p := ⟨wr.heap.size, 1, none⟩) (by simp)).trans (by simp)
                have HB3 := Lib.hid ((((Below.refl _ wr).alloc (Nat.le_refl _) (.cells #[.int .i64 p, .int .i64 q] 32)).drew).trans (hb3.mono (by simp)))
                have d1 : w3.cell? ⟨g, j * 2, none⟩ = some (.int .i64 a) := (HB3.out.cell (p := ⟨g, j * 2, none⟩) hglt).trans G1.out
                have d2 : w3.cell? ⟨g, j * 2 + 1, none⟩ = some (.int .i64 b') := (HB3.out.cell (p := ⟨g, j * 2 + 1, none⟩) hglt).trans G2.out
                have d3 : w3.frozen? ⟨g, j * 2 + 1, none⟩ = false := (World.frozen?_of_block (a := ⟨g, j * 2 + 1, none⟩) (HB3.out.block g hglt)).trans F4.out
                have HO2 := Lib.hid (hHI.out w3 (own_below HO.out HB3.out) (max b' q))
                clear hb3
                go_wp2
                go_region
                go_wp2
                go_roundw
                case rel => exact ⟨k + 1, by omega, by go_num, by rw [HT.out]; exact HO2.out, ((bel_trans hb2 HB3.out).setCell (p := ⟨g, j * 2 + 1, none⟩) hgB _).drew⟩
                case measure => simp [intOf]; omega)
        · have hk2 : decide (k < m) = false := by simp; omega
          obtain rfl : k = m := by omega
          have HO2 := Lib.hid (show Ow wr w1.heap.size _ (nrm l) by have := HO.out; rwa [← HL'.out, List.take_length, HE.out] at this)
          go_wp2
          go_ret
          exact ⟨_, rfl, HO2.out.less hb5.size, bel_trans hb5 hb2⟩
end Go.Proofs.Ytfjcljhodnkieaa
