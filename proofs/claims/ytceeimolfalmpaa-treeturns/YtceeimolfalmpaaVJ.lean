/-
  Whether the groups have their numbers in order (numbered), of the program. Conditions: at most 20000 nodes; where each node's tree begins is told by a row.
-/
import Derived.Test.YtceeimolfalmpaaVI
namespace Go.Proofs.Ytceeimolfalmpaa
open Go.RowKit ObSets ObTree

theorem perm_sorted {α : Type} {r : α → α → Prop} : ∀ (l m : List α), l.Perm m → l.Pairwise r → m.Pairwise r → (∀ a b : α, r a b → r b a → a = b) → l = m
  | [], m, h, _, _, _ => (List.nil_perm.1 h).symm
  | a :: l, [], h, _, _, _ => by have := h.length_eq; simp at this
  | a :: l, b :: m, h, h1, h2, ha => by
    have e : a = b := by
      have hm : a ∈ b :: m := h.subset (by simp)
      have hl : b ∈ a :: l := h.symm.subset (by simp)
      rcases List.mem_cons.1 hm with e | hm
      · exact e
      · rcases List.mem_cons.1 hl with e | hl
        · exact e.symm
        · exact ha a b ((List.pairwise_cons.1 h1).1 b hl) ((List.pairwise_cons.1 h2).1 a hm)
    subst e
    rw [perm_sorted l m (List.perm_cons a |>.1 h) (List.pairwise_cons.1 h1).2 (List.pairwise_cons.1 h2).2 ha]
/-- Have the nodes at these places the numbers 1, 2, ..? -/
def NumAt (L : List Nd) (s : List Int) (k : Nat) : Prop := ∀ (p : Nat) z x, p < k → s[p]? = some z → L[z.toNat]? = some x → x.n = (p : Int) + 1
theorem idx_in (kd : Int) (L : List Nd) : ∀ m, ∀ z ∈ idx kd L m, 0 ≤ z ∧ z < (m : Int)
  | 0, z, h => by simp [idx] at h
  | m + 1, z, h => by
    simp only [idx, List.mem_append] at h
    rcases h with h | h
    · have := idx_in kd L m z h; omega
    · split at h
      · split at h
        · simp at h; omega
        · simp at h
      · simp at h
set_option maxHeartbeats 4000000 in
set_option maxRecDepth 100000 in
theorem numbered_any (A : Option Addr) (n c c2 gF : Nat) (L : List Nd) (fs s : List Int) (w : World) (hN : Nr w A L) (hn : L.length = n) (hnb : n ≤ 20000) (hfl : fs.length = n) (hgF : gF < w.heap.size)
    (hc : ∀ (j : Nat) z, fs[j]? = some z → w.cell? ⟨gF, j, none⟩ = some (.int .i64 z)) (hp : s.Perm (idx 8 L n)) (hs : s.Pairwise fun a b => ¬ ahd fs b a) :
    Calls Try.prog 51 #[.slice A n c, .slice (some ⟨gF, 0, none⟩) n c2] w (RetB w (NumAt L s s.length)) := by
  obtain ⟨i0, hi0, hz0, hz1, hz2⟩ := info_parts info3
  have HN := Lib.hid hN; have HLN := Lib.hid hn; have HFL := Lib.hid hfl; have HP := Lib.hid hp; have HS := Lib.hid hs
  have ha0 := (Below.refl w.heap.size w).alloc (Nat.le_refl _) (.cells #[.slice (some ⟨gF, 0, none⟩) n c2] 29)
  have hz : (w.alloc (.cells #[.slice (some ⟨gF, 0, none⟩) n c2] 29)).heap.size = w.heap.size + 1 := by simp
  have hGA := heap_new w (.cells #[.slice (some ⟨gF, 0, none⟩) n c2] 29)
  have HC := Lib.hid (show ∀ (j : Nat) z, fs[j]? = some z → (w.alloc (.cells #[.slice (some ⟨gF, 0, none⟩) n c2] 29)).cell? ⟨gF, j, none⟩ = some (.int .i64 z) from fun j z h => (ha0.cell (p := ⟨gF, j, none⟩) hgF).trans (hc j z h))
  clear hN hn hc hp hs hfl
  go_enter Try.func51, Try.ntmps51
  go_upto_region 1 with fail
  generalize w.alloc (.cells #[.slice (some ⟨gF, 0, none⟩) n c2] 29) = W0 at *
  have HGA := Lib.hid hGA; have HA0 := Lib.hid ha0
  clear hGA ha0
  go_wp2_with fail
  go_loopw [5, 12] (fun tv ti wr => ∃ i : Nat, ti = .int .i64 (i : Int) ∧ i ≤ n ∧ Hid (wr.ownsRow W0.heap.size 3 1 tv (idx 8 L i).length (ints (idx 8 L i))) ∧ Hid (Below W0.heap.size W0 wr)) (fun _ ti _ => n - (intOf ti).toNat)
  case atStart => exact ⟨0, rfl, Nat.zero_le _, Lib.hid (World.ownsRow_nil _ _ _ _), Lib.hid (Below.refl _ _)⟩
  case round =>
    obtain ⟨i, rfl, hi, HR, HG⟩ := hrel
    have hgs := HG.out.size
    have HB2 := Lib.hid (HA0.out.trans (HG.out.mono HA0.out.size))
    have hil := idx_len 8 L i
    obtain ⟨kc, hkc⟩ : ∃ kc, (idx 8 L i).length = kc := ⟨_, rfl⟩
    have HKC := Lib.hid hkc
    rw [hkc] at hil HR
    clear hkc
    by_cases hin : i < n
    · have d1 : decide (i < n) = true := decide_eq_true hin
      have hin' : (i : Int) < (n : Int) := by omega
      obtain ⟨x, hx⟩ : ∃ x, L[i]? = some x := ⟨_, List.getElem?_eq_getElem (by rw [HLN.out]; exact hin)⟩
      obtain ⟨bb, off, rfl, hbl, hnd⟩ := nr_at HN.out hx
      obtain ⟨As, ks, ⟨c0, c1, c2, c3, c4, c5, c6⟩, _⟩ := hnd.below hbl HB2.out
      have HX := Lib.hid hx
      obtain ⟨sl, hsl⟩ : ∃ sl, x.set.length = sl := ⟨_, rfl⟩
      rw [hsl] at c3
      have HBX := Lib.hid (show Below W0.heap.size W0 (wr.alloc (.cells #[.int .i64 x.kind, .int .i64 x.a, .int .i64 x.b, .slice As sl ks, .int .i64 x.mn, .int .i64 x.mx, .int .i64 x.n] 35)) from HG.out.alloc hgs _)
      have HRX := Lib.hid (show (wr.alloc (.cells #[.int .i64 x.kind, .int .i64 x.a, .int .i64 x.b, .slice As sl ks, .int .i64 x.mn, .int .i64 x.mx, .int .i64 x.n] 35)).ownsRow W0.heap.size 3 1 u5 kc (ints (idx 8 L i)) from HR.out.alloc _)
      clear hnd hx hsl
      by_cases hk : x.kind = 8
      · have e1 : (x.kind == 8) = true := by simp [hk]
        have HSX := Lib.hid (idx_yes HX.out hk)
        have HWA := Lib.hid (HBX.out.alloc HBX.out.size (.cells #[.int .i64 (i : Int)] 3))
        have HRA := Lib.hid (HRX.out.alloc (.cells #[.int .i64 (i : Int)] 3))
        have HCL := Lib.hid (one_cell (wr.alloc (.cells #[.int .i64 x.kind, .int .i64 x.a, .int .i64 x.b, .slice As sl ks, .int .i64 x.mn, .int .i64 x.mx, .int .i64 x.n] 35)) (wr.heap.size + 1) (by simp) (i : Int))
        clear hk
        go_wp2_with (at_builtin; refine wpList_append_own _ rfl _ _ 29 rfl W0.heap.size 3 i0 (.int .i64 0) 1 8 Try.underlying29 hi0 hz0 hz1 hz2 rfl (by decide) _ _ _ rfl HRA.out ⟨_, 0, none⟩ 1 1 [.int .i64 (i : Int)] rfl rfl ?cl (by intro u hu; simp at hu; subst hu; rfl) ?c3 ?c4 ?c5 ?_)
        case cl => exact HCL.out
        case c3 => unfold maxLen; omega
        case c4 => omega
        case c5 => exact HWA.out.size
        intro v2 w2 hown2 hg2 _
        have HR2 := Lib.hid (show w2.ownsRow W0.heap.size 3 1 v2 (idx 8 L (i + 1)).length (ints (idx 8 L (i + 1))) by
          rw [hz, HSX.out, List.length_append, HKC.out, show ints (idx 8 L i ++ [(i : Int)]) = ints (idx 8 L i) ++ [.int .i64 (i : Int)] by simp [ints]]; exact hown2)
        have HG2 := Lib.hid (HWA.out.grown hg2 HWA.out.size (fun k hk => (HRA.out.lt k hk).1))
        clear hown2 hg2
        go_wp2_with fail
        go_roundw
        case rel => exact ⟨i + 1, congrArg (Value.int .i64) (by omega), hin, HR2, HG2⟩
        case measure => simp [intOf]; omega
      · have e1 : (x.kind == 8) = false := beq_eq_false_iff_ne.2 hk
        have HSX := Lib.hid (idx_no HX.out hk)
        have HR2 := Lib.hid (show (wr.alloc (.cells #[.int .i64 x.kind, .int .i64 x.a, .int .i64 x.b, .slice As sl ks, .int .i64 x.mn, .int .i64 x.mx, .int .i64 x.n] 35)).ownsRow W0.heap.size 3 1 u5 (idx 8 L (i + 1)).length (ints (idx 8 L (i + 1))) by rw [HSX.out, HKC.out]; exact HRX.out)
        clear hk
        go_wp2_with fail
        go_roundw
        case rel => exact ⟨i + 1, congrArg (Value.int .i64) (by omega), hin, HR2, HBX⟩
        case measure => simp [intOf]; omega
    · have d1 : decide (i < n) = false := decide_eq_false hin
      obtain rfl : i = n := by omega
      have hb1 := blk1 (keepL HGA.out HG.out)
      have HSO := Lib.hid (sort_any fs i c2 w.heap.size gF W0.heap.size HFL.out u5 (idx 8 L i) wr hb1 (by omega) (by omega) (fun j z h => (HG.out.cell (p := ⟨gF, j, none⟩) (by show gF < W0.heap.size; omega)).trans (HC.out j z h)) (by rw [HKC.out]; exact HR.out) hgs (by rw [HKC.out]; omega) (idx_in 8 L i))
      clear hb1
      go_wp2_with fail
      refine HSO.out.mono ?_
      rintro e w2 ⟨rfl, zs, hpz, hsz, hrz, hb2⟩
      have hzs : zs = s := perm_sorted zs s (hpz.trans HP.out.symm) hsz HS.out (fun a b h1 h2 => by unfold ahd at h1 h2; omega)
      subst hzs
      have HB3 := Lib.hid (HB2.out.trans (hb2.mono (by omega)))
      have HIN := Lib.hid (show ∀ z ∈ zs, 0 ≤ z ∧ z < (i : Int) from fun z hz => idx_in 8 L i z (hpz.subset hz))
      obtain ⟨A5, k5, rfl, hsee⟩ := row_see hrz
      obtain ⟨m, hm⟩ : ∃ m, zs.length = m := ⟨_, rfl⟩
      have HM := Lib.hid hm
      have hmb : m ≤ 20000 := by rw [← hm, hpz.length_eq]; have := idx_len 8 L i; omega
      rw [hm]
      have HSEE := Lib.hid hsee
      clear hpz hsz hrz hb2 hsee hm HSO
      go_wp2_with fail
      go_loopw [30] (fun tj wq => ∃ j : Nat, tj = .int .i64 (j : Int) ∧ j ≤ m ∧ Hid (NumAt L zs j) ∧ wq = w2) (fun tj _ => m - (intOf tj).toNat)
      case atStart => exact ⟨0, rfl, Nat.zero_le _, Lib.hid (fun p z x h => absurd h (Nat.not_lt_zero _)), rfl⟩
      case round =>
        obtain ⟨j, rfl, hj, HK, rfl⟩ := hrel
        by_cases hjm : j < m
        · have d2 : decide (j < m) = true := decide_eq_true hjm
          have hjm' : (j : Int) < (m : Int) := by omega
          obtain ⟨z, hz'⟩ : ∃ z, zs[j]? = some z := ⟨_, List.getElem?_eq_getElem (by rw [HM.out]; exact hjm)⟩
          have hzr := HIN.out z (List.mem_of_getElem? hz')
          obtain ⟨zn, rfl⟩ := Int.eq_ofNat_of_zero_le hzr.1
          have hzn : zn < i := by omega
          have hznn : (zn : Int) < (i : Int) := by omega
          obtain ⟨g5, rfl, _, q2, q3⟩ := HSEE.out j _ hz'
          obtain ⟨x, hx⟩ : ∃ x, L[zn]? = some x := ⟨_, List.getElem?_eq_getElem (by rw [HLN.out]; exact hzn)⟩
          obtain ⟨bb, off, rfl, hbl, hnd⟩ := nr_at HN.out hx
          obtain ⟨As, ks, ⟨c0, c1, c2, c3, c4, c5, c6⟩, _⟩ := hnd.below hbl HB3.out
          by_cases he : x.n = (j : Int) + 1
          · have e9 : (x.n != (j : Int) + 1) = false := by rw [bne_eq_false_iff_eq]; exact he
            have HK2 := Lib.hid (show NumAt L zs (j + 1) from fun p z y hp hz hy => by
              by_cases hpj : p < j
              · exact HK.out p z y hpj hz hy
              · obtain rfl : p = j := by omega
                rw [hz'] at hz; injection hz with hz; subst hz
                rw [Int.toNat_natCast, hx] at hy; injection hy with hy; subst hy; exact he)
            clear hz' hx hnd he
            go_wp2_with fail
            go_roundw
            case rel => exact ⟨j + 1, congrArg (Value.int .i64) (by omega), hjm, HK2, trivial⟩
            case measure => simp [intOf]; omega
          · have e9 : (x.n != (j : Int) + 1) = true := by rw [bne_iff_ne]; exact he
            have HNO := Lib.hid (show ¬ NumAt L zs m from fun h => he (h j (zn : Int) x hjm hz' (by rw [Int.toNat_natCast]; exact hx)))
            clear hz' hx hnd he
            go_wp2_with fail
            go_ret
            exact ⟨false, rfl, iff_of_false Bool.noConfusion (by rw [HM.out]; exact HNO.out), HB3.out⟩
        · have d2 : decide (j < m) = false := decide_eq_false hjm
          obtain rfl : j = m := by omega
          go_wp2_with fail
          go_ret
          exact ⟨true, rfl, iff_of_true rfl (by rw [HM.out]; exact HK.out), HB3.out⟩
end Go.Proofs.Ytceeimolfalmpaa
