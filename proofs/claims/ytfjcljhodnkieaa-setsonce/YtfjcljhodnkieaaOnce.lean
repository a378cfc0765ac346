/-
  The law SetsOnce, walked: for every two slices of ranges and every number the call answers true, and what was lies as it did. Conditions: the slices' capacities are lengths that a program may have; the first one's ends are ints of 64 bits.
-/
import Derived.Test.YtfjcljhodnkieaaW21
import Derived.Test.YtfjcljhodnkieaaView
import Derived.Test.YtfjcljhodnkieaaTells
namespace Go.Proofs.Ytfjcljhodnkieaa
open Go.RowKit ObSets

/-- A range, and it without its last number, if it has more than one. -/
def spl (r : R) : List R := if r.1 < r.2 then [r, (r.1, r.2 - 1)] else [r]
/-- The ranges from a place on, the last one first, each in two parts. -/
def bs (l : List R) (k : Nat) : List R := (l.drop k).reverse.flatMap spl
theorem bs_end (l : List R) : bs l l.length = [] := by simp [bs]
theorem bs_step {l : List R} {k : Nat} {r : R} (h : l[k]? = some r) : bs l k = bs l (k + 1) ++ spl r := by
  have hk : k < l.length := by
    rcases Nat.lt_or_ge k l.length with h1 | h1
    · exact h1
    · rw [List.getElem?_eq_none h1] at h; cases h
  have e : l[k] = r := by rw [List.getElem?_eq_getElem hk] at h; injection h
  unfold bs
  rw [List.drop_eq_getElem_cons hk, e]
  simp [List.flatMap_append]
theorem spl_len (r : R) : (spl r).length ≤ 2 := by unfold spl; split <;> simp
theorem flat_len : ∀ l : List R, (l.flatMap spl).length ≤ 2 * l.length
  | [] => by simp
  | r :: l => by
    have := flat_len l; have := spl_len r
    simp only [List.flatMap_cons, List.length_append, List.length_cons]; omega
theorem bs_len (l : List R) (k : Nat) : (bs l k).length ≤ 2 * l.length := by
  have := flat_len (l.drop k).reverse
  simp only [List.length_reverse, List.length_drop] at this
  unfold bs; omega
theorem bs_has (l : List R) (x : Int) : has (bs l 0) x = has l x := by
  rw [Bool.eq_iff_iff, has_iff, has_iff]
  constructor
  · rintro ⟨hs, r, hr, h1, h2⟩
    obtain ⟨q, hq, hr⟩ := List.mem_flatMap.1 hr
    have hq : q ∈ l := by simpa using hq
    refine ⟨hs, q, hq, ?_⟩
    unfold spl at hr
    split at hr
    · simp at hr
      rcases hr with rfl | rfl
      · exact ⟨h1, h2⟩
      · simp only at h1 h2; omega
    · simp at hr; subst hr; exact ⟨h1, h2⟩
  · rintro ⟨hs, r, hr, h⟩
    refine ⟨hs, r, List.mem_flatMap.2 ⟨r, by simpa using hr, ?_⟩, h⟩
    unfold spl; split <;> simp
theorem nil_of_none {l : List R} (h : Nrm l) (hx : ∀ x, has l x = false) : l = [] :=
  once h Nrm.nil fun x => by rw [hx, has_nil]
theorem same_iff (a b : List R) : (andL a (notL b) = [] ∧ andL b (notL a) = []) ↔ nrm a = nrm b := by
  rw [nrm_iff]
  constructor
  · rintro ⟨h1, h2⟩ x
    have e1 := (andL_ok a (notL b)).2 x
    have e2 := (andL_ok b (notL a)).2 x
    rw [h1, has_nil, (notL_ok b).2] at e1
    rw [h2, has_nil, (notL_ok a).2] at e2
    cases ha : has a x <;> cases hb : has b x
    · rfl
    · rw [has_sym hb, ha, hb] at e2; cases e2
    · rw [has_sym ha, ha, hb] at e1; cases e1
    · rfl
  · intro h
    constructor
    · refine nil_of_none (andL_ok _ _).1 fun x => ?_
      rw [(andL_ok _ _).2, (notL_ok _).2, h x]
      cases has b x <;> simp
    · refine nil_of_none (andL_ok _ _).1 fun x => ?_
      rw [(andL_ok _ _).2, (notL_ok _).2, h x]
      cases has b x <;> simp

theorem keep_g {w W W' : World} {row : Option Nat} {b o1 o2 : Nat} {v1 v2 : Value} (hg : W.grownBy W' row) (h : W.cell? ⟨b, o1, none⟩ = some v1 ∧ W.cell? ⟨b, o2, none⟩ = some v2 ∧ Below w.heap.size w W) (hrow : ∀ k, row = some k → w.heap.size ≤ k) (hlt : b < w.heap.size) :
    W'.cell? ⟨b, o1, none⟩ = some v1 ∧ W'.cell? ⟨b, o2, none⟩ = some v2 ∧ Below w.heap.size w W' := by
  have hne : some b ≠ row := fun e => by have := hrow b e.symm; omega
  exact ⟨hg.cell (a := ⟨b, o1, none⟩) h.1 hne, hg.cell (a := ⟨b, o2, none⟩) h.2.1 hne, h.2.2.grown hg h.2.2.size hrow⟩
theorem below_drew {W W' : World} (h : Below W.drew.heap.size W.drew W') : Below W.heap.size W W' := ((Below.refl W.heap.size W).drew).trans h
theorem alloc_size {B : Nat} {W W' : World} {o : Obj} (h : B ≤ W.heap.size) (hb : Below W.drew.heap.size W.drew W') : B ≤ (W'.alloc o).heap.size := by
  have h1 : W.heap.size ≤ W'.heap.size := hb.size
  simp; omega
section
variable {P : Program} (w : World)
theorem step_append_own {ops : Array Oper} {o : Oper} {a : Act} {K : Act → World → Prop} {Q : Exit → Act → World → Prop} {E : Prop} (hgd : o.guard = none) (s x : Operand) (t : TypeId)
    (ho : o.op = .call { callee := .builtin .append, args := #[s, x], argTypes := #[t, t] })
    (base : Nat) (e : TypeId) (i : TypeInfo) (z : Value) (size bytes : Nat) (ht : P.underlying t = some (.slice e)) (hi : P.info? e = some i) (hz : i.zero = some z)
    (hsize : i.size = size) (hby : i.bytes = bytes) (hzs : z.cells.size = size) (hsz : 0 < size)
    (v : Value) (n : Nat) (xs : List Value) (hs : a.eval s = v) (hown : w.ownsRow base e size v n xs)
    (ad : Addr) (m c : Nat) (news : List Value) (hx : a.eval x = .slice (some ad) m c) (hl : news.length = m * size) (hnews : ∀ j u, news[j]? = some u → w.cell? (ad.add j) = some u) (h1 : ∀ u ∈ news, u.oneCell' = true)
    (h63 : n + m ≤ maxLen) (hbytes : (n + m) * bytes ≤ 140737488355328) (hbase : base ≤ w.heap.size)
    (h : ∀ v' w', w'.ownsRow base e size v' (n + m) (xs ++ news) → w.grownBy w' v.ownBlock → (v' = .slice none 0 0 ↔ v = .slice none 0 0 ∧ m = 0) → K (a.put o.dst v') w') :
    if Region.wanted o (yielded ops a.tmps) = true then Oper.wp P o a w K Q else E := by
  have hw : Region.wanted o (yielded ops a.tmps) = true := by simp [Region.wanted, hgd]
  rw [if_pos hw]
  exact wp_append_own w s x t ho base e i z size bytes ht hi hz hsize hby hzs hsz v n xs hs hown ad m c news hx hl hnews h1 h63 hbytes hbase h
end

set_option maxHeartbeats 4000000 in
set_option maxRecDepth 100000 in
theorem once_walk (A1 A2 : Option Addr) (n1 n2 c1 c2 : Nat) (l1 l2 : List R) (x : Int) (w : World) (hn1 : l1.length = n1) (hc1 : n1 ≤ c1) (hm1 : c1 ≤ maxLen) (h1 : Rgs w w.heap.size A1 (l1.take 8)) (hA1 : A1 = none → l1 = [])
    (hn2 : l2.length = n2) (hc2 : n2 ≤ c2) (hm2 : c2 ≤ maxLen) (h2 : Rgs w w.heap.size A2 (l2.take 8)) (hA2 : A2 = none → l2 = []) (hfit : Fits (l1.take 8)) :
    Calls Try.prog 6 #[.slice A1 n1 c1, .slice A2 n2 c2, .int .i64 x] w fun e w' => e = .returned (.bool true) ∧ Below w.heap.size w w' := by
  obtain ⟨i0, hi, hz0, hz1, hz2⟩ := info_parts info32
  obtain ⟨la, ea⟩ : ∃ la, l1.take 8 = la := ⟨_, rfl⟩
  obtain ⟨lb, eb⟩ : ∃ lb, l2.take 8 = lb := ⟨_, rfl⟩
  have hla : la.length ≤ 8 := by rw [← ea, List.length_take]; omega
  have hlb : lb.length ≤ 8 := by rw [← eb, List.length_take]; omega
  rw [ea] at hfit
  have q2 := notL_len la; have q3 := nrm_len la
  have HB0 := Lib.hid (Below.refl w.heap.size w)
  go_enter Try.func6, Try.ntmps6
  go_wp2_with fail
  refine (set_any A1 n1 c1 8 l1 w hn1 hc1 hm1 h1 hA1 (by omega)).mono ?_
  rintro e w1 ⟨v1, rfl, ho1, hb1⟩
  rw [ea] at ho1
  obtain ⟨B1, d1, rfl, r1⟩ := shape_of ho1
  clear ho1
  have HA1 := Lib.hid hb1
  have HB1 := Lib.hid (bel_trans HB0.out HA1.out)
  clear hb1
  have Q1 := Lib.hid r1
  clear r1
  go_wp2_with fail
  refine (set_any A2 n2 c2 8 l2 _ hn2 hc2 hm2 (h2.on HB1.out) hA2 (by omega)).mono ?_
  rintro e w2 ⟨v2, rfl, ho2, hb2⟩
  rw [eb] at ho2
  obtain ⟨B2, d2, rfl, r2⟩ := shape_of ho2
  clear ho2
  have HA2 := Lib.hid hb2
  have HB2 := Lib.hid (bel_trans HB1.out HA2.out)
  clear hb2
  have Q1_2 := Lib.hid (Q1.out.on HA2.out)
  clear Q1
  have Q2 := Lib.hid r2
  clear r2
  clear hn1 hc1 hm1 h1 hA1 hn2 hc2 hm2 h2 hA2 ea eb
  by_cases ht : Int.tmod x 3 = 0
  · have t1 : (Int.tmod x 3 == 0) = true := by simpa using ht
    have t2 : (Int.tmod x 3 != 0) = false := by simpa using ht
    have w0 : IntKind.i64.wrap (Int.tmod x 3) = Int.tmod x 3 := by rw [ht]; rfl
    clear ht Q2
    go_wp2_with fail
    go_loopw [1, 7] (fun v t wr => ∃ k : Nat, k ≤ la.length ∧ t = .int .i64 ((k : Int) - 1) ∧ Hid (Ow wr w2.heap.size v (bs la k)) ∧ Below w2.heap.size w2 wr) (fun _ t _ => (intOf t + 1).toNat)
    case atStart => exact ⟨la.length, Nat.le_refl _, rfl, (by show Ow _ _ _ (bs la la.length); rw [bs_end]; exact Ow.nil _ _), Below.refl _ _⟩
    case round =>
      obtain ⟨k, hk, rfl, HO, hb9⟩ := hrel
      have hbl9 := Lib.hid (bs_len la k)
      cases k with
      | zero =>
        rw [show ((0 : Nat) : Int) - 1 = -1 from rfl]
        obtain ⟨Bb, db, rfl, rb⟩ := shape_of HO.out
        have Tb := Lib.hid rb
        have Ta := Lib.hid (Q1_2.out.on hb9)
        have HBt := Lib.hid (bel_trans HB2.out hb9)
        have hbn := hbl9.out
        have q4 := notL_len (bs la 0); have q5 := nrm_len (bs la 0)
        have EQ := Lib.hid (show decide (nrm la = nrm (bs la 0)) = true from decide_eq_true (nrm_congr fun y => (bs_has la y).symm))
        have L1 := Lib.hid (show (andL la (notL (bs la 0))).length = 0 by rw [((same_iff la (bs la 0)).2 (nrm_congr fun y => (bs_has la y).symm)).1]; rfl)
        have L2 := Lib.hid (show (andL (bs la 0) (notL la)).length = 0 by rw [((same_iff la (bs la 0)).2 (nrm_congr fun y => (bs_has la y).symm)).2]; rfl)
        clear rb HO hbl9
        generalize bs la 0 = lx at *
        go_wp2_with fail
        refine (not_any Bb db lx _ Tb.out (by omega)).mono ?_
        rintro e w41 ⟨v41, rfl, ho41, hb41⟩
        obtain ⟨B41, d41, rfl, r41⟩ := shape_of ho41
        clear ho41
        have HA41 := Lib.hid hb41
        have HB41 := Lib.hid (bel_trans HBt.out HA41.out)
        clear hb41
        have Ta_41 := Lib.hid (Ta.out.on HA41.out)
        clear Ta
        have Tb_41 := Lib.hid (Tb.out.on HA41.out)
        clear Tb
        have Q41 := Lib.hid r41
        clear r41
        go_wp2_with fail
        refine (and_any _ _ _ _ la (notL lx) _ Ta_41.out Q41.out (by omega) (by omega)).mono ?_
        rintro e w42 ⟨v42, rfl, ho42, hb42⟩
        obtain ⟨B42, d42, rfl, r42⟩ := shape_of ho42
        clear ho42
        have HA42 := Lib.hid hb42
        have HB42 := Lib.hid (bel_trans HB41.out HA42.out)
        clear hb42
        have Ta_42 := Lib.hid (Ta_41.out.on HA42.out)
        clear Ta_41
        have Tb_42 := Lib.hid (Tb_41.out.on HA42.out)
        clear Tb_41
        have Q41_42 := Lib.hid (Q41.out.on HA42.out)
        clear Q41
        have Q42 := Lib.hid r42
        clear r42
        clear Q41_42
        rw [L1.out]
        clear Q42
        go_wp2_with fail
        refine (not_any B1 d1 la _ Ta_42.out (by omega)).mono ?_
        rintro e w43 ⟨v43, rfl, ho43, hb43⟩
        obtain ⟨B43, d43, rfl, r43⟩ := shape_of ho43
        clear ho43
        have HA43 := Lib.hid hb43
        have HB43 := Lib.hid (bel_trans HB42.out HA43.out)
        clear hb43
        have Ta_43 := Lib.hid (Ta_42.out.on HA43.out)
        clear Ta_42
        have Tb_43 := Lib.hid (Tb_42.out.on HA43.out)
        clear Tb_42
        have Q43 := Lib.hid r43
        clear r43
        go_wp2_with fail
        refine (and_any _ _ _ _ lx (notL la) _ Tb_43.out Q43.out (by omega) (by omega)).mono ?_
        rintro e w44 ⟨v44, rfl, ho44, hb44⟩
        obtain ⟨B44, d44, rfl, r44⟩ := shape_of ho44
        clear ho44
        have HA44 := Lib.hid hb44
        have HB44 := Lib.hid (bel_trans HB43.out HA44.out)
        clear hb44
        have Ta_44 := Lib.hid (Ta_43.out.on HA44.out)
        clear Ta_43
        have Tb_44 := Lib.hid (Tb_43.out.on HA44.out)
        clear Tb_43
        have Q43_44 := Lib.hid (Q43.out.on HA44.out)
        clear Q43
        have Q44 := Lib.hid r44
        clear r44
        clear Q43_44
        rw [L2.out]
        clear Q44
        go_wp2_with fail
        refine (norm_any B1 d1 la _ Ta_44.out (by omega)).mono ?_
        rintro e w45 ⟨v45, rfl, ho45, hb45⟩
        obtain ⟨B45, d45, rfl, r45⟩ := shape_of ho45
        clear ho45
        have HA45 := Lib.hid hb45
        have HB45 := Lib.hid (bel_trans HB44.out HA45.out)
        clear hb45
        have Ta_45 := Lib.hid (Ta_44.out.on HA45.out)
        clear Ta_44
        have Tb_45 := Lib.hid (Tb_44.out.on HA45.out)
        clear Tb_44
        have Q45 := Lib.hid r45
        clear r45
        go_wp2_with fail
        refine (norm_any Bb db lx _ Tb_45.out (by omega)).mono ?_
        rintro e w46 ⟨v46, rfl, ho46, hb46⟩
        obtain ⟨B46, d46, rfl, r46⟩ := shape_of ho46
        clear ho46
        have HA46 := Lib.hid hb46
        have HB46 := Lib.hid (bel_trans HB45.out HA46.out)
        clear hb46
        have Ta_46 := Lib.hid (Ta_45.out.on HA46.out)
        clear Ta_45
        have Tb_46 := Lib.hid (Tb_45.out.on HA46.out)
        clear Tb_45
        have Q45_46 := Lib.hid (Q45.out.on HA46.out)
        clear Q45
        have Q46 := Lib.hid r46
        clear r46
        go_wp2_with fail
        refine (eqset_any _ _ _ _ (nrm la) (nrm lx) _ Q45_46.out Q46.out (by omega) (by omega)).mono ?_
        rintro e w47 ⟨rfl, hb47⟩
        rw [EQ.out]
        have HA47 := Lib.hid hb47
        have HB47 := Lib.hid (bel_trans HB46.out HA47.out)
        clear hb47
        have Ta_47 := Lib.hid (Ta_46.out.on HA47.out)
        clear Ta_46
        have Tb_47 := Lib.hid (Tb_46.out.on HA47.out)
        clear Tb_46
        have Q45_47 := Lib.hid (Q45_46.out.on HA47.out)
        clear Q45_46
        have Q46_47 := Lib.hid (Q46.out.on HA47.out)
        clear Q46
        clear Q45_47
        clear Q46_47
        go_wp2_with fail
        refine (wakes_any _).mono ?_
        rintro e w48 ⟨rfl, hb48⟩
        have HA48 := Lib.hid hb48
        have HB48 := Lib.hid (bel_trans HB47.out HA48.out)
        clear hb48
        have Ta_48 := Lib.hid (Ta_47.out.on HA48.out)
        clear Ta_47
        have Tb_48 := Lib.hid (Tb_47.out.on HA48.out)
        clear Tb_47
        go_wp2_with fail
        go_ret
        exact ⟨rfl, HB48.out⟩
      | succ j =>
        rw [show (((j + 1 : Nat) : Nat) : Int) - 1 = (j : Int) by omega]
        obtain ⟨b, off, p, q, rfl, hbl, e1, f1, f2⟩ := (Q1_2.out.below hb9).at_ (k := j) (by omega)
        have hj1 : (j : Int) < (la.length : Int) := by omega
        have hj2 : j < la.length := by omega
        have hdj : decide (0 ≤ (j : Int)) = true := by simp
        have HT := Lib.hid (bs_step e1)
        have hf := hfit (p, q) (List.mem_of_getElem? e1)
        simp only at hf
        obtain ⟨⟨hf1, hf2⟩, hf3, hf4⟩ := hf
        have hsz := Lib.hid hb9.size
        generalize hm : bs la (j + 1) = m at HO hbl9 HT
        clear hm e1
        go_wp2_with (at_builtin; refine wpList_append_own _ rfl _ _ 22 rfl w2.heap.size 32 i0 (.agg #[.int .i64 0, .int .i64 0]) 2 16 Try.underlying22 hi hz0 hz1 hz2 rfl (by omega) _ _ _ rfl (HO.out.alloc _) ⟨wr.heap.size, 0, none⟩ 1 1 [.int .i64 p, .int .i64 q] rfl rfl (two_cells _ _ _ _) (ones2 _ _) ?c3 ?c4 ?c5 ?_)
        case c3 => have := hbl9.out; unfold maxLen; omega
        case c4 => have := hbl9.out; omega
        case c5 => have := hsz.out; simp; omega
        intro v' w6 hown' hgrow _
        have R := push_rel hb9 (Below.refl _ wr) HO.out hown' hgrow
        clear hown' hgrow
        have R1 := Lib.hid R.1; have R2 := R.2
        clear R
        have g1 : w6.cell? ⟨b, off + j * 2, none⟩ = some (.int .i64 p) := ((R2.cell (p := ⟨b, off + j * 2, none⟩) hbl).trans (hb9.cell (p := ⟨b, off + j * 2, none⟩) hbl).symm).trans f1
        have g2 : w6.cell? ⟨b, off + j * 2 + 1, none⟩ = some (.int .i64 q) := ((R2.cell (p := ⟨b, off + j * 2 + 1, none⟩) hbl).trans (hb9.cell (p := ⟨b, off + j * 2 + 1, none⟩) hbl).symm).trans f2
        generalize hm2 : m ++ [(p, q)] = m2 at R1
        have hml := Lib.hid (show m2.length ≤ 1000 by rw [← hm2]; have := hbl9.out; simp; omega)
        have HM2 := Lib.hid hm2
        clear hm2
        by_cases hpq : p < q
        · have hdp : decide (p < q) = true := by simp; omega
          have HT2 := Lib.hid (show bs la j = m2 ++ [(p, q - 1)] by rw [HT.out, ← HM2.out]; simp [spl, hpq])
          have wq : IntKind.i64.wrap (q - 1) = q - 1 := IntWalk.i64_in _ (by omega)
          go_wp2_with fail
          go_quiet (fail)
          go_wp2_with fail
          obtain ⟨W7, hW7⟩ : ∃ W, W = w6.drewN nq := ⟨_, rfl⟩
          rw [← hW7]
          have k1 : W7.cell? ⟨b, off + j * 2, none⟩ = some (.int .i64 p) := by rw [hW7]; exact g1
          have k2 : W7.cell? ⟨b, off + j * 2 + 1, none⟩ = some (.int .i64 q) := by rw [hW7]; exact g2
          have k3 : Below w2.heap.size w2 W7 := by rw [hW7]; exact below_drews R2 nq
          have HO7 := Lib.hid (show Ow W7 w2.heap.size v' m2 by rw [hW7]; exact R1.out)
          have HRW := Lib.hid (show ∀ k, v'.ownBlock = some k → w2.heap.size ≤ k from fun k hk => (R1.out.lt k hk).1)
          have HLEN := Lib.hid (show m2.length + 1 ≤ maxLen ∧ (m2.length + 1) * 16 ≤ 140737488355328 by have := hml.out; unfold maxLen; omega)
          have HSZ := Lib.hid k3.size
          clear hW7 g1 g2 f1 f2
          go_region_held3 (fun W => W.cell? ⟨b, off + j * 2, none⟩ = some (.int .i64 p) ∧ W.cell? ⟨b, off + j * 2 + 1, none⟩ = some (.int .i64 q) ∧ Below w2.heap.size w2 W) (first | exact ⟨k1, k2, k3.drew⟩ | exact keep_g hg9 (by assumption) HRW.out hbl | exact keep2 (by assumption) (by assumption) hbl | exact keep2 ((Below.refl _ _).alloc (Nat.le_refl _) _) (by assumption) hbl) (first
            | (go_at_call 31; refine (rng_agg _ _ _).mono ?_; rintro e w8 ⟨rfl, hb8⟩)
            | (refine step_append_own _ rfl (.tmp 41) (.tmp 54) 22 rfl w2.heap.size 32 i0 (.agg #[.int .i64 0, .int .i64 0]) 2 16 Try.underlying22 hi hz0 hz1 hz2 rfl (by omega) _ _ _ rfl ((own_below HO7.out (below_drew hb8)).alloc _) ⟨w8.heap.size, 0, none⟩ 1 1 [.int .i64 p, .int .i64 (q - 1)] rfl rfl (two_cells _ _ _ _) (ones2 _ _) HLEN.out.1 HLEN.out.2 (alloc_size HSZ.out hb8) ?_; intro v9 w9 hown9 hg9 _))
          all_goals (
            have HO9 := Lib.hid (show Ow w9 w2.heap.size v9 (m2 ++ [(p, q - 1)]) by unfold Ow; rw [cellsR_append, List.length_append]; exact hown9)
            clear hown9 hg9
            go_wp2_with fail
            go_roundw
            case rel => exact ⟨j, by omega, rfl, (by show Ow _ _ _ (bs la j); rw [HT2.out]; exact HO9.out), below_of (by assumption)⟩
            case measure => simp [intOf])
        · have hdp : decide (p < q) = false := by simp; omega
          have HT2 := Lib.hid (show bs la j = m2 by rw [HT.out, ← HM2.out]; simp [spl, hpq])
          go_wp2_with fail
          go_quiet (fail)
          go_wp2_with fail
          go_roundw
          case rel => exact ⟨j, by omega, rfl, (by show Ow _ _ _ (bs la j); rw [HT2.out]; exact R1.out), below_drews R2 nq⟩
          case measure => simp [intOf]
  · have t1 : (Int.tmod x 3 == 0) = false := by simpa using ht
    have t2 : (Int.tmod x 3 != 0) = true := by simpa using ht
    have w0 : IntKind.i64.wrap (Int.tmod x 3) = Int.tmod x 3 := IntWalk.i64_in _ (by have := Int.tmod_lt_of_pos x (show (0 : Int) < 3 by omega); have := Int.lt_tmod_of_pos x (show (0 : Int) < 3 by omega); omega)
    clear ht
    have q4 := notL_len lb; have q5 := nrm_len lb
    by_cases e1 : (andL la (notL lb)).length = 0
    · by_cases e2 : (andL lb (notL la)).length = 0
      · have L1 := Lib.hid e1; have L2 := Lib.hid e2
        have EQ := Lib.hid (show decide (nrm la = nrm lb) = true from decide_eq_true ((same_iff la lb).1 ⟨List.eq_nil_of_length_eq_zero e1, List.eq_nil_of_length_eq_zero e2⟩))
        clear e1 e2
        go_wp2_with fail
        refine (not_any B2 d2 lb _ Q2.out (by omega)).mono ?_
        rintro e w23 ⟨v23, rfl, ho23, hb23⟩
        obtain ⟨B23, d23, rfl, r23⟩ := shape_of ho23
        clear ho23
        have HA23 := Lib.hid hb23
        have HB23 := Lib.hid (bel_trans HB2.out HA23.out)
        clear hb23
        have Q1_23 := Lib.hid (Q1_2.out.on HA23.out)
        clear Q1_2
        have Q2_23 := Lib.hid (Q2.out.on HA23.out)
        clear Q2
        have Q23 := Lib.hid r23
        clear r23
        go_wp2_with fail
        refine (and_any _ _ _ _ la (notL lb) _ Q1_23.out Q23.out (by omega) (by omega)).mono ?_
        rintro e w24 ⟨v24, rfl, ho24, hb24⟩
        obtain ⟨B24, d24, rfl, r24⟩ := shape_of ho24
        clear ho24
        have HA24 := Lib.hid hb24
        have HB24 := Lib.hid (bel_trans HB23.out HA24.out)
        clear hb24
        have Q1_24 := Lib.hid (Q1_23.out.on HA24.out)
        clear Q1_23
        have Q2_24 := Lib.hid (Q2_23.out.on HA24.out)
        clear Q2_23
        have Q23_24 := Lib.hid (Q23.out.on HA24.out)
        clear Q23
        have Q24 := Lib.hid r24
        clear r24
        clear Q23_24
        rw [L1.out]
        clear Q24
        go_wp2_with fail
        refine (not_any B1 d1 la _ Q1_24.out (by omega)).mono ?_
        rintro e w25 ⟨v25, rfl, ho25, hb25⟩
        obtain ⟨B25, d25, rfl, r25⟩ := shape_of ho25
        clear ho25
        have HA25 := Lib.hid hb25
        have HB25 := Lib.hid (bel_trans HB24.out HA25.out)
        clear hb25
        have Q1_25 := Lib.hid (Q1_24.out.on HA25.out)
        clear Q1_24
        have Q2_25 := Lib.hid (Q2_24.out.on HA25.out)
        clear Q2_24
        have Q25 := Lib.hid r25
        clear r25
        go_wp2_with fail
        refine (and_any _ _ _ _ lb (notL la) _ Q2_25.out Q25.out (by omega) (by omega)).mono ?_
        rintro e w26 ⟨v26, rfl, ho26, hb26⟩
        obtain ⟨B26, d26, rfl, r26⟩ := shape_of ho26
        clear ho26
        have HA26 := Lib.hid hb26
        have HB26 := Lib.hid (bel_trans HB25.out HA26.out)
        clear hb26
        have Q1_26 := Lib.hid (Q1_25.out.on HA26.out)
        clear Q1_25
        have Q2_26 := Lib.hid (Q2_25.out.on HA26.out)
        clear Q2_25
        have Q25_26 := Lib.hid (Q25.out.on HA26.out)
        clear Q25
        have Q26 := Lib.hid r26
        clear r26
        clear Q25_26
        rw [L2.out]
        clear Q26
        go_wp2_with fail
        refine (norm_any B1 d1 la _ Q1_26.out (by omega)).mono ?_
        rintro e w27 ⟨v27, rfl, ho27, hb27⟩
        obtain ⟨B27, d27, rfl, r27⟩ := shape_of ho27
        clear ho27
        have HA27 := Lib.hid hb27
        have HB27 := Lib.hid (bel_trans HB26.out HA27.out)
        clear hb27
        have Q1_27 := Lib.hid (Q1_26.out.on HA27.out)
        clear Q1_26
        have Q2_27 := Lib.hid (Q2_26.out.on HA27.out)
        clear Q2_26
        have Q27 := Lib.hid r27
        clear r27
        go_wp2_with fail
        refine (norm_any B2 d2 lb _ Q2_27.out (by omega)).mono ?_
        rintro e w28 ⟨v28, rfl, ho28, hb28⟩
        obtain ⟨B28, d28, rfl, r28⟩ := shape_of ho28
        clear ho28
        have HA28 := Lib.hid hb28
        have HB28 := Lib.hid (bel_trans HB27.out HA28.out)
        clear hb28
        have Q1_28 := Lib.hid (Q1_27.out.on HA28.out)
        clear Q1_27
        have Q2_28 := Lib.hid (Q2_27.out.on HA28.out)
        clear Q2_27
        have Q27_28 := Lib.hid (Q27.out.on HA28.out)
        clear Q27
        have Q28 := Lib.hid r28
        clear r28
        go_wp2_with fail
        refine (eqset_any _ _ _ _ (nrm la) (nrm lb) _ Q27_28.out Q28.out (by omega) (by omega)).mono ?_
        rintro e w29 ⟨rfl, hb29⟩
        rw [EQ.out]
        have HA29 := Lib.hid hb29
        have HB29 := Lib.hid (bel_trans HB28.out HA29.out)
        clear hb29
        have Q1_29 := Lib.hid (Q1_28.out.on HA29.out)
        clear Q1_28
        have Q2_29 := Lib.hid (Q2_28.out.on HA29.out)
        clear Q2_28
        have Q27_29 := Lib.hid (Q27_28.out.on HA29.out)
        clear Q27_28
        have Q28_29 := Lib.hid (Q28.out.on HA29.out)
        clear Q28
        clear Q27_29
        clear Q28_29
        go_wp2_with fail
        refine (wakes_any _).mono ?_
        rintro e w30 ⟨rfl, hb30⟩
        have HA30 := Lib.hid hb30
        have HB30 := Lib.hid (bel_trans HB29.out HA30.out)
        clear hb30
        have Q1_30 := Lib.hid (Q1_29.out.on HA30.out)
        clear Q1_29
        have Q2_30 := Lib.hid (Q2_29.out.on HA30.out)
        clear Q2_29
        go_wp2_with fail
        go_ret
        exact ⟨rfl, HB30.out⟩
      · have L1 := Lib.hid e1
        have EQ := Lib.hid (show decide (nrm la = nrm lb) = false from decide_eq_false fun hh => e2 (by rw [((same_iff la lb).2 hh).2]; rfl))
        have z2 : (((andL lb (notL la)).length : Int) == 0) = false := beq_eq_false_iff_ne.2 (by omega)
        clear e1 e2
        go_wp2_with fail
        refine (not_any B2 d2 lb _ Q2.out (by omega)).mono ?_
        rintro e w23 ⟨v23, rfl, ho23, hb23⟩
        obtain ⟨B23, d23, rfl, r23⟩ := shape_of ho23
        clear ho23
        have HA23 := Lib.hid hb23
        have HB23 := Lib.hid (bel_trans HB2.out HA23.out)
        clear hb23
        have Q1_23 := Lib.hid (Q1_2.out.on HA23.out)
        clear Q1_2
        have Q2_23 := Lib.hid (Q2.out.on HA23.out)
        clear Q2
        have Q23 := Lib.hid r23
        clear r23
        go_wp2_with fail
        refine (and_any _ _ _ _ la (notL lb) _ Q1_23.out Q23.out (by omega) (by omega)).mono ?_
        rintro e w24 ⟨v24, rfl, ho24, hb24⟩
        obtain ⟨B24, d24, rfl, r24⟩ := shape_of ho24
        clear ho24
        have HA24 := Lib.hid hb24
        have HB24 := Lib.hid (bel_trans HB23.out HA24.out)
        clear hb24
        have Q1_24 := Lib.hid (Q1_23.out.on HA24.out)
        clear Q1_23
        have Q2_24 := Lib.hid (Q2_23.out.on HA24.out)
        clear Q2_23
        have Q23_24 := Lib.hid (Q23.out.on HA24.out)
        clear Q23
        have Q24 := Lib.hid r24
        clear r24
        clear Q23_24
        rw [L1.out]
        clear Q24
        go_wp2_with fail
        refine (not_any B1 d1 la _ Q1_24.out (by omega)).mono ?_
        rintro e w25 ⟨v25, rfl, ho25, hb25⟩
        obtain ⟨B25, d25, rfl, r25⟩ := shape_of ho25
        clear ho25
        have HA25 := Lib.hid hb25
        have HB25 := Lib.hid (bel_trans HB24.out HA25.out)
        clear hb25
        have Q1_25 := Lib.hid (Q1_24.out.on HA25.out)
        clear Q1_24
        have Q2_25 := Lib.hid (Q2_24.out.on HA25.out)
        clear Q2_24
        have Q25 := Lib.hid r25
        clear r25
        go_wp2_with fail
        refine (and_any _ _ _ _ lb (notL la) _ Q2_25.out Q25.out (by omega) (by omega)).mono ?_
        rintro e w26 ⟨v26, rfl, ho26, hb26⟩
        obtain ⟨B26, d26, rfl, r26⟩ := shape_of ho26
        clear ho26
        have HA26 := Lib.hid hb26
        have HB26 := Lib.hid (bel_trans HB25.out HA26.out)
        clear hb26
        have Q1_26 := Lib.hid (Q1_25.out.on HA26.out)
        clear Q1_25
        have Q2_26 := Lib.hid (Q2_25.out.on HA26.out)
        clear Q2_25
        have Q25_26 := Lib.hid (Q25.out.on HA26.out)
        clear Q25
        have Q26 := Lib.hid r26
        clear r26
        clear Q25_26
        generalize (andL lb (notL la)).length = m2 at *
        clear Q26
        go_wp2_with fail
        refine (norm_any B1 d1 la _ Q1_26.out (by omega)).mono ?_
        rintro e w27 ⟨v27, rfl, ho27, hb27⟩
        obtain ⟨B27, d27, rfl, r27⟩ := shape_of ho27
        clear ho27
        have HA27 := Lib.hid hb27
        have HB27 := Lib.hid (bel_trans HB26.out HA27.out)
        clear hb27
        have Q1_27 := Lib.hid (Q1_26.out.on HA27.out)
        clear Q1_26
        have Q2_27 := Lib.hid (Q2_26.out.on HA27.out)
        clear Q2_26
        have Q27 := Lib.hid r27
        clear r27
        go_wp2_with fail
        refine (norm_any B2 d2 lb _ Q2_27.out (by omega)).mono ?_
        rintro e w28 ⟨v28, rfl, ho28, hb28⟩
        obtain ⟨B28, d28, rfl, r28⟩ := shape_of ho28
        clear ho28
        have HA28 := Lib.hid hb28
        have HB28 := Lib.hid (bel_trans HB27.out HA28.out)
        clear hb28
        have Q1_28 := Lib.hid (Q1_27.out.on HA28.out)
        clear Q1_27
        have Q2_28 := Lib.hid (Q2_27.out.on HA28.out)
        clear Q2_27
        have Q27_28 := Lib.hid (Q27.out.on HA28.out)
        clear Q27
        have Q28 := Lib.hid r28
        clear r28
        go_wp2_with fail
        refine (eqset_any _ _ _ _ (nrm la) (nrm lb) _ Q27_28.out Q28.out (by omega) (by omega)).mono ?_
        rintro e w29 ⟨rfl, hb29⟩
        rw [EQ.out]
        have HA29 := Lib.hid hb29
        have HB29 := Lib.hid (bel_trans HB28.out HA29.out)
        clear hb29
        have Q1_29 := Lib.hid (Q1_28.out.on HA29.out)
        clear Q1_28
        have Q2_29 := Lib.hid (Q2_28.out.on HA29.out)
        clear Q2_28
        have Q27_29 := Lib.hid (Q27_28.out.on HA29.out)
        clear Q27_28
        have Q28_29 := Lib.hid (Q28.out.on HA29.out)
        clear Q28
        clear Q27_29
        clear Q28_29
        go_wp2_with fail
        refine (wakes_any _).mono ?_
        rintro e w30 ⟨rfl, hb30⟩
        have HA30 := Lib.hid hb30
        have HB30 := Lib.hid (bel_trans HB29.out HA30.out)
        clear hb30
        have Q1_30 := Lib.hid (Q1_29.out.on HA30.out)
        clear Q1_29
        have Q2_30 := Lib.hid (Q2_29.out.on HA30.out)
        clear Q2_29
        go_wp2_with fail
        go_ret
        exact ⟨rfl, HB30.out⟩
    · have EQ := Lib.hid (show decide (nrm la = nrm lb) = false from decide_eq_false fun hh => e1 (by rw [((same_iff la lb).2 hh).1]; rfl))
      have z1 : (((andL la (notL lb)).length : Int) == 0) = false := beq_eq_false_iff_ne.2 (by omega)
      clear e1
      go_wp2_with fail
      refine (not_any B2 d2 lb _ Q2.out (by omega)).mono ?_
      rintro e w23 ⟨v23, rfl, ho23, hb23⟩
      obtain ⟨B23, d23, rfl, r23⟩ := shape_of ho23
      clear ho23
      have HA23 := Lib.hid hb23
      have HB23 := Lib.hid (bel_trans HB2.out HA23.out)
      clear hb23
      have Q1_23 := Lib.hid (Q1_2.out.on HA23.out)
      clear Q1_2
      have Q2_23 := Lib.hid (Q2.out.on HA23.out)
      clear Q2
      have Q23 := Lib.hid r23
      clear r23
      go_wp2_with fail
      refine (and_any _ _ _ _ la (notL lb) _ Q1_23.out Q23.out (by omega) (by omega)).mono ?_
      rintro e w24 ⟨v24, rfl, ho24, hb24⟩
      obtain ⟨B24, d24, rfl, r24⟩ := shape_of ho24
      clear ho24
      have HA24 := Lib.hid hb24
      have HB24 := Lib.hid (bel_trans HB23.out HA24.out)
      clear hb24
      have Q1_24 := Lib.hid (Q1_23.out.on HA24.out)
      clear Q1_23
      have Q2_24 := Lib.hid (Q2_23.out.on HA24.out)
      clear Q2_23
      have Q23_24 := Lib.hid (Q23.out.on HA24.out)
      clear Q23
      have Q24 := Lib.hid r24
      clear r24
      clear Q23_24
      generalize (andL la (notL lb)).length = m1 at *
      clear Q24
      go_wp2_with fail
      refine (norm_any B1 d1 la _ Q1_24.out (by omega)).mono ?_
      rintro e w25 ⟨v25, rfl, ho25, hb25⟩
      obtain ⟨B25, d25, rfl, r25⟩ := shape_of ho25
      clear ho25
      have HA25 := Lib.hid hb25
      have HB25 := Lib.hid (bel_trans HB24.out HA25.out)
      clear hb25
      have Q1_25 := Lib.hid (Q1_24.out.on HA25.out)
      clear Q1_24
      have Q2_25 := Lib.hid (Q2_24.out.on HA25.out)
      clear Q2_24
      have Q25 := Lib.hid r25
      clear r25
      go_wp2_with fail
      refine (norm_any B2 d2 lb _ Q2_25.out (by omega)).mono ?_
      rintro e w26 ⟨v26, rfl, ho26, hb26⟩
      obtain ⟨B26, d26, rfl, r26⟩ := shape_of ho26
      clear ho26
      have HA26 := Lib.hid hb26
      have HB26 := Lib.hid (bel_trans HB25.out HA26.out)
      clear hb26
      have Q1_26 := Lib.hid (Q1_25.out.on HA26.out)
      clear Q1_25
      have Q2_26 := Lib.hid (Q2_25.out.on HA26.out)
      clear Q2_25
      have Q25_26 := Lib.hid (Q25.out.on HA26.out)
      clear Q25
      have Q26 := Lib.hid r26
      clear r26
      go_wp2_with fail
      refine (eqset_any _ _ _ _ (nrm la) (nrm lb) _ Q25_26.out Q26.out (by omega) (by omega)).mono ?_
      rintro e w27 ⟨rfl, hb27⟩
      rw [EQ.out]
      have HA27 := Lib.hid hb27
      have HB27 := Lib.hid (bel_trans HB26.out HA27.out)
      clear hb27
      have Q1_27 := Lib.hid (Q1_26.out.on HA27.out)
      clear Q1_26
      have Q2_27 := Lib.hid (Q2_26.out.on HA27.out)
      clear Q2_26
      have Q25_27 := Lib.hid (Q25_26.out.on HA27.out)
      clear Q25_26
      have Q26_27 := Lib.hid (Q26.out.on HA27.out)
      clear Q26
      clear Q25_27
      clear Q26_27
      go_wp2_with fail
      refine (wakes_any _).mono ?_
      rintro e w28 ⟨rfl, hb28⟩
      have HA28 := Lib.hid hb28
      have HB28 := Lib.hid (bel_trans HB27.out HA28.out)
      clear hb28
      have Q1_28 := Lib.hid (Q1_27.out.on HA28.out)
      clear Q1_27
      have Q2_28 := Lib.hid (Q2_27.out.on HA28.out)
      clear Q2_27
      go_wp2_with fail
      go_ret
      exact ⟨rfl, HB28.out⟩
end Go.Proofs.Ytfjcljhodnkieaa
