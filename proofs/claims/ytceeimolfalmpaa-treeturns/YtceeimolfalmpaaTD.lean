/-
  The order in which a tree's nodes begin, as the page's own tells it (order). Condition: the row is a tree's.
-/
import Derived.Test.YtceeimolfalmpaaTB
import Derived.Test.YtceeimolfalmpaaTC
import Derived.Test.YtceeimolfalmpaaTL
namespace Go.Proofs.Ytceeimolfalmpaa
open Go.RowKit ObSets ObTree ObTree.Tree

theorem info3 : (Try.prog.info? 3).map (fun i => (i.zero, i.size, i.bytes)) = some (some (.int .i64 0), 1, 8) := by kernel_rfl
theorem heap_new (w : World) (o : Obj) : (w.alloc o).heap[w.heap.size]? = some o := by
  show (w.heap.push o)[w.heap.size]? = _
  simp
theorem lt_of_heap {w : World} {b : Nat} {o : Obj} (h : w.heap[b]? = some o) : b < w.heap.size := (Array.getElem?_eq_some_iff.1 h).1
theorem keepL {w w' : World} {r : Nat} {o : Obj} (h : w.heap[r]? = some o) (hb : Below w.heap.size w w') : w'.heap[r]? = some o := (hb.block _ (lt_of_heap h)).trans h
theorem keepG {w w' : World} {r : Nat} {o : Obj} {row : Option Nat} (h : w.heap[r]? = some o) (hg : w.grownBy w' row) (hne : ∀ g, row = some g → g ≠ r) : w'.heap[r]? = some o :=
  (hg.block r (lt_of_heap h) (fun e => hne r e.symm rfl)).trans h
theorem blk1 {w : World} {r : Nat} {a : Value} {t : TypeId} (h : w.heap[r]? = some (.cells #[a] t (0, 0))) : w.cell? ⟨r, 0, none⟩ = some a := by simp [World.cell?, h]
theorem one_cell (w : World) (g : Nat) (hg : g = w.heap.size) (a : Int) : ∀ j u, [Value.int .i64 a][j]? = some u → (w.alloc (.cells #[.int .i64 a] 3)).cell? ((⟨g, 0, none⟩ : Addr).add j) = some u := by
  intro j u hu
  rw [show (Addr.add ⟨g, 0, none⟩ j) = ⟨w.heap.size, j, none⟩ by unfold Addr.add; split <;> simp_all, World.cell?_alloc_at _ _ _ _ rfl]
  simpa using hu
theorem below_grown {B : Nat} {w w' : World} {row : Option Nat} (hg : w.grownBy w' row) (hB : B ≤ w.heap.size) (hr : ∀ k, row = some k → B ≤ k) : Below B w w' := (Below.refl B w).grown hg hB hr
/-- A row of numbers, opened. -/
theorem row_see {w : World} {B : Nat} {v : Value} {zs : List Int} (h : w.ownsRow B 3 1 v zs.length (ints zs)) : ∃ A c, v = .slice A zs.length c ∧ ∀ j z, zs[j]? = some z → ∃ g, A = some ⟨g, 0, none⟩ ∧ B ≤ g ∧ g < w.heap.size ∧ w.cell? ⟨g, j, none⟩ = some (.int .i64 z) := by
  rcases h.2 with ⟨hv, hn⟩ | ⟨g, cap, cur, hv, hbg, hg, rest⟩
  · refine ⟨none, 0, by rw [hv, hn], fun j z hz => ?_⟩
    rw [List.eq_nil_of_length_eq_zero hn] at hz; simp at hz
  · refine ⟨some ⟨g, 0, none⟩, cap, hv, fun j z hz => ⟨g, rfl, hbg, lt_of_heap hg, ?_⟩⟩
    have hc := h.cells (g := g) (by rw [hv]; rfl) j (.int .i64 z) (by rw [List.getElem?_map, hz]; rfl)
    rw [show (Addr.add ⟨g, 0, none⟩ j) = ⟨g, j, none⟩ by unfold Addr.add; split <;> simp_all] at hc
    exact hc
/-- What order hands back: the row longer, in its block or a new one; all else as it was. -/
def RetO (v : Value) (w : World) (zs : List Int) (e : Ending) (w' : World) : Prop :=
  ∃ v', e = .returned v' ∧ w'.ownsRow 0 3 1 v' zs.length (ints zs) ∧ w.grownBy w' v.ownBlock ∧ (∀ g, v'.ownBlock = some g → v.ownBlock = some g ∨ w.heap.size ≤ g)
/-- What order makes of a node. -/
def OrdC (w0 : World) (A : Option Addr) (n c : Nat) (i : Int) (part : List Int) : Prop :=
  ∀ (out : List Int) (v : Value) (w : World), Below w0.heap.size w0 w → w.ownsRow 0 3 1 v out.length (ints out) → (∀ g, v.ownBlock = some g → w0.heap.size ≤ g) → out.length + part.length ≤ 1000000 →
    Calls Try.prog 39 #[tr A n c, .int .i64 i, v] w (RetO v w (out ++ part))
theorem grown_trans {a b d : World} {r s : Option Nat} (h : a.grownBy b r) (k : b.grownBy d s) (hs : ∀ g, s = some g → r = some g ∨ a.heap.size ≤ g) : a.grownBy d r :=
  ⟨k.os.trans h.os, k.tape.trans h.tape, k.output.trans h.output, Nat.le_trans h.size k.size, fun q hq hn => (k.block q (Nat.lt_of_lt_of_le hq h.size) (fun e => by
    rcases hs q e.symm with h1 | h1
    · exact hn h1.symm
    · omega)).trans (h.block q hq hn)⟩
theorem below_grownBy {a b : World} {r : Option Nat} (h : Below a.heap.size a b) : a.grownBy b r := ⟨h.os, h.tape, h.output, h.size, fun q hq _ => h.block q hq⟩
theorem flat_take {parts : List (List Int)} {j : Nat} {p : List Int} (h : parts[j]? = some p) : (parts.take (j + 1)).flatten = (parts.take j).flatten ++ p := by
  rw [List.take_add_one, h]; simp
theorem flat_take_len (parts : List (List Int)) (j : Nat) : (parts.take j).flatten.length ≤ parts.flatten.length := by
  conv => rhs; rw [← List.take_append_drop j parts, List.flatten_append, List.length_append]
  exact Nat.le_add_right _ _
theorem undrewG {w w' : World} {r : Option Nat} (h : w.drew.grownBy w' r) : w.grownBy w' r := ⟨h.os, h.tape, h.output, h.size, h.block⟩
set_option maxHeartbeats 4000000 in
set_option maxRecDepth 100000 in
theorem ord_node (w0 : World) (A : Option Addr) (n c i : Nat) (L : List Nd) (x : Nd) (parts : List (List Int)) (hN : Nr w0 A L) (hn : L.length = n) (hx : L[i]? = some x)
    (hp : parts.length = (kids x).length) (hk : ∀ (j : Nat) (k : Int) (p : List Int), (kids x)[j]? = some k → parts[j]? = some p → OrdC w0 A n c k p) : OrdC w0 A n c (i : Int) ((i : Int) :: parts.flatten) := by
  intro out v w hb hv hvb hlen
  obtain ⟨i0, hi0, hz0, hz1, hz2⟩ := info_parts info3
  have hi : i < n := by rw [← hn]; exact (List.getElem?_eq_some_iff.1 hx).1
  have hi1 : (i : Int) < (n : Int) := by omega
  have hne : L ≠ [] := by rintro rfl; simp at hx
  obtain ⟨b, off, rfl, hlt, hcell⟩ := hN hne
  have hX := hcell i x hx
  have hw0 := hb.size
  have HVL := Lib.hid (fun g hg => (hv.lt g hg).2)
  have HBX := Lib.hid (keepL (heap_new w (.cells #[.slice (some ⟨b, off, none⟩) n c] 24)) ((Below.refl _ _).alloc (Nat.le_refl _) (.cells #[.int .i64 (i : Int)] 3)))
  have ha2 := ((Below.refl w.heap.size w).alloc (Nat.le_refl _) (.cells #[.slice (some ⟨b, off, none⟩) n c] 24)).alloc (by simp) (.cells #[.int .i64 (i : Int)] 3)
  have HA2 := Lib.hid ha2
  have HB2 := Lib.hid (hb.trans (ha2.mono hw0))
  have HV2 := Lib.hid ((hv.alloc (.cells #[.slice (some ⟨b, off, none⟩) n c] 24)).alloc (.cells #[.int .i64 (i : Int)] 3))
  have HCELL := Lib.hid (one_cell (w.alloc (.cells #[.slice (some ⟨b, off, none⟩) n c] 24)) (w.heap.size + 1) (by simp) (i : Int))
  have HVB := Lib.hid hvb
  have HK := Lib.hid hk
  have HX := Lib.hid hX
  have HP := Lib.hid hp
  have hpl : parts.flatten.length + 1 = ((i : Int) :: parts.flatten).length := by simp
  rw [← hpl] at hlen
  have HLEN := Lib.hid hlen
  have HB0 := Lib.hid hb
  clear hk hX hcell ha2 hv hvb hp hpl hb
  obtain ⟨lo, hlo⟩ : ∃ lo, out.length = lo := ⟨_, rfl⟩
  rw [hlo] at HV2 hlen
  have HLO := Lib.hid hlo
  clear hlo
  go_enter Try.func39, Try.ntmps39
  go_wp2_with (at_builtin; refine wpList_append_at rfl _ _ 29 rfl 3 i0 (.int .i64 0) 8 Try.underlying29 hi0 hz0 hz1 hz2 rfl v lo (ints out) rfl HV2.out ⟨w.heap.size + 1, 0, none⟩ 1 1 [.int .i64 (i : Int)] rfl rfl HCELL.out (by intro u hu; simp at hu; subst hu; rfl) ?c3 ?c4 ?_)
  case c3 => unfold maxLen; omega
  case c4 => omega
  intro v1 w1 hown1 hg1 hv1
  have hs2 : ((w.alloc (.cells #[.slice (some ⟨b, off, none⟩) n c] 24)).alloc (.cells #[.int .i64 (i : Int)] 3)).heap.size = w.heap.size + 2 := by simp
  have hw1 : w.heap.size + 2 ≤ w1.heap.size := by have := hg1.size; omega
  have hB1 := HB2.out.trans (below_grown hg1 (by omega) (fun k hk => HVB.out k hk))
  have HB1 := Lib.hid hB1
  have HG1 := Lib.hid (grown_trans (below_grownBy (r := v.ownBlock) HA2.out) hg1 (fun g hg => .inl hg))
  have HBX1 := Lib.hid (keepG HBX.out hg1 (fun g hg => by have := HVL.out g hg; omega))
  have HV1 := Lib.hid (show ∀ g, v1.ownBlock = some g → v.ownBlock = some g ∨ w.heap.size + 2 ≤ g from fun g hg => by
    rcases hv1 g hg with h | h
    · exact .inl h
    · exact .inr (by omega))
  have HO1 := Lib.hid (show w1.ownsRow 0 3 1 v1 (out ++ [(i : Int)]).length (ints (out ++ [(i : Int)])) by
    have e : (out ++ [(i : Int)]).length = lo + 1 := by rw [List.length_append, HLO.out]; rfl
    rw [e, show ints (out ++ [(i : Int)]) = ints out ++ [.int .i64 (i : Int)] by simp [ints]]; exact hown1)
  obtain ⟨As, ks, ⟨c0, c1, c2, c3, c4, c5, c6⟩, _⟩ := HX.out.below hlt hB1
  have b0 := blk1 HBX1.out
  clear hown1 hg1 hv1 hB1 hs2
  go_wp2_with fail
  refine (kids_any x (.slice As x.set.length ks) ⟨_, _, _, rfl⟩ _).mono ?_
  rintro e w2 ⟨v2, rfl, hk2, hb2⟩
  obtain ⟨A2, k2, rfl, hsee⟩ := row_see hk2
  obtain ⟨kl, hkl⟩ : ∃ kl, (kids x).length = kl := ⟨_, rfl⟩
  rw [hkl]
  have hkl2 : kl ≤ 2 := by rw [← hkl]; exact kids_len x
  have HSEE := Lib.hid hsee
  have HKL := Lib.hid hkl
  have HBX2 := Lib.hid (keepL HBX1.out hb2)
  have HB2' := Lib.hid (HB1.out.trans (hb2.mono HB1.out.size))
  have HG2 := Lib.hid (grown_trans HG1.out (below_grownBy (r := none) hb2) (fun g hg => by cases hg))
  have HO2 := Lib.hid (S.own_below HO1.out hb2)
  have hw2 := hb2.size
  have HV12 := Lib.hid (show ∀ g, v1.ownBlock = some g → g < w1.heap.size from fun g hg => (HO1.out.lt g hg).2)
  clear hsee hkl hk2 hb2 c0 c1 c2 c3 c4 c5 c6 b0
  go_wp2_with fail
  go_loopw [2, 8] (fun tv tj wr => ∃ j : Nat, tj = .int .i64 (j : Int) ∧ j ≤ kl ∧ Hid (wr.ownsRow 0 3 1 tv (out ++ [(i : Int)] ++ (parts.take j).flatten).length (ints (out ++ [(i : Int)] ++ (parts.take j).flatten))) ∧ Hid (w2.grownBy wr v1.ownBlock) ∧ Hid (∀ g, tv.ownBlock = some g → v1.ownBlock = some g ∨ w2.heap.size ≤ g)) (fun _ tj _ => kl - (intOf tj).toNat)
  case atStart => exact ⟨0, rfl, Nat.zero_le _, Lib.hid (by simpa using HO2.out), Lib.hid (World.grownBy.refl _ _), Lib.hid (fun g hg => .inl hg)⟩
  case round =>
    obtain ⟨j, rfl, hj, HO, HG, HV⟩ := hrel
    have hgs := HG.out.size
    have hB3 := HB2'.out.trans (below_grown HG.out HB2'.out.size (fun g hg => by
      rcases HV1.out g hg with h | h
      · exact HVB.out g h
      · omega))
    have HB3 := Lib.hid hB3
    have HUB := Lib.hid (show ∀ g, u2.ownBlock = some g → w0.heap.size ≤ g from fun g hg => by
      have h0 := HB2'.out.size
      rcases HV.out g hg with h | h
      · rcases HV1.out g h with h1 | h1
        · exact HVB.out g h1
        · omega
      · omega)
    have HBX3 := Lib.hid (keepG HBX2.out HG.out (fun g hg => by
      rcases HV1.out g hg with h | h
      · have := HVL.out g h; omega
      · omega))
    clear hB3
    by_cases hjk : j < kl
    · have d1 : decide (j < kl) = true := decide_eq_true hjk
      have hjk' : (j : Int) < (kl : Int) := by omega
      obtain ⟨z, hz⟩ : ∃ z, (kids x)[j]? = some z := ⟨_, List.getElem?_eq_getElem (by rw [HKL.out]; exact hjk)⟩
      obtain ⟨p, hpp⟩ : ∃ p, parts[j]? = some p := ⟨_, List.getElem?_eq_getElem (by rw [HP.out, HKL.out]; exact hjk)⟩
      have HCJ := Lib.hid (HK.out j z p hz hpp)
      have HFT := Lib.hid (flat_take hpp)
      obtain ⟨g, rfl, hg1, hg2, hgc⟩ := HSEE.out j z hz
      have HGC := Lib.hid (show wr.cell? ⟨g, j, none⟩ = some (.int .i64 z) from HG.out.cell hgc (fun e => by have := HV12.out g e.symm; omega))
      have hlen2 : (out ++ [(i : Int)] ++ (parts.take j).flatten).length + p.length ≤ 1000000 := by
        have h1 := flat_take_len parts (j + 1)
        rw [HFT.out, List.length_append] at h1
        have h2 := HLEN.out
        simp only [List.length_append, List.length_cons, List.length_nil]
        omega
      have HCALL := Lib.hid (fun (W : World) (hW : Below wr.heap.size wr W) => HCJ.out _ u2 W (HB3.out.trans (hW.mono HB3.out.size)) (S.own_below HO.out hW) HUB.out hlen2)
      have HUG := Lib.hid (show ∀ g', u2.ownBlock = some g' → g' ≠ g ∧ g' ≠ w.heap.size from fun g' hg' => by
        rcases HV.out g' hg' with h | h
        · have h1 := HV12.out g' h
          rcases HV1.out g' h with h2 | h2
          · have := HVL.out g' h2; omega
          · omega
        · omega)
      have SF := Lib.hid (show wr.cell? ⟨w.heap.size, 0, none⟩ = some (.slice (some ⟨b, off, none⟩) n c) ∧ wr.cell? ⟨g, j, none⟩ = some (.int .i64 z) from ⟨blk1 HBX3.out, HGC.out⟩)
      have SF2 := Lib.hid (fun (W : World) (hW : wr.grownBy W u2.ownBlock) => (show W.cell? ⟨w.heap.size, 0, none⟩ = some (.slice (some ⟨b, off, none⟩) n c) ∧ W.cell? ⟨g, j, none⟩ = some (.int .i64 z) from ⟨hW.cell SF.out.1 (fun e => (HUG.out _ e.symm).2 rfl), hW.cell SF.out.2 (fun e => (HUG.out _ e.symm).1 rfl)⟩))
      clear hgc hz hpp hlen2
      go_wp2_with fail
      go_region_held3 (fun W => W.cell? ⟨w.heap.size, 0, none⟩ = some (.slice (some ⟨b, off, none⟩) n c) ∧ W.cell? ⟨g, j, none⟩ = some (.int .i64 z))
        (first | exact SF.out | exact SF2.out _ (undrewG (by assumption)) | fail)
        (first | (go_at_call 39; refine (HCALL.out _ (Below.refl _ _).drew).mono ?_; rintro e w3 ⟨v3, rfl, ho3, hg3, hv3⟩) | fail)
      go_wp2_with fail
      go_roundw
      case rel =>
        refine ⟨j + 1, congrArg (Value.int .i64) (by omega), hjk, Lib.hid ?_, Lib.hid (grown_trans HG.out (undrewG hg3) HV.out), Lib.hid (fun g' hg' => ?_)⟩
        · rw [HFT.out, ← List.append_assoc]; exact ho3
        · rcases hv3 g' hg' with h | h
          · exact HV.out g' h
          · exact .inr (Nat.le_trans hgs h)
      case measure => simp [intOf]; omega
    · have d1 : decide (j < kl) = false := decide_eq_false hjk
      have hall : parts.take j = parts := List.take_of_length_le (by rw [HP.out, HKL.out]; omega)
      have ho := HO.out
      rw [hall, List.append_assoc] at ho
      have HOE := Lib.hid ho
      clear ho hall
      go_wp2_with fail
      go_ret
      refine ⟨u2, rfl, HOE.out, grown_trans HG2.out HG.out (fun g hg => ?_), fun g hg => ?_⟩
      · rcases HV1.out g hg with h | h
        · exact .inl h
        · exact .inr (by omega)
      · rcases HV.out g hg with h | h
        · rcases HV1.out g h with h1 | h1
          · exact .inl h1
          · exact .inr (by omega)
        · exact .inr (by omega)
theorem ord_any {w0 : World} {A : Option Addr} {n c : Nat} {L : List Nd} (hN : Nr w0 A L) (hn : L.length = n) : ∀ (t : Tree) (o : Nat), Ok t → At L o t → OrdC w0 A n c ((o : Int) + size t - 1) (ord o t)
  | leaf x, o, hok, h => by
    have hx := at_leaf h
    have h0 : kids x = [] := hok
    have := ord_node w0 A n c o L x [] hN hn hx (by rw [h0]; rfl) (fun j k p hk _ => by rw [h0] at hk; simp at hk)
    rw [show (o : Int) + (size (leaf x) : Nat) - 1 = (o : Int) by show (o : Int) + ((1 : Nat) : Int) - 1 = _; omega]
    exact this
  | one x t, o, hok, h => by
    obtain ⟨g1, g2⟩ := at_one h
    obtain ⟨k1, k2⟩ := hok
    have ih := ord_any (c := c) hN hn t o k2 g1
    have hkk := kids_one (x := { x with a := (o : Int) + size t - 1 }) k1
    have := ord_node w0 A n c (o + size t) L _ [ord o t] hN hn g2 (by rw [hkk]; rfl) (fun j k p hk hp => by
      rw [hkk] at hk
      cases j with
      | zero => simp at hk hp; subst hk hp; exact ih
      | succ j => simp at hk)
    rw [show (o : Int) + (size (one x t) : Nat) - 1 = ((o + size t : Nat) : Int) by show (o : Int) + ((size t + 1 : Nat) : Int) - 1 = _; omega]
    have e : ((o + size t : Nat) : Int) :: [ord o t].flatten = ord o (one x t) := by simp [ord]
    rw [e] at this
    exact this
  | two x s t, o, hok, h => by
    obtain ⟨g1, g2, g3⟩ := at_two h
    obtain ⟨k1, k2, k3⟩ := hok
    have ih1 := ord_any (c := c) hN hn s o k2 g1
    have ih2 := ord_any (c := c) hN hn t (o + size s) k3 g2
    rw [show ((o + size s : Nat) : Int) + (size t : Nat) - 1 = (o : Int) + size s + size t - 1 by omega] at ih2
    have hkk := kids_two (x := { x with a := (o : Int) + size s - 1, b := (o : Int) + size s + size t - 1 }) k1
    have := ord_node w0 A n c (o + size s + size t) L _ [ord o s, ord (o + size s) t] hN hn g3 (by rw [hkk]; rfl) (fun j k p hk hp => by
      rw [hkk] at hk
      cases j with
      | zero => simp at hk hp; subst hk hp; exact ih1
      | succ j =>
        cases j with
        | zero => simp at hk hp; subst hk hp; exact ih2
        | succ j => simp at hk)
    rw [show (o : Int) + (size (two x s t) : Nat) - 1 = ((o + size s + size t : Nat) : Int) by show (o : Int) + ((size s + size t + 1 : Nat) : Int) - 1 = _; omega]
    have e : ((o + size s + size t : Nat) : Int) :: [ord o s, ord (o + size s) t].flatten = ord o (two x s t) := by simp [ord]
    rw [e] at this
    exact this
end Go.Proofs.Ytceeimolfalmpaa
