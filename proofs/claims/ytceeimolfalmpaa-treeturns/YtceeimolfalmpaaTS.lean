/-
  Whether a row of nodes is a good tree (Good), of the page's own. Conditions: at most 20000 nodes, each with at most 1000000 ranges.
-/
import Derived.Test.YtceeimolfalmpaaTR
namespace Go.Proofs.Ytceeimolfalmpaa
open Go.RowKit ObSets ObTree ObTree.Tree

/-- The number of a group that stands at a place. -/
def capAt (L : List Nd) (i : Int) : Option Int := match L[i.toNat]? with
  | some x => if x.kind = 8 then some x.n else none
  | none => none
def capsOf (L : List Nd) (l : List Int) : List Int := l.filterMap (capAt L)
/-- Have the groups the numbers 1, 2, .. in this order? -/
def NumOk (L : List Nd) (l : List Int) : Prop := ∀ (p : Nat) (v : Int), (capsOf L l)[p]? = some v → v = (p : Int) + 1
/-- Is a row of nodes a good tree? -/
def GoodL (L : List Nd) : Prop := SoundL L ∧ BehL L ∧ ∀ t, Ok t → L = flat 0 t → NumOk L (ord 0 t)
theorem caps_no {L : List Nd} {os : List Int} {i : Nat} {z : Int} (h : os[i]? = some z) (hc : capAt L z = none) : capsOf L (os.take (i + 1)) = capsOf L (os.take i) := by
  unfold capsOf
  rw [List.take_add_one, h, Option.toList_some, List.filterMap_append, List.filterMap_cons, hc]
  simp
theorem caps_yes {L : List Nd} {os : List Int} {i : Nat} {z v : Int} (h : os[i]? = some z) (hc : capAt L z = some v) : capsOf L (os.take (i + 1)) = capsOf L (os.take i) ++ [v] := by
  unfold capsOf
  rw [List.take_add_one, h, Option.toList_some, List.filterMap_append, List.filterMap_cons, hc]
  simp
theorem caps_le (L : List Nd) (l : List Int) : (capsOf L l).length ≤ l.length := List.length_filterMap_le _ _
theorem caps_pre (L : List Nd) (os : List Int) (i : Nat) {p : Nat} {v : Int} (h : (capsOf L (os.take i))[p]? = some v) : (capsOf L os)[p]? = some v := by
  have e : capsOf L os = capsOf L (os.take i) ++ capsOf L (os.drop i) := by
    unfold capsOf
    rw [← List.filterMap_append, List.take_append_drop]
  rw [e, List.getElem?_append_left (List.getElem?_eq_some_iff.1 h).1]; exact h
/-- Two trees that end at one place of a row are one. -/
theorem ord_uniq {L : List Nd} : ∀ (s t : Tree) (o o' : Nat), Ok s → Ok t → At L o s → At L o' t → o + size s = o' + size t → size s = size t ∧ ord o s = ord o' t
  | leaf x, leaf y, o, o', _, _, _, _, e => by
    have e' : o + 1 = o' + 1 := e
    obtain rfl : o = o' := by omega
    exact ⟨rfl, rfl⟩
  | leaf x, one y t, o, o', hs, ht, h1, h2, e => by
    have e' : o + 1 = o' + (size t + 1) := e
    have g1 := at_leaf h1
    have g2 := (at_one h2).2
    rw [show o' + size t = o by omega, g1] at g2
    injection g2 with g2
    have k1 : kids x = [] := hs
    rw [g2, kids_one (x := { y with a := (o' : Int) + size t - 1 }) ht.1] at k1
    cases k1
  | leaf x, two y t u, o, o', hs, ht, h1, h2, e => by
    have e' : o + 1 = o' + (size t + size u + 1) := e
    have g1 := at_leaf h1
    have g2 := (at_two h2).2.2
    rw [show o' + size t + size u = o by omega, g1] at g2
    injection g2 with g2
    have k1 : kids x = [] := hs
    rw [g2, kids_two (x := { y with a := (o' : Int) + size t - 1, b := (o' : Int) + size t + size u - 1 }) ht.1] at k1
    cases k1
  | one x s, leaf y, o, o', hs, ht, h1, h2, e => by
    have e' : o + (size s + 1) = o' + 1 := e
    have g1 := at_leaf h2
    have g2 := (at_one h1).2
    rw [show o + size s = o' by omega, g1] at g2
    injection g2 with g2
    have k1 : kids y = [] := ht
    rw [g2, kids_one (x := { x with a := (o : Int) + size s - 1 }) hs.1] at k1
    cases k1
  | one x s, one y t, o, o', hs, ht, h1, h2, e => by
    have e' : o + (size s + 1) = o' + (size t + 1) := e
    obtain ⟨i1, i2⟩ := ord_uniq s t o o' hs.2 ht.2 (at_one h1).1 (at_one h2).1 (by omega)
    obtain rfl : o = o' := by omega
    exact ⟨by show size s + 1 = size t + 1; omega, by show ((o : Int) + size s) :: ord o s = ((o : Int) + size t) :: ord o t; rw [i1, i2]⟩
  | one x s, two y t u, o, o', hs, ht, h1, h2, e => by
    have e' : o + (size s + 1) = o' + (size t + size u + 1) := e
    have g1 := (at_one h1).2
    have g2 := (at_two h2).2.2
    rw [show o' + size t + size u = o + size s by omega, g1] at g2
    injection g2 with g2
    have k1 : x.kind = y.kind := by
      have := congrArg Nd.kind g2
      exact this
    have k2 := hs.1
    have k3 := ht.1
    omega
  | two x s u, leaf y, o, o', hs, ht, h1, h2, e => by
    have e' : o + (size s + size u + 1) = o' + 1 := e
    have g1 := at_leaf h2
    have g2 := (at_two h1).2.2
    rw [show o + size s + size u = o' by omega, g1] at g2
    injection g2 with g2
    have k1 : kids y = [] := ht
    rw [g2, kids_two (x := { x with a := (o : Int) + size s - 1, b := (o : Int) + size s + size u - 1 }) hs.1] at k1
    cases k1
  | two x s u, one y t, o, o', hs, ht, h1, h2, e => by
    have e' : o + (size s + size u + 1) = o' + (size t + 1) := e
    have g1 := (at_one h2).2
    have g2 := (at_two h1).2.2
    rw [show o + size s + size u = o' + size t by omega, g1] at g2
    injection g2 with g2
    have k1 : y.kind = x.kind := by
      have := congrArg Nd.kind g2
      exact this
    have k2 := hs.1
    have k3 := ht.1
    omega
  | two x s u, two y t v, o, o', hs, ht, h1, h2, e => by
    have e' : o + (size s + size u + 1) = o' + (size t + size v + 1) := e
    obtain ⟨i1, i2⟩ := ord_uniq u v _ _ hs.2.2 ht.2.2 (at_two h1).2.1 (at_two h2).2.1 (by omega)
    obtain ⟨i3, i4⟩ := ord_uniq s t o o' hs.2.1 ht.2.1 (at_two h1).1 (at_two h2).1 (by omega)
    obtain rfl : o = o' := by omega
    refine ⟨by show size s + size u + 1 = size t + size v + 1; omega, ?_⟩
    show ((o : Int) + size s + size u) :: (ord o s ++ ord (o + size s) u) = ((o : Int) + size t + size v) :: (ord o t ++ ord (o + size t) v)
    rw [i3, i1, i4, ← i2, i3]
theorem ord_same {s t : Tree} (hs : Ok s) (ht : Ok t) (h : flat 0 s = flat 0 t) : ord 0 s = ord 0 t := by
  have e : size s = size t := by rw [← flat_len s 0, h, flat_len]
  refine (ord_uniq (L := flat 0 s) s t 0 0 hs ht (At.whole s) (by rw [h]; exact At.whole t) (by rw [e])).2
set_option maxHeartbeats 4000000 in
set_option maxRecDepth 100000 in
theorem good_any (A : Option Addr) (n c : Nat) (L : List Nd) (w : World) (hN : Nr w A L) (hn : L.length = n) (hnb : n ≤ 20000) (hs : ∀ x ∈ L, x.set.length ≤ 1000000) :
    Calls Try.prog 26 #[tr A n c] w (RetB w (GoodL L)) := by
  have HN := Lib.hid hN; have HLN := Lib.hid hn; have HS := Lib.hid hs
  clear hN hn hs
  have ha0 := (Below.refl w.heap.size w).alloc (Nat.le_refl _) (.cells #[.slice A n c] 24)
  have hz : (w.alloc (.cells #[.slice A n c] 24)).heap.size = w.heap.size + 1 := by simp
  have hGA := heap_new w (.cells #[.slice A n c] 24)
  go_enter Try.func26, Try.ntmps26
  go_upto_region 1 with fail
  generalize w.alloc (.cells #[.slice A n c] 24) = W0 at *
  have HSO := Lib.hid (sound_any A n c L W0 (HN.out.below ha0) HLN.out hnb HS.out)
  have HA0 := Lib.hid ha0
  have HO0 := Lib.hid hGA
  obtain ⟨a0, _⟩ := obj29 hGA
  clear hGA ha0
  go_wp2_with fail
  refine HSO.out.mono ?_
  rintro e w1 ⟨q, rfl, hq, hb1⟩
  have HB1 := Lib.hid (HA0.out.trans (hb1.mono HA0.out.size))
  have HO1 := Lib.hid (keepL HO0.out hb1)
  obtain ⟨o1, _⟩ := obj29 HO1.out
  have hw1 := hb1.size
  clear hb1 a0
  cases q with
  | false =>
    have HNO := Lib.hid (show ¬ GoodL L from fun h => by have := hq.2 h.1; cases this)
    clear hq
    go_wp2_with fail
    go_ret
    exact ⟨false, rfl, iff_of_false Bool.noConfusion HNO.out, HB1.out⟩
  | true =>
    have HSD := Lib.hid (hq.1 rfl)
    clear hq
    have HBE := Lib.hid (behind_any A n c L w1 (HN.out.below HB1.out) HLN.out hnb (fun j x hx => (HSD.out.2.1 j x (List.getElem?_eq_some_iff.1 hx).1 hx).2))
    go_wp2_with fail
    refine HBE.out.mono ?_
    rintro e w2 ⟨q, rfl, hq, hb2⟩
    have HB2 := Lib.hid (HB1.out.trans (hb2.mono HB1.out.size))
    have HO2 := Lib.hid (keepL HO1.out hb2)
    obtain ⟨o2, _⟩ := obj29 HO2.out
    have hw2 := hb2.size
    clear hb2 o1
    cases q with
    | false =>
      have HNO := Lib.hid (show ¬ GoodL L from fun h => by have := hq.2 h.2.1; cases this)
      clear hq
      go_wp2_with fail
      go_ret
      exact ⟨false, rfl, iff_of_false Bool.noConfusion HNO.out, HB2.out⟩
    | true =>
      have HBD := Lib.hid (hq.1 rfl)
      clear hq
      obtain ⟨t, hok, hL⟩ := flat_of (by rw [HLN.out]; exact hnb) HSD.out HBD.out
      have hsz : size t = n := by rw [← flat_len t 0, ← hL]; exact HLN.out
      have h0 : 1 ≤ n := by rw [← hsz]; exact size_pos t
      obtain ⟨os, hos⟩ : ∃ os, ord 0 t = os := ⟨_, rfl⟩
      have hol : os.length = n := by rw [← hos, ord_len]; exact hsz
      have hin : ∀ z ∈ os, 0 ≤ z ∧ z < (n : Int) := fun z hz => by have := ord_in t 0 z (by rw [hos]; exact hz); rw [hsz] at this; omega
      have hord := ord_any (c := c) HN.out HLN.out t 0 hok (by rw [hL]; exact At.whole t) [] (.slice none 0 0) w2 HB2.out (World.ownsRow_nil _ _ _ _) (fun g hg => by cases hg) (by rw [hos, hol]; simp; omega)
      rw [hos, hsz, show ((0 : Nat) : Int) + (n : Int) - 1 = (n : Int) - 1 by omega, List.nil_append] at hord
      have HORD := Lib.hid hord
      have HGD := Lib.hid (show GoodL L ↔ NumOk L os from ⟨fun h => by rw [← hos]; exact h.2.2 t hok hL, fun h => ⟨HSD.out, HBD.out, fun u hu he => by rw [ord_same hu hok (by rw [← he, ← hL]), hos]; exact h⟩⟩)
      have HOL := Lib.hid hol; have HIN := Lib.hid hin
      clear hord hok hL hsz hos hol hin
      have hn0 : ((n : Int) == 0) = false := beq_eq_false_iff_ne.2 (by omega)
      go_wp2_with fail
      refine HORD.out.mono ?_
      rintro e w5 ⟨v5, rfl, ho5, hg5, hv5⟩
      have hb5 : Below w2.heap.size w2 w5 := ⟨hg5.os, hg5.tape, hg5.output, hg5.size, fun k hk => hg5.block k hk (by simp [Value.ownBlock])⟩
      obtain ⟨A5, k5, rfl, hsee⟩ := row_see ho5
      rw [HOL.out]
      have HSEE := Lib.hid hsee
      have HB5 := Lib.hid (HB2.out.trans (hb5.mono HB2.out.size))
      have HO5 := Lib.hid (keepL HO2.out hb5)
      have hz5 := hb5.size
      clear ho5 hg5 hv5 hb5 hsee o2
      go_wp2_with fail
      go_loopw [4, 5] (fun tn ti wr => ∃ i : Nat, ti = .int .i64 (i : Int) ∧ i ≤ n ∧ tn = .int .i64 ((capsOf L (os.take i)).length : Int) ∧ Hid (NumOk L (os.take i)) ∧ Hid (Below w5.heap.size w5 wr)) (fun _ ti _ => n - (intOf ti).toNat)
      case atStart => exact ⟨0, rfl, Nat.zero_le _, rfl, Lib.hid (fun p v h => by simp [capsOf] at h), Lib.hid (Below.refl _ _)⟩
      case round =>
        obtain ⟨i, rfl, hi, rfl, HK, HG⟩ := hrel
        have hgs := HG.out.size
        have HO6 := Lib.hid (keepL HO5.out HG.out)
        obtain ⟨o0, _⟩ := obj29 HO6.out
        have HB6 := Lib.hid (HB5.out.trans (HG.out.mono HB5.out.size))
        by_cases hin : i < n
        · have d1 : decide (i < n) = true := decide_eq_true hin
          have hin' : (i : Int) < (n : Int) := by omega
          obtain ⟨z, hz'⟩ : ∃ z, os[i]? = some z := ⟨_, List.getElem?_eq_getElem (by rw [HOL.out]; exact hin)⟩
          have hzr := HIN.out z (List.mem_of_getElem? hz')
          obtain ⟨zn, rfl⟩ := Int.eq_ofNat_of_zero_le hzr.1
          have hzn : zn < n := by omega
          obtain ⟨g5, rfl, q1, q2, q3⟩ := HSEE.out i _ hz'
          have q4 := (HG.out.cell (p := ⟨g5, i, none⟩) q2).trans q3
          obtain ⟨x, hx⟩ : ∃ x, L[zn]? = some x := ⟨_, List.getElem?_eq_getElem (by rw [HLN.out]; exact hzn)⟩
          obtain ⟨bb, off, rfl, hbl, hnd⟩ := nr_at HN.out hx
          obtain ⟨As, ks, ⟨c0, c1, c2, c3, c4, c5, c6⟩, _⟩ := hnd.below hbl HB6.out
          have hE := (Below.refl wr.heap.size wr).alloc (Nat.le_refl _) (.cells #[.int .i64 0, .int .i64 0, .int .i64 0, .slice none 0 0, .int .i64 0, .int .i64 0, .int .i64 0] 35)
          have hbw : bb < wr.heap.size := by have := HB6.out.size; omega
          have m0 := (hE.cell (p := ⟨w.heap.size, 0, none⟩) (by show w.heap.size < wr.heap.size; omega)).trans o0
          have mq := (hE.cell (p := ⟨g5, i, none⟩) (by show g5 < wr.heap.size; omega)).trans q4
          have m1 := (hE.cell (p := ⟨bb, _, none⟩) hbw).trans c0
          have m2 := (hE.cell (p := ⟨bb, _, none⟩) hbw).trans c1
          have m3 := (hE.cell (p := ⟨bb, _, none⟩) hbw).trans c2
          have m4 := (hE.cell (p := ⟨bb, _, none⟩) hbw).trans c3
          have m5 := (hE.cell (p := ⟨bb, _, none⟩) hbw).trans c4
          have m6 := (hE.cell (p := ⟨bb, _, none⟩) hbw).trans c5
          have m7 := (hE.cell (p := ⟨bb, _, none⟩) hbw).trans c6
          clear hE
          have hcl := caps_le L (os.take i)
          rw [List.length_take] at hcl
          have hcl2 : (capsOf L (os.take i)).length ≤ 20000 := by omega
          have hznn : (zn : Int) < (n : Int) := by omega
          by_cases h8 : x.kind = 8
          · have e8 : (x.kind == 8) = true := by simp [h8]
            have hcap : capAt L (zn : Int) = some x.n := by unfold capAt; rw [Int.toNat_natCast, hx]; dsimp only; rw [if_pos h8]
            have HCY := Lib.hid (caps_yes hz' hcap)
            obtain ⟨cn, hcn⟩ : ∃ cn, (capsOf L (os.take i)).length = cn := ⟨_, rfl⟩
            rw [hcn] at hcl2 ⊢
            have HCN := Lib.hid hcn
            by_cases he : x.n = (cn : Int) + 1
            · have e9 : (x.n != (cn : Int) + 1) = false := by rw [bne_eq_false_iff_eq]; exact he
              have HK2 := Lib.hid (show NumOk L (os.take (i + 1)) from fun p v hp => by
                rw [HCY.out] at hp
                by_cases hpc : p < cn
                · rw [List.getElem?_append_left (by rw [HCN.out]; exact hpc)] at hp
                  exact HK.out p v hp
                · have hp1 := (List.getElem?_eq_some_iff.1 hp).1
                  rw [List.length_append, HCN.out] at hp1
                  simp at hp1
                  obtain rfl : p = cn := by omega
                  rw [List.getElem?_append_right (by rw [HCN.out]; exact Nat.le_refl _), HCN.out, Nat.sub_self] at hp
                  injection hp with hp
                  rw [← hp]; exact he)
              clear hz' hx hnd hcap hcn he q3 h8
              go_wp2_with fail
              go_region
              go_wp2_with fail
              go_roundw
              case rel => exact ⟨i + 1, congrArg (Value.int .i64) (by omega), hin, congrArg (Value.int .i64) (by rw [HCY.out, List.length_append, HCN.out]; rfl), HK2, Lib.hid (HG.out.trans (((Below.refl w5.heap.size wr).alloc hgs _).drew))⟩
              case measure => simp [intOf]; omega
            · have e9 : (x.n != (cn : Int) + 1) = true := by rw [bne_iff_ne]; exact he
              have HNO := Lib.hid (show ¬ GoodL L from fun h => by
                have h2 := HGD.out.1 h cn x.n (caps_pre L os (i + 1) (by rw [HCY.out, List.getElem?_append_right (by rw [HCN.out]; exact Nat.le_refl _), HCN.out, Nat.sub_self]; rfl))
                exact he h2)
              clear hz' hx hnd hcap hcn he q3 h8
              go_wp2_with fail
              go_region
              go_wp2_with fail
              go_ret
              exact ⟨false, rfl, iff_of_false Bool.noConfusion HNO.out, HB6.out.trans (((Below.refl w.heap.size wr).alloc HB6.out.size _).drew)⟩
          · have e8 : (x.kind == 8) = false := beq_eq_false_iff_ne.2 h8
            have hcap : capAt L (zn : Int) = none := by unfold capAt; rw [Int.toNat_natCast, hx]; dsimp only; rw [if_neg h8]
            have HCY := Lib.hid (caps_no hz' hcap)
            have HK2 := Lib.hid (show NumOk L (os.take (i + 1)) by unfold NumOk; rw [HCY.out]; exact HK.out)
            obtain ⟨cn, hcn⟩ : ∃ cn, (capsOf L (os.take i)).length = cn := ⟨_, rfl⟩
            have HCN := Lib.hid hcn
            rw [hcn] at hcl2 ⊢
            clear hz' hx hnd hcap hcn q3 h8
            go_wp2_with fail
            go_region
            go_wp2_with fail
            go_roundw
            case rel => exact ⟨i + 1, congrArg (Value.int .i64) (by omega), hin, congrArg (Value.int .i64) (by rw [HCY.out, HCN.out]), HK2, Lib.hid (HG.out.trans (((Below.refl w5.heap.size wr).alloc hgs _).drew))⟩
            case measure => simp [intOf]; omega
        · have d1 : decide (i < n) = false := decide_eq_false hin
          have HYES := Lib.hid (HGD.out.2 (by have := HK.out; rw [List.take_of_length_le (by rw [HOL.out]; omega)] at this; exact this))
          go_wp2_with fail
          go_ret
          exact ⟨true, rfl, iff_of_true rfl HYES.out, HB6.out⟩
end Go.Proofs.Ytceeimolfalmpaa
