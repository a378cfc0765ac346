/-
  Where each node of a good tree begins, or that it is none (layout), of the program. Conditions: at most 20000 nodes, each with at most 1000000 ranges.
-/
import Derived.Test.YtceeimolfalmpaaVK
import Derived.Test.YtceeimolfalmpaaVM
namespace Go.Proofs.Ytceeimolfalmpaa
open Go.RowKit ObSets ObTree Go.Shelf ObTree.Tree
attribute [local go_sem] Oper.semAt_some

/-- What layout hands back. -/
def RetL (w : World) (L : List Nd) (n : Nat) (e : Ending) (w' : World) : Prop :=
  ∃ (v : Value) (q : Bool), e = .returned (.tuple #[v, .bool q]) ∧ (q = true ↔ GoodL L) ∧ (q = true → IntsAt w' v (fsts L n)) ∧ (∃ A k c, v = .slice A k c) ∧ Below w.heap.size w w'
/-- The frame's marks: of each a block that lies beyond B, none twice. -/
def Marks (B : Nat) (W : World) : List Deferred → Prop
  | [] => True
  | d :: ds => (∃ D, d = { target := .collected D, args := #[] } ∧ B ≤ D ∧ W.heap[D]? = some (.deferred (some [])) ∧ ∀ d' ∈ ds, d' ≠ { target := .collected D, args := #[] }) ∧ Marks B W ds
theorem Marks.keep {B : Nat} {W W' : World} : ∀ {ds : List Deferred}, Marks B W ds → (∀ D, B ≤ D → W.heap[D]? = some (.deferred (some [])) → ({ target := .collected D, args := #[] } : Deferred) ∈ ds → W'.heap[D]? = some (.deferred (some []))) → Marks B W' ds
  | [], _, _ => trivial
  | d :: ds, ⟨⟨D, e, h1, h2, h3⟩, h4⟩, hk => ⟨⟨D, e, h1, hk D h1 h2 (by rw [e]; simp), h3⟩, h4.keep fun D' a b c => hk D' a b (by simp [c])⟩
theorem Marks.lt {B : Nat} {W : World} : ∀ {ds : List Deferred}, Marks B W ds → ∀ D, ({ target := .collected D, args := #[] } : Deferred) ∈ ds → D < W.heap.size
  | [], _, D, h => by cases h
  | d :: ds, ⟨⟨D', e, _, h2, _⟩, h4⟩, D, h => by
    rcases List.mem_cons.1 h with h | h
    · rw [e] at h
      have : D = D' := by injection h with h _; injection h
      subst this
      exact (Array.getElem?_eq_some_iff.1 h2).1
    · exact h4.lt D h
theorem leaves_marks {F : Fence} {n : Nat} {fn : Func} {tmps : Array Value} {R : Ending → World → Prop} {B : Nat} : ∀ (ds : List Deferred) (W : World), Marks B W ds → B ≤ W.heap.size →
    (∀ W', Below B W W' → ∃ v, (results fn tmps).run Try.prog W' = .ok v W' ∧ R (.returned v) W') → LeavesInM F n Try.prog fn tmps R ds .returning W
  | [], W, _, _, h => h W (Below.refl _ _)
  | d :: ds, W, ⟨⟨D, e, h1, h2, h3⟩, h4⟩, hB, h => by
    have hg := grownBy_putObj' W D (.deferred none)
    have hb : Below B W (W.putObj D (.deferred none)) := (Below.refl B W).grown hg hB (fun k e => by injection e with e; omega)
    refine ⟨by simp, .inl ⟨D, _, by rw [e], run_takeDeferred h2, leaves_marks ds _ (h4.keep fun D' _ b c => ?_) (by have := hb.size; omega) (fun W' hW => h W' (hb.trans hW))⟩⟩
    have hne : D' ≠ D := fun ee => h3 _ c (by rw [ee])
    rw [hg.block D' (Array.getElem?_eq_some_iff.1 b).1 (fun ee => by injection ee with ee; exact hne ee)]
    exact b
/-- Where the tree begins that has been gone through. -/
def cur (L : List Nd) (i : Nat) (l : List Int) : Int := match l.getLast? with
  | none => (i : Int)
  | some k => fst L k
theorem cur_snoc (L : List Nd) (i : Nat) (l : List Int) (k : Int) : cur L i (l ++ [k]) = fst L k := by simp [cur]
/-- Does each one end right ahead of what has been gone through? -/
def OkB (L : List Nd) (i : Nat) (l : List Int) : Prop := ∀ (p : Nat) k, l[p]? = some k → k = cur L i (l.take p) - 1
theorem OkB.snoc {L : List Nd} {i : Nat} {l : List Int} {k : Int} (h : OkB L i l) (hk : k = cur L i l - 1) : OkB L i (l ++ [k]) := fun p y hy => by
  by_cases hp : p < l.length
  · rw [List.getElem?_append_left hp] at hy
    rw [List.take_append_of_le_length (by omega)]
    exact h p y hy
  · have hp1 := (List.getElem?_eq_some_iff.1 hy).1
    rw [List.length_append, List.length_singleton] at hp1
    obtain rfl : p = l.length := by omega
    rw [List.getElem?_append_right (Nat.le_refl _), Nat.sub_self] at hy
    injection hy with hy
    rw [List.take_append_of_le_length (Nat.le_refl _), List.take_length, ← hy]; exact hk
theorem okb_beh {L : List Nd} {i : Nat} {x : Nd} : OkB L i (kids x).reverse ↔ beh L i x := by
  by_cases k2 : x.kind = 5 ∨ x.kind = 6
  · rw [kids_two k2]
    have e : [x.a, x.b].reverse = [x.b, x.a] := rfl
    rw [e]
    unfold beh; rw [if_pos k2]
    have c0 : cur L i [] = (i : Int) := rfl
    have c1 : cur L i [x.b] = x.b + 1 - sz L x.b.toNat := rfl
    constructor
    · intro h
      have h0 := h 0 x.b rfl
      have h1 := h 1 x.a rfl
      simp only [List.take_zero] at h0
      rw [show [x.b, x.a].take 1 = [x.b] from rfl, c1] at h1
      rw [c0] at h0
      omega
    · intro h p k hp
      match p, hp with
      | 0, hp =>
        simp at hp; subst hp
        simp only [List.take_zero]; rw [c0]; exact h.1
      | 1, hp =>
        simp at hp; subst hp
        rw [show [x.b, x.a].take 1 = [x.b] from rfl, c1]; omega
      | p + 2, hp => simp at hp
  · by_cases k1 : x.kind = 7 ∨ x.kind = 8 ∨ x.kind = 9
    · rw [kids_one k1]
      have e : [x.a].reverse = [x.a] := rfl
      rw [e]
      unfold beh; rw [if_neg k2, if_pos k1]
      have c0 : cur L i [] = (i : Int) := rfl
      constructor
      · intro h
        have h0 := h 0 x.a rfl
        simp only [List.take_zero] at h0
        rw [c0] at h0
        omega
      · intro h p k hp
        match p, hp with
        | 0, hp =>
          simp at hp; subst hp
          simp only [List.take_zero]; rw [c0]; exact h
        | p + 1, hp => simp at hp
    · have h0 : kids x = [] := by unfold kids; rw [if_neg k2, if_neg k1]
      rw [h0]
      unfold beh; rw [if_neg k2, if_neg k1]
      exact ⟨fun _ => trivial, fun _ p k hp => by simp at hp⟩
theorem cur_fst {L : List Nd} {i : Nat} {x : Nd} (hx : L[i]? = some x) (hk : ∀ k ∈ kids x, 0 ≤ k ∧ k < (i : Int)) (hb : beh L i x) : cur L i (kids x).reverse = fst L (i : Int) := by
  unfold fst
  rw [Int.toNat_natCast]
  by_cases k2 : x.kind = 5 ∨ x.kind = 6
  · rw [kids_two k2] at hk ⊢
    unfold beh at hb; rw [if_pos k2] at hb
    have ka := hk x.a (by simp)
    have kb := hk x.b (by simp)
    show x.a + 1 - sz L x.a.toNat = _
    rw [sz_two hx k2 ka kb]; omega
  · by_cases k1 : x.kind = 7 ∨ x.kind = 8 ∨ x.kind = 9
    · rw [kids_one k1] at hk ⊢
      unfold beh at hb; rw [if_neg k2, if_pos k1] at hb
      have ka := hk x.a (by simp)
      show x.a + 1 - sz L x.a.toNat = _
      rw [sz_one hx k1 ka]; omega
    · have h0 : kids x = [] := by unfold kids; rw [if_neg k2, if_neg k1]
      rw [h0, sz_leaf hx h0]
      show (i : Int) = _
      omega
theorem fst_in {L : List Nd} {i : Nat} (hb : ∀ (j : Nat) x, j < i → L[j]? = some x → beh L j x) (hs : SoundTo L L.length) {k : Nat} (hk : k < i) (hi : i ≤ L.length) : 0 ≤ fst L (k : Int) ∧ fst L (k : Int) ≤ k := by
  obtain ⟨t, _, t2, t3, _⟩ := build (L := L) (k + 1) k (Nat.lt_succ_self _) (by omega) (fun m z hm hz => ⟨(hs m z (by omega) hz).2, hb m z (by omega) hz⟩)
  have := size_pos t
  unfold fst
  rw [Int.toNat_natCast]
  omega
/-- The row while a node is looked at. -/
def rowF (L : List Nd) (n i : Nat) (s : Int) : List Int := fsts L i ++ s :: List.replicate (n - i - 1) 0
theorem rowF_len (L : List Nd) {n i : Nat} (s : Int) (h : i < n) : (rowF L n i s).length = n := by unfold rowF; rw [List.length_append, fsts_len, List.length_cons, List.length_replicate]; omega
theorem rowF_self (L : List Nd) (n i : Nat) (s : Int) : (rowF L n i s)[i]? = some s := by
  unfold rowF
  rw [List.getElem?_append_right (by rw [fsts_len]; exact Nat.le_refl _), fsts_len, Nat.sub_self]; rfl
theorem rowF_ahead (L : List Nd) (n i : Nat) (s : Int) {k : Nat} (hk : k < i) : (rowF L n i s)[k]? = some (fst L (k : Int)) := by
  unfold rowF
  rw [List.getElem?_append_left (by rw [fsts_len]; exact hk), fsts_get L hk]
theorem rowF_set (L : List Nd) (n i : Nat) (s t : Int) : (ints (rowF L n i s)).set i (.int .i64 t) = ints (rowF L n i t) := by
  unfold rowF ints
  rw [← List.map_set, List.set_append_right _ _ (by rw [fsts_len]; exact Nat.le_refl _), fsts_len, Nat.sub_self]; rfl
theorem rowF_start (L : List Nd) (n i : Nat) (h : i < n) : fsts L i ++ List.replicate (n - i) 0 = rowF L n i 0 := by
  unfold rowF
  rw [show n - i = (n - i - 1) + 1 by omega, List.replicate_succ]; rfl
theorem rowF_next (L : List Nd) (n i : Nat) : rowF L n i (fst L (i : Int)) = fsts L (i + 1) ++ List.replicate (n - (i + 1)) 0 := by
  unfold rowF fsts
  rw [List.range_succ, List.map_append, List.append_assoc, show n - i - 1 = n - (i + 1) by omega]; rfl
theorem own_same {w w' : World} {base : Nat} {e : TypeId} {size : Nat} {g n cap : Nat} {xs : List Value} (h : w.ownsRow base e size (.slice (some ⟨g, 0, none⟩) n cap) n xs) (hk : w'.heap[g]? = w.heap[g]?) : w'.ownsRow base e size (.slice (some ⟨g, 0, none⟩) n cap) n xs := by
  refine ⟨h.1, ?_⟩
  rcases h.2 with h2 | ⟨g', cap', cur', hv, hb, hg, rest⟩
  · exact .inl h2
  · have hv2 := hv
    injection hv2 with e1
    injection e1 with e1
    injection e1 with e1
    subst e1
    exact .inr ⟨g, cap', cur', hv, hb, hk.trans hg, rest⟩
theorem own_cells {w : World} {base : Nat} {e : TypeId} {size : Nat} {g n cap : Nat} {xs : List Value} (h : w.ownsRow base e size (.slice (some ⟨g, 0, none⟩) n cap) n xs) {o : Obj} (ho : w.heap[g]? = some o) : o.isCells = true := by
  rcases h.2 with ⟨hv, _⟩ | ⟨g', cap', cur', hv, _, hg, _⟩
  · cases hv
  · injection hv with e1
    injection e1 with e1
    injection e1 with e1
    subst e1
    rw [hg] at ho; injection ho with ho; subst ho; rfl
theorem res1 (W : World) (a b : Nat) (h : a ≠ b) {u : Value} (hc : W.cell? ⟨a, 0, none⟩ = some u) (v z : Value) : ((W.setCell ⟨a, 0, none⟩ v).setCell ⟨b, 0, none⟩ z).cell? ⟨a, 0, none⟩ = some v :=
  (World.cell?_setCell_other _ _ _ _ (fun e => h (by injection e with e; first | exact e.symm | exact e))).trans (World.cell?_setCell_same' _ _ _ (by rw [hc]; rfl))
theorem set_same {W : World} {g : Nat} {u : Value} {t : TypeId} (h : W.heap[g]? = some (.cells #[u] t (0, 0))) (v : Value) : (W.setCell ⟨g, 0, none⟩ v).heap[g]? = some (.cells #[v] t (0, 0)) := by
  rw [Go.Sort.setCell_eq]
  simp [Go.Sort.mapBlock, Go.Sort.onCells, Array.getElem?_modify, h]
theorem res2 (W : World) (a b : Nat) (h : a ≠ b) {u : Value} (hc : W.cell? ⟨b, 0, none⟩ = some u) (v z : Value) : ((W.setCell ⟨a, 0, none⟩ v).setCell ⟨b, 0, none⟩ z).cell? ⟨b, 0, none⟩ = some z :=
  World.cell?_setCell_same' _ _ _ (by rw [World.cell?_setCell_other _ _ _ _ (fun e => by first | exact h (congrArg Addr.block e) | exact h (congrArg Addr.block e).symm), hc]; rfl)
set_option maxHeartbeats 4000000 in
set_option maxRecDepth 100000 in
theorem layout_any (A : Option Addr) (n c : Nat) (L : List Nd) (w : World) (hN : Nr w A L) (hn : L.length = n) (hnb : n ≤ 20000) (hs : ∀ x ∈ L, x.set.length ≤ 1000000) :
    Calls Try.prog 35 #[tr A n c] w (RetL w L n) := by
  have HN := Lib.hid hN; have HLN := Lib.hid hn; have HS := Lib.hid hs
  clear hN hn hs
  have hb0 := (((Below.refl w.heap.size w).alloc (Nat.le_refl _) (.cells #[.slice A n c] 24)).alloc (by simp) (.cells #[.slice none 0 0] 29)).alloc (by simp; omega) (.cells #[.bool false] 4)
  have HSO := Lib.hid (fun (W : World) (hW : Below w.heap.size w W) => tsound_any A n c L W (HN.out.below hW) HLN.out hnb HS.out)
  have G0 := Lib.hid (show ((((w.alloc (.cells #[.slice A n c] 24)).alloc (.cells #[.slice none 0 0] 29)).alloc (.cells #[.bool false] 4)).heap[w.heap.size]? = some (.cells #[.slice A n c] 24)) from keepL (keepL (heap_new w _) ((Below.refl _ _).alloc (Nat.le_refl _) _)) ((Below.refl _ _).alloc (Nat.le_refl _) _))
  have G1 := Lib.hid (show ((((w.alloc (.cells #[.slice A n c] 24)).alloc (.cells #[.slice none 0 0] 29)).alloc (.cells #[.bool false] 4)).heap[w.heap.size + 1]? = some (.cells #[.slice none 0 0] 29)) by
    have := keepL (heap_new (w.alloc (.cells #[.slice A n c] 24)) (.cells #[.slice none 0 0] 29)) ((Below.refl _ _).alloc (Nat.le_refl _) (.cells #[.bool false] 4))
    simpa using this)
  have G2 := Lib.hid (show ((((w.alloc (.cells #[.slice A n c] 24)).alloc (.cells #[.slice none 0 0] 29)).alloc (.cells #[.bool false] 4)).heap[w.heap.size + 2]? = some (.cells #[.bool false] 4)) by
    have := heap_new ((w.alloc (.cells #[.slice A n c] 24)).alloc (.cells #[.slice none 0 0] 29)) (.cells #[.bool false] 4)
    simpa using this)
  have hz : ((((w.alloc (.cells #[.slice A n c] 24)).alloc (.cells #[.slice none 0 0] 29)).alloc (.cells #[.bool false] 4))).heap.size = w.heap.size + 3 := by simp
  have HB0 := Lib.hid hb0
  clear hb0
  refine (callsIn_wide (n := 6)).1 ?_
  refine callsIn_of_wp_marks Try.func35 rfl trivial ?_ rfl
  simp only [Try.ntmps35, List.size_toArray, List.length_cons, List.length_nil, Nat.reduceAdd, Nat.reduceSub, Array.replicate_succ, Array.replicate_zero, List.push_toArray, List.append_toArray, List.nil_append, List.cons_append]
  gi_wp2_with fail
  refine ⟨trivial, ?_⟩
  refine (callsIn_wide.2 (HSO.out _ HB0.out)).mono ?_
  rintro e w1 ⟨q, rfl, hq, hb1⟩
  have HB1 := Lib.hid (HB0.out.trans (hb1.mono HB0.out.size))
  have H0 := Lib.hid (keepL G0.out hb1); have H1 := Lib.hid (keepL G1.out hb1); have H2 := Lib.hid (keepL G2.out hb1)
  obtain ⟨a0, _⟩ := obj29 H0.out
  have r1 := blk1 H1.out
  have f1 : w1.frozen? ⟨w.heap.size + 1, 0, none⟩ = false := by simp [World.frozen?, H1.out]
  have r2 := blk1 H2.out
  have f2 : w1.frozen? ⟨w.heap.size + 2, 0, none⟩ = false := by simp [World.frozen?, H2.out]
  have hw1 := hb1.size
  rw [hz] at hw1
  generalize ((w.alloc (.cells #[.slice A n c] 24)).alloc (.cells #[.slice none 0 0] 29)).alloc (.cells #[.bool false] 4) = W0 at *
  clear hb1
  cases q with
  | false =>
    have HNO := Lib.hid (show ¬ GoodL L from fun h => by have := hq.2 h.1; cases this)
    clear hq
    gi_wp2_with fail
    have hbf := (HB1.out.setCell (p := ⟨w.heap.size + 1, 0, none⟩) (by show w.heap.size ≤ w.heap.size + 1; omega) (.slice none 0 0)).setCell (p := ⟨w.heap.size + 1 + 1, 0, none⟩) (by show w.heap.size ≤ w.heap.size + 1 + 1; omega) (.bool false)
    refine leaves_marks (B := w.heap.size + 3) [] _ trivial (by simp [World.setCell]; omega) (fun W' hW => ⟨.tuple #[.slice none 0 0, .bool false], ?_, .slice none 0 0, false, rfl, iff_of_false Bool.noConfusion HNO.out, (fun h => by cases h), ⟨_, _, _, rfl⟩, hbf.trans (hW.mono (by omega))⟩)
    have k1 := (hW.cell (p := ⟨w.heap.size + 1, 0, none⟩) (by show w.heap.size + 1 < w.heap.size + 3; omega)).trans (res1 w1 (w.heap.size + 1) (w.heap.size + 1 + 1) (by omega) r1 (.slice none 0 0) (.bool false))
    have k2 := (hW.cell (p := ⟨w.heap.size + 1 + 1, 0, none⟩) (by show w.heap.size + 1 + 1 < w.heap.size + 3; omega)).trans (res2 w1 (w.heap.size + 1) (w.heap.size + 1 + 1) (by omega) r2 (.slice none 0 0) (.bool false))
    simp [results, Try.f35, go_sem, k1, k2]
  | true =>
    have HSD := Lib.hid (hq.1 rfl)
    clear hq
    obtain ⟨W1, hrun, hown, hg1⟩ := make_ints n w.heap.size w1 hnb (by omega)
    have HB2 := Lib.hid (HB1.out.trans (below_grown hg1 HB1.out.size (fun k hk => by cases hk)))
    have G10 := Lib.hid (keepG H0.out hg1 (fun k hk => by cases hk)); have G11 := Lib.hid (keepG H1.out hg1 (fun k hk => by cases hk)); have G12 := Lib.hid (keepG H2.out hg1 (fun k hk => by cases hk))
    obtain ⟨g, hg⟩ : ∃ g, w1.heap.size = g := ⟨_, rfl⟩
    rw [hg] at hrun hown
    have hgl := (hown.lt g rfl).2
    obtain ⟨fb, hfb⟩ : ∃ fb, W1.heap.size = fb := ⟨_, rfl⟩
    have hcg : (W1.alloc (.cells #[.slice (some ⟨g, 0, none⟩) n n] 29)).cell? ⟨w.heap.size, 0, none⟩ = some (.slice A n c) := blk1 (keepL G10.out ((Below.refl _ _).alloc (Nat.le_refl _) _))
    gi_wp2_with fail
    have HW2 := Lib.hid (HB2.out.alloc HB2.out.size (.cells #[.slice (some ⟨g, 0, none⟩) n n] 29))
    have G20 := Lib.hid (keepL G10.out ((Below.refl _ _).alloc (Nat.le_refl _) (.cells #[.slice (some ⟨g, 0, none⟩) n n] 29)))
    have G21 := Lib.hid (keepL G11.out ((Below.refl _ _).alloc (Nat.le_refl _) (.cells #[.slice (some ⟨g, 0, none⟩) n n] 29)))
    have G22 := Lib.hid (keepL G12.out ((Below.refl _ _).alloc (Nat.le_refl _) (.cells #[.slice (some ⟨g, 0, none⟩) n n] 29)))
    have G23 := Lib.hid (heap_new W1 (.cells #[.slice (some ⟨g, 0, none⟩) n n] 29))
    have HR2 := Lib.hid (hown.alloc (.cells #[.slice (some ⟨g, 0, none⟩) n n] 29))
    have hz2 : (W1.alloc (.cells #[.slice (some ⟨g, 0, none⟩) n n] 29)).heap.size = fb + 1 := by simp [hfb]
    rw [hfb] at G23 hgl
    generalize W1.alloc (.cells #[.slice (some ⟨g, 0, none⟩) n n] 29) = W2 at *
    have hgw : w.heap.size + 3 ≤ g := by omega
    clear hcg hown hg1 hrun G10 G11 G12 HB2 H0 H1 H2 a0 r1 f1 r2 f2
    refine wpIn_loop (fun a' wr => ∃ (i : Nat) (ds : List Deferred) (u5 u6 u7 u8 u10 u22 u23 u24 u25 u26 u27 u28 u29 u30 u31 u32 u33 u34 u35 u36 u37 u38 u39 u40 u41 u42 u43 u44 u45 u46 u47 u48 u49 u50 u51 u52 u53 u54 : Value), (i ≤ n ∧ Hid (wr.ownsRow w.heap.size 3 1 (.slice (some ⟨g, 0, none⟩) n n) n (ints (fsts L i ++ List.replicate (n - i) 0))) ∧ Hid (W2.grownBy wr (some g)) ∧ Hid (Marks (fb + 1) wr ds) ∧ Hid (∀ (j : Nat) x, j < i → L[j]? = some x → beh L j x)) ∧ a' = { tmps := #[tr A n c, .pointer (some ⟨w.heap.size, 0, none⟩), .pointer (some ⟨w.heap.size + 1, 0, none⟩), .pointer (some ⟨w.heap.size + 1 + 1, 0, none⟩), .pointer (some ⟨fb, 0, none⟩), u5, u6, u7, u8, undef, u10, .agg #[.slice A n c], .bool true, .bool false, .pointer (some ⟨w.heap.size, 0, none⟩), .slice A n c, .int .i64 (n : Int), .slice (some ⟨g, 0, none⟩) n n, .pointer (some ⟨w.heap.size, 0, none⟩), .slice A n c, .int .i64 (n : Int), .int .i64 (i : Int), u22, u23, u24, u25, u26, u27, u28, u29, u30, u31, u32, u33, u34, u35, u36, u37, u38, u39, u40, u41, u42, u43, u44, u45, u46, u47, u48, u49, u50, u51, u52, u53, u54, undef, undef, undef, undef, undef, undef], defers := ds })
      (fun a' _ => n - (intOf (a'.tmps.getD 21 undef)).toNat) ?_ ?_
    · refine ⟨0, [], undef, undef, undef, undef, undef, undef, undef, undef, undef, undef, undef, undef, undef, undef, undef, undef, undef, undef, undef, undef, undef, undef, undef, undef, undef, undef, undef, undef, undef, undef, undef, undef, undef, undef, undef, undef, undef, undef, ⟨Nat.zero_le _, Lib.hid ?_, Lib.hid (World.grownBy.refl _ _), Lib.hid trivial, Lib.hid (fun j x h => absurd h (Nat.not_lt_zero _))⟩, rfl⟩
      simpa [fsts] using HR2.out
    · rintro a' wr ⟨i, ds, u5, u6, u7, u8, u10, u22, u23, u24, u25, u26, u27, u28, u29, u30, u31, u32, u33, u34, u35, u36, u37, u38, u39, u40, u41, u42, u43, u44, u45, u46, u47, u48, u49, u50, u51, u52, u53, u54, ⟨hi, HR, HG, HM, HBH⟩, rfl⟩
      have hgs := HG.out.size
      have HB3 := Lib.hid (HW2.out.trans (below_grown HG.out HW2.out.size (fun k hk => by injection hk with hk; omega)))
      have K0 := Lib.hid (keepG G20.out HG.out (fun k hk => by injection hk with hk; omega))
      have K3 := Lib.hid (keepG G23.out HG.out (fun k hk => by injection hk with hk; omega))
      by_cases hin : i < n
      · have d1 : decide (i < n) = true := decide_eq_true hin
        have hin' : (i : Int) < (n : Int) := by omega
        obtain ⟨x, hx⟩ : ∃ x, L[i]? = some x := ⟨_, List.getElem?_eq_getElem (by rw [HLN.out]; exact hin)⟩
        obtain ⟨bb, off, rfl, hbl, hnd⟩ := nr_at HN.out hx
        obtain ⟨As, ks, ⟨c0, c1, c2, c3, c4, c5, c6⟩, hrg⟩ := hnd.below hbl HB3.out
        obtain ⟨sl, hsl⟩ : ∃ sl, x.set.length = sl := ⟨_, rfl⟩
        rw [hsl] at c3
        have HX := Lib.hid hx
        have HKIN := Lib.hid ((HSD.out.2.1 i x (by rw [HLN.out]; exact hin) hx).2)
        have hA : Below wr.heap.size wr ((wr.alloc (.cells #[.int .i64 (i : Int)] 3)).alloc (.cells #[.int .i64 x.kind, .int .i64 x.a, .int .i64 x.b, .slice As sl ks, .int .i64 x.mn, .int .i64 x.mx, .int .i64 x.n] 35)) := ((Below.refl _ _).alloc (Nat.le_refl _) _).alloc (by simp) _
        have hzA : ((wr.alloc (.cells #[.int .i64 (i : Int)] 3)).alloc (.cells #[.int .i64 x.kind, .int .i64 x.a, .int .i64 x.b, .slice As sl ks, .int .i64 x.mn, .int .i64 x.mx, .int .i64 x.n] 35)).heap.size = wr.heap.size + 2 := by simp
        have hfs : (fsts L i ++ List.replicate (n - i) 0)[i]? = some 0 := by
          rw [List.getElem?_append_right (by rw [fsts_len]; exact Nat.le_refl _), fsts_len, Nat.sub_self]
          rw [List.getElem?_replicate, if_pos (by omega)]
        have hRA := S.own_below HR.out hA
        obtain ⟨eg, fg, _, _⟩ := own_cell hRA hfs
        have hRB := own_put hRA i (.int .i64 (i : Int))
        have e3 : ((wr.alloc (.cells #[.int .i64 (i : Int)] 3)).alloc (.cells #[.int .i64 x.kind, .int .i64 x.a, .int .i64 x.b, .slice As sl ks, .int .i64 x.mn, .int .i64 x.mx, .int .i64 x.n] 35)).cell? ⟨fb, 0, none⟩ = some (.slice (some ⟨g, 0, none⟩) n n) := (hA.cell (p := ⟨fb, 0, none⟩) (by show fb < wr.heap.size; omega)).trans (blk1 K3.out)
        have hI0 := heap_new wr (.cells #[.int .i64 (i : Int)] 3)
        have hI1 := keepL hI0 ((Below.refl _ _).alloc (Nat.le_refl _) (.cells #[.int .i64 x.kind, .int .i64 x.a, .int .i64 x.b, .slice As sl ks, .int .i64 x.mn, .int .i64 x.mx, .int .i64 x.n] 35))
        have ei : ((wr.alloc (.cells #[.int .i64 (i : Int)] 3)).alloc (.cells #[.int .i64 x.kind, .int .i64 x.a, .int .i64 x.b, .slice As sl ks, .int .i64 x.mn, .int .i64 x.mx, .int .i64 x.n] 35)).cell? ⟨wr.heap.size, 0, none⟩ = some (.int .i64 (i : Int)) := blk1 hI1
        have hNB := heap_new (wr.alloc (.cells #[.int .i64 (i : Int)] 3)) (.cells #[.int .i64 x.kind, .int .i64 x.a, .int .i64 x.b, .slice As sl ks, .int .i64 x.mn, .int .i64 x.mx, .int .i64 x.n] 35)
        rw [World.size_alloc] at hNB
        have hgA : ((wr.alloc (.cells #[.int .i64 (i : Int)] 3)).alloc (.cells #[.int .i64 x.kind, .int .i64 x.a, .int .i64 x.b, .slice As sl ks, .int .i64 x.mn, .int .i64 x.mx, .int .i64 x.n] 35)).grownBy (((wr.alloc (.cells #[.int .i64 (i : Int)] 3)).alloc (.cells #[.int .i64 x.kind, .int .i64 x.a, .int .i64 x.b, .slice As sl ks, .int .i64 x.mn, .int .i64 x.mx, .int .i64 x.n] 35)).setCell ⟨g, i, none⟩ (.int .i64 (i : Int))) (some g) := grown_set0 _ g i _
        have HNB := Lib.hid (keepG hNB hgA (fun k hk => by injection hk with hk; omega))
        have HI2 := Lib.hid (keepG hI1 hgA (fun k hk => by injection hk with hk; omega))
        obtain ⟨⟨b0, b1, b2, b3, b4, b5, b6⟩, _⟩ := blk7 HNB.out
        have HRB := Lib.hid hRB
        have HGB := Lib.hid (show W2.grownBy (((wr.alloc (.cells #[.int .i64 (i : Int)] 3)).alloc (.cells #[.int .i64 x.kind, .int .i64 x.a, .int .i64 x.b, .slice As sl ks, .int .i64 x.mn, .int .i64 x.mx, .int .i64 x.n] 35)).setCell ⟨g, i, none⟩ (.int .i64 (i : Int))) (some g) from grown_trans HG.out (grown_trans (below_grownBy (r := some g) hA) hgA (fun k hk => .inl hk)) (fun k hk => .inl hk))
        have hzB : (((wr.alloc (.cells #[.int .i64 (i : Int)] 3)).alloc (.cells #[.int .i64 x.kind, .int .i64 x.a, .int .i64 x.b, .slice As sl ks, .int .i64 x.mn, .int .i64 x.mx, .int .i64 x.n] 35)).setCell ⟨g, i, none⟩ (.int .i64 (i : Int))).heap.size = wr.heap.size + 2 := by rw [← hzA]; simp [World.setCell]
        have HMB := Lib.hid (HM.out.keep (W' := ((wr.alloc (.cells #[.int .i64 (i : Int)] 3)).alloc (.cells #[.int .i64 x.kind, .int .i64 x.a, .int .i64 x.b, .slice As sl ks, .int .i64 x.mn, .int .i64 x.mx, .int .i64 x.n] 35)).setCell ⟨g, i, none⟩ (.int .i64 (i : Int))) (fun D hD h1 hd => by
          have hlt := HM.out.lt D hd
          have hne : some g ≠ some D := fun e => by
            injection e with e
            subst e
            rcases HR.out.2 with ⟨hv, _⟩ | ⟨g', cap, cur, hv, _, hg', _⟩
            · cases hv
            · injection hv with e1; injection e1 with e1; injection e1 with e1; subst e1; rw [hg'] at h1; cases h1
          exact (hgA.block D (by rw [hzA]; omega) (fun e => hne e.symm)).trans ((hA.block D hlt).trans h1)))
        obtain ⟨p, q, kl, hkv, hkl, hkl2, hp0, hp1⟩ := kidV_see x
        have HKO := Lib.hid (fun (W : World) => kidsof_any x (.slice As sl ks) ⟨_, _, _, rfl⟩ W)
        rw [hkv] at HKO
        have HKL := Lib.hid hkl; have HP0 := Lib.hid hp0; have HP1 := Lib.hid hp1
        have hgi : (i : Int) < (n : Int) := hin'
        clear hnd hrg hsl hx hkv hkl hp0 hp1 hRA hRB hI0 hI1 hNB hgA hfs
        gi_wp2_with fail
        refine ⟨trivial, ?_⟩
        refine (callsIn_wide.2 (HKO.out _)).mono ?_
        rintro e w5 ⟨rfl, hb5⟩
        have hw5 := hb5.size
        rw [hzB] at hw5
        have HR5 := Lib.hid (S.own_below HRB.out hb5)
        have HG5 := Lib.hid (grown_trans HGB.out (below_grownBy (r := some g) hb5) (fun k hk => .inl hk))
        have HM5 := Lib.hid (HMB.out.keep (W' := w5) (fun D hD h1 hd => (hb5.block D (HMB.out.lt D hd)).trans h1))
        have HI5 := Lib.hid (keepL HI2.out hb5)
        clear hb5 b0 b1 b2 b3 b4 b5 b6 eg fg e3 ei hA
        have hsl2 := slice2 w5.heap.size kl hkl2
        gi_wp2_with fail
        refine ⟨trivial, ?_⟩
        refine (back_in Fence.wide _ trivial rfl _ _ _ _).mono ?_
        rintro e w7 ⟨rfl, rfl⟩
        gi_wp2_with fail
        have hA5 : Below w5.heap.size w5 ((w5.alloc (.cells #[.int .i64 p, .int .i64 q] 63)).alloc (.cells #[.slice (some ⟨w5.heap.size, 0, none⟩) kl 2] 29)) := ((Below.refl _ _).alloc (Nat.le_refl _) _).alloc (by simp) _
        have HRS := Lib.hid (S.own_below HR5.out hA5)
        have HGS := Lib.hid (grown_trans HG5.out (below_grownBy (r := some g) hA5) (fun k hk => .inl hk))
        have HMS := Lib.hid (HM5.out.keep (W' := ((w5.alloc (.cells #[.int .i64 p, .int .i64 q] 63)).alloc (.cells #[.slice (some ⟨w5.heap.size, 0, none⟩) kl 2] 29))) (fun D hD h1 hd => (hA5.block D (HM5.out.lt D hd)).trans h1))
        have HIS := Lib.hid (keepL HI5.out hA5)
        have hK0 := keepL (heap_new w5 (.cells #[.int .i64 p, .int .i64 q] 63)) ((Below.refl _ _).alloc (Nat.le_refl _) (.cells #[.slice (some ⟨w5.heap.size, 0, none⟩) kl 2] 29))
        have hK1 := heap_new (w5.alloc (.cells #[.int .i64 p, .int .i64 q] 63)) (.cells #[.slice (some ⟨w5.heap.size, 0, none⟩) kl 2] 29)
        rw [World.size_alloc] at hK1
        have hzS : ((w5.alloc (.cells #[.int .i64 p, .int .i64 q] 63)).alloc (.cells #[.slice (some ⟨w5.heap.size, 0, none⟩) kl 2] 29)).heap.size = w5.heap.size + 2 := by simp
        generalize ((w5.alloc (.cells #[.int .i64 p, .int .i64 q] 63)).alloc (.cells #[.slice (some ⟨w5.heap.size, 0, none⟩) kl 2] 29)) = Ws at *
        obtain ⟨kb, hkb⟩ : ∃ kb, w5.heap.size = kb := ⟨_, rfl⟩
        rw [hkb] at hK0 hK1 hzS hw5 ⊢
        have HC := Lib.hid (show ∀ (j : Nat) (z : Int), (kids x)[j]? = some z → Ws.cell? ⟨kb, j, none⟩ = some (.int .i64 z) from fun j z hz => by
          have hj : j < kl := by rw [← HKL.out]; exact (List.getElem?_eq_some_iff.1 hz).1
          obtain ⟨t0, t1⟩ := two_cell hK0
          rcases (show j = 0 ∨ j = 1 by omega) with rfl | rfl
          · rw [HP0.out (by omega)] at hz; injection hz with hz; rw [← hz]; exact t0
          · rw [HP1.out (by omega)] at hz; injection hz with hz; rw [← hz]; exact t1)
        have HK1 := Lib.hid (blk1 hK1)
        have hS5 : W2.heap.size ≤ Ws.heap.size := HGS.out.size
        have HBS := Lib.hid (HW2.out.trans (below_grown HGS.out HW2.out.size (fun k hk => by injection hk with hk; omega)))
        have F0 := Lib.hid (keepG G20.out HGS.out (fun k hk => by injection hk with hk; omega))
        have F1 := Lib.hid (keepG G21.out HGS.out (fun k hk => by injection hk with hk; omega))
        have F2 := Lib.hid (keepG G22.out HGS.out (fun k hk => by injection hk with hk; omega))
        have F3 := Lib.hid (keepG G23.out HGS.out (fun k hk => by injection hk with hk; omega))
        have hn0 : 0 < (n : Int) := by omega
        have hrow : (ints (fsts L i ++ List.replicate (n - i) 0)).set i (.int .i64 (i : Int)) = ints (rowF L n i (i : Int)) := by rw [rowF_start L n i hin, rowF_set]
        have hR0 := HRS.out
        rw [hrow] at hR0
        have HFI := Lib.hid (fun (k : Nat) (hk : k < i) => fst_in (L := L) (i := i) HBH.out (by rw [HLN.out]; have := HSD.out.2.1; rw [HLN.out] at this; exact this) hk (by rw [HLN.out]; exact hi))
        have hfk : ∀ (k : Nat) z, k < kl → (kids x)[kl - 1 - k]? = some z → (fun y : {y : Int × Int // 0 ≤ y.2 ∧ y.2 < (n : Int)} => #[Value.int .i64 y.1.1, Value.int .i64 y.1.2]) ((fun k : Nat => if h : 0 ≤ (kids x)[kl - 1 - k]?.getD 0 ∧ (kids x)[kl - 1 - k]?.getD 0 < (n : Int) then ⟨(((kl - 1 - k : Nat) : Int), (kids x)[kl - 1 - k]?.getD 0), h⟩ else ⟨(0, 0), Int.le_refl _, hn0⟩) k) = #[.int .i64 ((kl - 1 - k : Nat) : Int), .int .i64 z] := fun k z _ hz => by
          have hr := HKIN.out z (List.mem_of_getElem? hz)
          dsimp only
          rw [hz]
          rw [dif_pos (by show 0 ≤ z ∧ z < (n : Int); omega)]
          rfl
        have HSEQ := Lib.hid (back_stops (fun y : {y : Int × Int // 0 ≤ y.2 ∧ y.2 < (n : Int)} => #[Value.int .i64 y.1.1, Value.int .i64 y.1.2]) (fun k : Nat => if h : 0 ≤ (kids x)[kl - 1 - k]?.getD 0 ∧ (kids x)[kl - 1 - k]?.getD 0 < (n : Int) then ⟨(((kl - 1 - k : Nat) : Int), (kids x)[kl - 1 - k]?.getD 0), h⟩ else ⟨(0, 0), Int.le_refl _, hn0⟩) Fence.wide (6 - 1) trivial rfl (by omega) (kb + 1) g Ws.heap.size kb 2 kl (kids x) HKL.out (by omega) Ws (by omega) (by omega) (by omega) (by omega) (Nat.le_refl _) HK1.out HC.out hfk)
        have HUP := Lib.hid (show ∀ k, k ≤ kl → (upto (fun k : Nat => (if h : 0 ≤ (kids x)[kl - 1 - k]?.getD 0 ∧ (kids x)[kl - 1 - k]?.getD 0 < (n : Int) then ⟨(((kl - 1 - k : Nat) : Int), (kids x)[kl - 1 - k]?.getD 0), h⟩ else ⟨(0, 0), Int.le_refl _, hn0⟩ : {y : Int × Int // 0 ≤ y.2 ∧ y.2 < (n : Int)})) k).map (fun y => y.1.2) = (kids x).reverse.take k from fun k hk => by
          apply List.ext_getElem?
          intro j
          by_cases hj : j < k
          · have hjl : kl - 1 - j < (kids x).length := by rw [HKL.out]; omega
            obtain ⟨z, hz⟩ : ∃ z, (kids x)[kl - 1 - j]? = some z := ⟨_, List.getElem?_eq_getElem hjl⟩
            have hr := HKIN.out z (List.mem_of_getElem? hz)
            unfold upto
            rw [List.getElem?_map, List.getElem?_map, List.getElem?_range hj, List.getElem?_take_of_lt hj, List.getElem?_reverse (by rw [HKL.out]; omega), HKL.out, hz, Option.map_some, Option.map_some]
            rw [hz]
            rw [dif_pos (by show 0 ≤ z ∧ z < (n : Int); omega)]
            rfl
          · rw [List.getElem?_eq_none (by rw [List.length_map, upto_len]; omega), List.getElem?_eq_none (by rw [List.length_take]; omega)])
        clear hfk hrow hkb hK0 hA5 hsl2
        have HR0 := Lib.hid hR0
        clear hR0
        refine wpIn_rangeFunc_ownG rfl (by omega) (gf := 61) (lb := #[.pointer (some ⟨kb + 1, 0, none⟩)]) rfl trivial (enters_of Try.func61 (by kernel_rfl) rfl) HSEQ.out KpG.trans (kpG_b (Nat.le_refl _)) (Below.refl _ _) (fun _ => rfl)
          (fun pre W => (OkB L i (pre.map fun y => y.1.2) ∧ 0 ≤ cur L i (pre.map fun y => y.1.2) ∧ cur L i (pre.map fun y => y.1.2) ≤ (i : Int)) ∧ (W.ownsRow w.heap.size 3 1 (.slice (some ⟨g, 0, none⟩) n n) n (ints (rowF L n i (cur L i (pre.map fun y => y.1.2)))) ∧ KpG g Ws.heap.size Ws W ∧ Below w.heap.size w W))
          (fun cc pre W => (cc = .ret ∧ ∃ ps y, pre = ps ++ [y] ∧ OkB L i (ps.map fun y => y.1.2) ∧ y.1.2 ≠ cur L i (ps.map fun y => y.1.2) - 1) ∧ (W.heap[w.heap.size + 1]? = some (.cells #[.slice none 0 0] 29) ∧ W.heap[w.heap.size + 1 + 1]? = some (.cells #[.bool false] 4) ∧ (∀ k, w.heap.size + 3 ≤ k → k < Ws.heap.size → k ≠ g → W.heap[k]? = Ws.heap[k]?) ∧ Below w.heap.size w W))
          ?hI ?hIx ?h0 (fun y => { tmps := #[tr (some ⟨bb, off, none⟩) n c, .pointer (some ⟨w.heap.size, 0, none⟩), .pointer (some ⟨w.heap.size + 1, 0, none⟩), .pointer (some ⟨w.heap.size + 1 + 1, 0, none⟩), .pointer (some ⟨fb, 0, none⟩), .pointer (some ⟨wr.heap.size, 0, none⟩), .pointer (some ⟨wr.heap.size + 1, 0, none⟩), .pointer (some ⟨kb, 0, none⟩), .int .i64 (kl : Int), undef, .int .i64 y.1.2, .agg #[.slice (some ⟨bb, off, none⟩) n c], .bool true, .bool false, .pointer (some ⟨w.heap.size, 0, none⟩), .slice (some ⟨bb, off, none⟩) n c, .int .i64 (n : Int), .slice (some ⟨g, 0, none⟩) n n, .pointer (some ⟨w.heap.size, 0, none⟩), .slice (some ⟨bb, off, none⟩) n c, .int .i64 (n : Int), .int .i64 (i : Int), .bool true, .int .i64 (i : Int), .pointer (some ⟨bb, off + i * 7, none⟩), .agg #[.int .i64 x.kind, .int .i64 x.a, .int .i64 x.b, .slice As sl ks, .int .i64 x.mn, .int .i64 x.mx, .int .i64 x.n], .slice (some ⟨g, 0, none⟩) n n, .int .i64 (i : Int), .int .i64 (i : Int), .pointer (some ⟨g, i, none⟩), .tuple #[.agg #[.int .i64 p, .int .i64 q], .int .i64 (kl : Int)], .agg #[.int .i64 x.kind, .int .i64 x.a, .int .i64 x.b, .slice As sl ks, .int .i64 x.mn, .int .i64 x.mx, .int .i64 x.n], .tuple #[.agg #[.int .i64 p, .int .i64 q], .int .i64 (kl : Int)], .agg #[.int .i64 p, .int .i64 q], .int .i64 (kl : Int), .int .i64 (kl : Int), .slice (some ⟨kb, 0, none⟩) kl 2, .func (.func 61) #[] #[.pointer (some ⟨kb + 1, 0, none⟩)], .int .i64 y.1.1, .int .i64 y.1.2, u40, u41, u42, u43, u44, u45, u46, u47, u48, u49, u50, u51, u52, u53, u54, undef, undef, undef, undef, undef, undef], defers := [] }) ?assign ?body ?done ?stop
        case hI =>
          intro pre A B row hs hg hr
          obtain ⟨s1, s2, s3, s4⟩ := hs
          refine ⟨s1, own_same s2 (hg.block g (s2.lt g rfl).2 (fun e => ?_)), s3.trans ⟨hg.size, fun k hk hn => hg.block k ?_ (fun e => ?_)⟩, s4.grown hg ?_ (fun k hk => ?_)⟩
          · obtain ⟨_, o, ho, hc⟩ := hr g e.symm
            rw [own_cells s2 ho] at hc; cases hc
          · have := s3.1; omega
          · have := (hr k e.symm).1; omega
          · have := s4.size; omega
          · have := (hr k hk).1; omega
        case hIx =>
          intro cc pre A B row hs hg hr
          obtain ⟨s1, s2, s3, s4, s5⟩ := hs
          have l1 := (Array.getElem?_eq_some_iff.1 s2).1
          have l2 := (Array.getElem?_eq_some_iff.1 s3).1
          refine ⟨s1, (hg.block _ l1 (fun e => ?_)).trans s2, (hg.block _ l2 (fun e => ?_)).trans s3, fun k h1 h2 h3 => ?_, s5.grown hg ?_ (fun k hk => ?_)⟩
          · have := (hr _ e.symm).1; omega
          · have := (hr _ e.symm).1; omega
          · have e4 := s4 k h1 h2 h3
            have hlt : k < A.heap.size := by
              rw [Array.getElem?_eq_getElem h2] at e4
              exact (Array.getElem?_eq_some_iff.1 e4).1
            exact (hg.block k hlt (fun e => by have := (hr k e.symm).1; omega)).trans e4
          · have := s5.size; omega
          · have := (hr k hk).1; omega
        case h0 =>
          exact ⟨⟨fun p k hp => by simp at hp, by show (0 : Int) ≤ (i : Int); omega, by show (i : Int) ≤ (i : Int); omega⟩, HR0.out, KpG.refl _ _ _, HBS.out⟩
        case assign =>
          intro l y W K hK
          gi_wp2
          exact hK
        case body =>
          rintro l pre ⟨⟨y1, y2⟩, hy1, hy2⟩ W ⟨⟨ho, hc0, hc1⟩, hR, hK, hB⟩ hlt
          dsimp only at hy1 hy2
          have HPL := Lib.hid (show ∀ z, (pre ++ [(⟨(y1, y2), hy1, hy2⟩ : {y : Int × Int // 0 ≤ y.2 ∧ y.2 < (n : Int)})]).map (fun y => y.1.2) = pre.map (fun y => y.1.2) ++ [z] ↔ y2 = z from fun z => by simp)
          obtain ⟨pl, hpl⟩ : ∃ pl, pre.map (fun y => y.1.2) = pl := ⟨_, rfl⟩
          rw [hpl] at ho hc0 hc1 hR HPL
          obtain ⟨cv, hcv⟩ : ∃ cv, cur L i pl = cv := ⟨_, rfl⟩
          rw [hcv] at hc0 hc1 hR
          have hgW := (hR.lt g rfl).2
          have kf := (hK.cell (p := ⟨fb, 0, none⟩) (by show fb < Ws.heap.size; omega) (by show fb ≠ g; omega)).trans (blk1 F3.out)
          have ki := (hK.cell (p := ⟨wr.heap.size, 0, none⟩) (by show wr.heap.size < Ws.heap.size; omega) (by show wr.heap.size ≠ g; omega)).trans (blk1 HIS.out)
          obtain ⟨kg, kfr, _, _⟩ := own_cell hR (rowF_self L n i cv)
          by_cases hy : y2 = cv - 1
          · obtain ⟨m, rfl⟩ := Int.eq_ofNat_of_zero_le hy1
            have hmi : m < i := by omega
            have hmn : (m : Int) < (n : Int) := by omega
            obtain ⟨km, _, _, _⟩ := own_cell hR (rowF_ahead L n i cv hmi)
            have e9 : ((m : Int) != cv - 1) = false := by rw [bne_eq_false_iff_eq]; exact hy
            have HYE := Lib.hid hy
            clear hy
            have HI9 := Lib.hid (show (OkB L i (pl ++ [(m : Int)]) ∧ 0 ≤ cur L i (pl ++ [(m : Int)]) ∧ cur L i (pl ++ [(m : Int)]) ≤ (i : Int)) from ⟨ho.snoc (by rw [hcv]; exact HYE.out), by rw [cur_snoc]; exact (HFI.out m hmi).1, by rw [cur_snoc]; have := (HFI.out m hmi).2; omega⟩)
            have hRp := own_put hR i (.int .i64 (fst L (m : Int)))
            rw [rowF_set] at hRp
            have HRp := Lib.hid (show (W.setCell ⟨g, i, none⟩ (.int .i64 (fst L (m : Int)))).drew.ownsRow w.heap.size 3 1 (.slice (some ⟨g, 0, none⟩) n n) n (ints (rowF L n i (cur L i (pl ++ [(m : Int)])))) by rw [cur_snoc]; exact S.own_below hRp (Below.refl _ _).drew)
            have HKp := Lib.hid (show KpG g Ws.heap.size Ws (W.setCell ⟨g, i, none⟩ (.int .i64 (fst L (m : Int)))).drew from hK.trans ⟨by simp [World.setCell], fun k _ hn => (grown_set1 W g i _).block k (by have := hK.1; omega) (fun e => by injection e with e; exact hn e)⟩)
            have HKq := Lib.hid (show KpG g Ws.heap.size W (W.setCell ⟨g, i, none⟩ (.int .i64 (fst L (m : Int)))).drew from ⟨by simp [World.setCell], fun k _ hn => (grown_set1 W g i _).block k (by have := hK.1; omega) (fun e => by injection e with e; exact hn e)⟩)
            have HBp := Lib.hid (show Below w.heap.size w (W.setCell ⟨g, i, none⟩ (.int .i64 (fst L (m : Int)))).drew from (hB.setCell (p := ⟨g, i, none⟩) (by show w.heap.size ≤ g; omega) _).drew)
            clear hRp ho
            gi_wp2
            gi_region
            all_goals gi_wp2
            all_goals (refine ⟨((KeepsOthers.setCell _ _ _).trans (KeepsOthers.drew _)).from _, HKq.out, ?_⟩; have e0 := (HPL.out (m : Int)).2 rfl; show (OkB L i _ ∧ 0 ≤ cur L i _ ∧ cur L i _ ≤ (i : Int)) ∧ _ ∧ _ ∧ _; rw [e0]; exact ⟨HI9.out, HRp.out, HKp.out, HBp.out⟩)
          · have e9 : (y2 != cv - 1) = true := by rw [bne_iff_ne]; exact hy
            have q1 := (hK.cell (p := ⟨w.heap.size + 1, 0, none⟩) (by show w.heap.size + 1 < Ws.heap.size; omega) (by show w.heap.size + 1 ≠ g; omega)).trans (blk1 F1.out)
            have q2 := (hK.cell (p := ⟨w.heap.size + 1 + 1, 0, none⟩) (by show w.heap.size + 1 + 1 < Ws.heap.size; omega) (by show w.heap.size + 1 + 1 ≠ g; omega)).trans (blk1 F2.out)
            have q3 : W.frozen? ⟨w.heap.size + 1, 0, none⟩ = false := by simp [World.frozen?, (hK.2 (w.heap.size + 1) (by omega) (by omega)).trans F1.out]
            have q4 : W.frozen? ⟨w.heap.size + 1 + 1, 0, none⟩ = false := by simp [World.frozen?, (hK.2 (w.heap.size + 1 + 1) (by omega) (by omega)).trans F2.out]
            have HPR := Lib.hid ho
            rw [← hcv] at hy
            have HYN := Lib.hid hy
            clear hy ho
            gi_wp2
            refine ⟨((KeepsOthers.setCell _ _ _).trans (KeepsOthers.setCell _ _ _)).from _, ⟨rfl, pre, _, rfl, by rw [hpl]; exact HPR.out, by rw [hpl]; exact HYN.out⟩, ?_, ?_, fun k h1 h2 h3 => ?_, ?_⟩
            · exact (Below.heap_setCell _ _ _ _ (by show w.heap.size + 1 ≠ w.heap.size + 1 + 1; omega)).trans (set_same ((hK.2 (w.heap.size + 1) (by omega) (by omega)).trans F1.out) _)
            · exact set_same ((Below.heap_setCell _ _ _ _ (by show w.heap.size + 1 + 1 ≠ w.heap.size + 1; omega)).trans ((hK.2 (w.heap.size + 1 + 1) (by omega) (by omega)).trans F2.out)) _
            · exact (Below.heap_setCell _ _ _ _ (by show k ≠ w.heap.size + 1 + 1; omega)).trans ((Below.heap_setCell _ _ _ _ (by show k ≠ w.heap.size + 1; omega)).trans (hK.2 k h2 h3))
            · exact (hB.setCell (p := ⟨w.heap.size + 1, 0, none⟩) (by show w.heap.size ≤ w.heap.size + 1; omega) _).setCell (p := ⟨w.heap.size + 1 + 1, 0, none⟩) (by show w.heap.size ≤ w.heap.size + 1 + 1; omega) _
        case done =>
          rintro D ys W hD rfl ⟨⟨ho, hc0, hc1⟩, hR, hK, hB⟩ hDf
          rw [HUP.out kl (Nat.le_refl _), List.take_of_length_le (by rw [List.length_reverse, HKL.out]; exact Nat.le_refl _)] at ho hc0 hc1 hR
          have HBX := Lib.hid ((okb_beh (x := x)).1 ho)
          rw [cur_fst HX.out HKIN.out HBX.out, rowF_next] at hR
          have HRF := Lib.hid hR
          have HGF := Lib.hid (show W2.grownBy W (some g) from ⟨hB.os.trans HW2.out.os.symm, hB.tape.trans HW2.out.tape.symm, hB.output.trans HW2.out.output.symm, Nat.le_trans hS5 hK.1, fun k hk hn => (hK.2 k (Nat.lt_of_lt_of_le hk hS5) (fun e => hn (by rw [e]))).trans (HGS.out.block k hk hn)⟩)
          have HMF := Lib.hid (show Marks (fb + 1) W ({ target := .collected D, args := #[] } :: ds) from ⟨⟨D, rfl, by omega, hDf, fun d' hd' e => by
            subst e
            have := HMS.out.lt D hd'
            omega⟩, HMS.out.keep (fun D' hD' h1 hd' => (hK.2 D' (HMS.out.lt D' hd') (fun e => by
            subst e
            have := own_cells HRS.out h1
            cases this)).trans h1)⟩)
          have HBF := Lib.hid (show ∀ (j : Nat) y, j < i + 1 → L[j]? = some y → beh L j y from fun j y hj hy => by
            by_cases hji : j < i
            · exact HBH.out j y hji hy
            · obtain rfl : j = i := by omega
              rw [HX.out] at hy; injection hy with hy; subst hy; exact HBX.out)
          clear ho hc0 hc1 hR
          gi_wp2
          refine ⟨⟨i + 1, { target := .collected D, args := #[] } :: ds, _, _, _, _, _, _, _, _, _, _, _, _, _, _, _, _, _, _, _, _, _, _, _, _, _, _, _, _, _, _, _, _, _, _, _, _, _, _, ⟨hin, HRF, HGF, HMF, HBF⟩, rfl⟩, ?_⟩
          simp [intOf]; omega
        case stop =>
          rintro D cc pre W hD ⟨k, hk, rfl⟩ ⟨⟨rfl, ps, y, e1, e2, e3⟩, hr1, hr2, hkp, hB⟩ hDf
          have HMF := Lib.hid (show Marks (fb + 1) W ({ target := .collected D, args := #[] } :: ds) from ⟨⟨D, rfl, by omega, hDf, fun d' hd' e => by
            subst e
            have := HMS.out.lt D hd'
            omega⟩, HMS.out.keep (fun D' hD' h1 hd' => (hkp D' (by omega) (HMS.out.lt D' hd') (fun e => by
            subst e
            have := own_cells HRS.out h1
            cases this)).trans h1)⟩)
          have HNO := Lib.hid (show ¬ GoodL L from fun h => by
            have hb := (beh_all (by rw [HLN.out]; exact hnb) HSD.out.2.1).1 h.2.1 i x HX.out
            have ho := (okb_beh (x := x)).2 hb
            have em := HUP.out k hk
            rw [e1, List.map_append, List.map_cons, List.map_nil] at em
            have hlt : (ps.map fun y => y.1.2).length < k := by
              have := congrArg List.length em
              rw [List.length_append, List.length_take] at this
              simp only [List.length_singleton] at this
              omega
            have g1 : (kids x).reverse[(ps.map fun y => y.1.2).length]? = some y.1.2 := by
              rw [← List.getElem?_take_of_lt hlt, ← em, List.getElem?_append_right (Nat.le_refl _), Nat.sub_self]; rfl
            have g2 : (kids x).reverse.take (ps.map fun y => y.1.2).length = ps.map fun y => y.1.2 := by
              have : ((kids x).reverse.take k).take (ps.map fun y => y.1.2).length = ps.map fun y => y.1.2 := by
                rw [← em, List.take_append_of_le_length (Nat.le_refl _), List.take_length]
              rw [List.take_take, Nat.min_eq_left (by omega)] at this; exact this
            have := ho _ _ g1
            rw [g2] at this
            exact e3 this)
          gi_wp2
          refine leaves_marks (B := fb + 1) _ _ HMF.out (by have := (Array.getElem?_eq_some_iff.1 hDf).1; omega) (fun W' hW => ⟨.tuple #[.slice none 0 0, .bool false], ?_, .slice none 0 0, false, rfl, iff_of_false Bool.noConfusion HNO.out, (fun h => by cases h), ⟨_, _, _, rfl⟩, hB.trans (hW.mono (by omega))⟩)
          have k1 := (hW.cell (p := ⟨w.heap.size + 1, 0, none⟩) (by show w.heap.size + 1 < fb + 1; omega)).trans (blk1 hr1)
          have k2 := (hW.cell (p := ⟨w.heap.size + 1 + 1, 0, none⟩) (by show w.heap.size + 1 + 1 < fb + 1; omega)).trans (blk1 hr2)
          simp [results, Try.f35, go_sem, k1, k2]
      · have d1 : decide (i < n) = false := decide_eq_false hin
        obtain rfl : i = n := by omega
        have hR := HR.out
        rw [Nat.sub_self, List.replicate_zero, List.append_nil] at hR
        have HRF := Lib.hid hR
        have HBL := Lib.hid ((beh_all (by rw [HLN.out]; exact hnb) HSD.out.2.1).2 (fun j y hy => HBH.out j y (by rw [← HLN.out]; exact (List.getElem?_eq_some_iff.1 hy).1) hy))
        obtain ⟨t, hok, hL⟩ := flat_of (by rw [HLN.out]; exact hnb) HSD.out HBL.out
        obtain ⟨hgp, hgs2⟩ := groups_of hok hL
        rw [HLN.out] at hgp
        have hsort : ((ord 0 t).filter (isCap L)).Pairwise fun a b => ¬ ahd (fsts L i) b a := by
          refine List.Pairwise.imp_of_mem (fun {a b} ha hb hab => ?_) hgs2
          have za := idx_in 8 L i a (hgp.subset ha)
          have zb := idx_in 8 L i b (hgp.subset hb)
          unfold ahd
          rw [fsts_get L (show a.toNat < i by omega), fsts_get L (show b.toNat < i by omega)]
          rw [show ((a.toNat : Nat) : Int) = a by omega, show ((b.toNat : Nat) : Int) = b by omega]
          simp only [Option.getD_some]
          omega
        have F0 := Lib.hid (keepG G20.out HG.out (fun k hk => by injection hk with hk; omega))
        have F1 := Lib.hid (keepG G21.out HG.out (fun k hk => by injection hk with hk; omega))
        have F2 := Lib.hid (keepG G22.out HG.out (fun k hk => by injection hk with hk; omega))
        have F3 := Lib.hid (keepG G23.out HG.out (fun k hk => by injection hk with hk; omega))
        have HNUM := Lib.hid (numbered_any A i c i g L (fsts L i) ((ord 0 t).filter (isCap L)) wr (HN.out.below HB3.out) HLN.out hnb (fsts_len L i) (by omega) (fun j z hz => (own_cell HRF.out hz).1) hgp hsort)
        have HGI := Lib.hid (good_iff hok hL HSD.out HBL.out)
        have HCEL := Lib.hid (fun (j : Nat) z (hz : (fsts L i)[j]? = some z) => (own_cell HRF.out hz).1)
        have k0 := blk1 F0.out
        have k3 := blk1 F3.out
        clear hgp hgs2 hsort hok hL hR
        gi_wp2_with fail
        refine ⟨trivial, ?_⟩
        refine (callsIn_wide.2 HNUM.out).mono ?_
        rintro e w8 ⟨q, rfl, hq, hb8⟩
        have HB8 := Lib.hid (HB3.out.trans (hb8.mono HB3.out.size))
        have L1 := Lib.hid (keepL F1.out hb8)
        have L2 := Lib.hid (keepL F2.out hb8)
        have L3 := Lib.hid (keepL F3.out hb8)
        have HM8 := Lib.hid (HM.out.keep (W' := w8) (fun D hD h1 hd => (hb8.block D (HM.out.lt D hd)).trans h1))
        have HC8 := Lib.hid (fun (j : Nat) z (hz : (fsts L i)[j]? = some z) => (hb8.cell (p := ⟨g, j, none⟩) (by show g < wr.heap.size; omega)).trans (HCEL.out j z hz))
        have hw8 := hb8.size
        have r1 := blk1 L1.out
        have f1 : w8.frozen? ⟨w.heap.size + 1, 0, none⟩ = false := by simp [World.frozen?, L1.out]
        have r2 := blk1 L2.out
        have f2 : w8.frozen? ⟨w.heap.size + 1 + 1, 0, none⟩ = false := by simp [World.frozen?, L2.out]
        have r3 := blk1 L3.out
        clear hb8 k0 k3
        cases q with
        | false =>
          have HNO := Lib.hid (show ¬ GoodL L from fun h => by have := hq.2 (HGI.out.1 h); cases this)
          clear hq
          gi_wp2_with fail
          have hbf := (HB8.out.setCell (p := ⟨w.heap.size + 1, 0, none⟩) (by show w.heap.size ≤ w.heap.size + 1; omega) (.slice none 0 0)).setCell (p := ⟨w.heap.size + 1 + 1, 0, none⟩) (by show w.heap.size ≤ w.heap.size + 1 + 1; omega) (.bool false)
          have hkeep : ∀ k, fb + 1 ≤ k → ((w8.setCell ⟨w.heap.size + 1, 0, none⟩ (.slice none 0 0)).setCell ⟨w.heap.size + 1 + 1, 0, none⟩ (.bool false)).heap[k]? = w8.heap[k]? := fun k hk => (Below.heap_setCell _ _ _ _ (by show k ≠ w.heap.size + 1 + 1; omega)).trans (Below.heap_setCell _ _ _ _ (by show k ≠ w.heap.size + 1; omega))
          refine leaves_marks (B := fb + 1) _ _ (HM8.out.keep fun D hD h1 _ => (hkeep D hD).trans h1) (by simp [World.setCell]; omega) (fun W' hW => ⟨.tuple #[.slice none 0 0, .bool false], ?_, .slice none 0 0, false, rfl, iff_of_false Bool.noConfusion HNO.out, (fun h => by cases h), ⟨_, _, _, rfl⟩, hbf.trans (hW.mono (by omega))⟩)
          have k1 := (hW.cell (p := ⟨w.heap.size + 1, 0, none⟩) (by show w.heap.size + 1 < fb + 1; omega)).trans (res1 w8 (w.heap.size + 1) (w.heap.size + 1 + 1) (by omega) r1 (.slice none 0 0) (.bool false))
          have k2 := (hW.cell (p := ⟨w.heap.size + 1 + 1, 0, none⟩) (by show w.heap.size + 1 + 1 < fb + 1; omega)).trans (res2 w8 (w.heap.size + 1) (w.heap.size + 1 + 1) (by omega) r2 (.slice none 0 0) (.bool false))
          simp [results, Try.f35, go_sem, k1, k2]
        | true =>
          have HYES := Lib.hid (HGI.out.2 (hq.1 rfl))
          clear hq
          gi_wp2_with fail
          have hbf := (HB8.out.setCell (p := ⟨w.heap.size + 1, 0, none⟩) (by show w.heap.size ≤ w.heap.size + 1; omega) (.slice (some ⟨g, 0, none⟩) i i)).setCell (p := ⟨w.heap.size + 1 + 1, 0, none⟩) (by show w.heap.size ≤ w.heap.size + 1 + 1; omega) (.bool true)
          have hkeep : ∀ k, w.heap.size + 3 ≤ k → ((w8.setCell ⟨w.heap.size + 1, 0, none⟩ (.slice (some ⟨g, 0, none⟩) i i)).setCell ⟨w.heap.size + 1 + 1, 0, none⟩ (.bool true)).heap[k]? = w8.heap[k]? := fun k hk => (Below.heap_setCell _ _ _ _ (by show k ≠ w.heap.size + 1 + 1; omega)).trans (Below.heap_setCell _ _ _ _ (by show k ≠ w.heap.size + 1; omega))
          refine leaves_marks (B := fb + 1) _ _ (HM8.out.keep fun D hD h1 _ => (hkeep D (by omega)).trans h1) (by simp [World.setCell]; omega) (fun W' hW => ⟨.tuple #[.slice (some ⟨g, 0, none⟩) i i, .bool true], ?_, .slice (some ⟨g, 0, none⟩) i i, true, rfl, iff_of_true rfl HYES.out, (fun _ => ⟨some ⟨g, 0, none⟩, i, by rw [fsts_len], fun j z hz => ⟨g, 0, rfl, ?_, ?_⟩⟩), ⟨_, _, _, rfl⟩, hbf.trans (hW.mono (by omega))⟩)
          · have k1 := (hW.cell (p := ⟨w.heap.size + 1, 0, none⟩) (by show w.heap.size + 1 < fb + 1; omega)).trans (res1 w8 (w.heap.size + 1) (w.heap.size + 1 + 1) (by omega) r1 (.slice (some ⟨g, 0, none⟩) i i) (.bool true))
            have k2 := (hW.cell (p := ⟨w.heap.size + 1 + 1, 0, none⟩) (by show w.heap.size + 1 + 1 < fb + 1; omega)).trans (res2 w8 (w.heap.size + 1) (w.heap.size + 1 + 1) (by omega) r2 (.slice (some ⟨g, 0, none⟩) i i) (.bool true))
            simp [results, Try.f35, go_sem, k1, k2]
          · have := hW.size
            simp only [World.setCell, Array.size_modify] at this
            omega
          · rw [Nat.zero_add]
            refine (hW.cell (p := ⟨g, j, none⟩) (by show g < fb + 1; omega)).trans ?_
            have e := hkeep g hgw
            exact (show World.cell? _ _ = w8.cell? ⟨g, j, none⟩ by simp only [World.cell?, e]).trans (HC8.out j z hz)
end Go.Proofs.Ytceeimolfalmpaa
