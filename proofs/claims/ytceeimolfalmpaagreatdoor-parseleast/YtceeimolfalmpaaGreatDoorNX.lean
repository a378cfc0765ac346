/-
  Which nodes a row of words is parsed to: what holds of each node that is put holds of all. Plain.
  Two trees held against each other by the statements (EqNode, EqTree). Conditions: at most 20000 nodes, each with at most 1000000 ranges.
  What both Parse answer, in one form; so asks answers true for every text of at most 1000 bytes. Condition: the two tables of unicode/utf8 lie as their text lays them.
-/
import Derived.Test.YtceeimolfalmpaaGreatDoorQY
import Derived.Test.YtceeimolfalmpaaGreatDoorQZ
import Derived.Deep.RegionHeld3
import Derived.Test.YtceeimolfalmpaaGreatDoorNH
import Derived.Test.YtceeimolfalmpaaGreatDoorEB
namespace ObParse
open ObTree
open Go.Proofs.YtceeimolfalmpaaGreatDoor.T (AL fin)

/-- A part keeps what holds of all nodes. -/
def Keeps (Q : Nd → Prop) (p : St → PR) : Prop := ∀ s s' a, (∀ x ∈ s.L, Q x) → p s = .ok (s', a) → ∀ x ∈ s'.L, Q x
/-- What is put without a set, and what is put for a word. -/
structure Puts (W : List ObLex.T) (Q : Nd → Prop) : Prop where
  none : ∀ k a b mn mx n, Q ⟨k, a, b, [], mn, mx, n⟩
  word : ∀ t ∈ W, Q ⟨2, 0, 0, t.set, 0, 0, 0⟩
section
variable {W : List ObLex.T} {Q : Nd → Prop}
theorem put_keeps {s : St} {x : Nd} (h : ∀ y ∈ s.L, Q y) (hx : Q x) : ∀ y ∈ (put s x).1.L, Q y := fun y hy => by
  simp only [put, List.mem_append, List.mem_singleton] at hy
  rcases hy with hy | rfl
  · exact h y hy
  · exact hx
theorem repL_keeps (hQ : Puts W Q) : ∀ (f : Nat) (s : St) (a : Int), (∀ x ∈ s.L, Q x) → ∀ x ∈ (repL W f s a).1.L, Q x
  | 0, s, a, h => by simpa [repL] using h
  | f + 1, s, a, h => by
    unfold repL
    cases hw : W[s.k]? with
    | none => exact h
    | some t =>
      dsimp only
      split
      · exact repL_keeps hQ f _ _ (put_keeps (s := nxt s) h (hQ.none _ _ _ _ _ _))
      · split
        · exact repL_keeps hQ f _ _ (put_keeps (s := nxt s) h (hQ.none _ _ _ _ _ _))
        · exact h
theorem grp_keeps (hQ : Puts W Q) {al : St → PR} (h : Keeps Q al) (num : Bool) : Keeps Q (grp W al num) := fun s s' a hs he => by
  unfold grp at he
  cases hp : al ⟨s.k + 1, s.L, if num then s.caps + 1 else s.caps⟩ with
  | error e => rw [hp] at he; cases he
  | ok p =>
    obtain ⟨s1, b⟩ := p
    rw [hp] at he
    dsimp only at he
    have h1 := h ⟨s.k + 1, s.L, if num then s.caps + 1 else s.caps⟩ s1 b hs hp
    split at he
    · cases num with
      | true =>
        simp only [if_true] at he
        injection he with he; injection he with h2 h3; subst h2
        exact put_keeps (s := nxt s1) h1 (hQ.none _ _ _ _ _ _)
      | false =>
        simp only [Bool.false_eq_true, if_false] at he
        injection he with he; injection he with h2 h3; subst h2
        exact h1
    · cases he
def KeepsO (Q : Nd → Prop) (al : Option (St → PR)) : Prop := ∀ p, al = some p → Keeps Q p
theorem atom_keeps (hQ : Puts W Q) {al : Option (St → PR)} (h : KeepsO Q al) : Keeps Q (atom W al) := fun s s' a hs he => by
  unfold atom at he
  cases hw : W[s.k]? with
  | none => rw [hw] at he; cases he
  | some t =>
    rw [hw] at he
    dsimp only at he
    split at he
    · injection he with he; injection he with h2 h3; subst h2
      exact put_keeps (s := nxt s) hs (hQ.word t (List.mem_of_getElem? hw))
    · split at he
      · injection he with he; injection he with h2 h3; subst h2
        exact put_keeps (s := nxt s) hs (hQ.none _ _ _ _ _ _)
      · split at he
        · injection he with he; injection he with h2 h3; subst h2
          exact put_keeps (s := nxt s) hs (hQ.none _ _ _ _ _ _)
        · cases al with
          | none => cases he
          | some p =>
            dsimp only at he
            split at he
            · split at he
              · cases he
              · exact grp_keeps hQ (h p rfl) true s s' a hs he
            · exact grp_keeps hQ (h p rfl) false s s' a hs he
theorem rep_keeps (hQ : Puts W Q) {al : Option (St → PR)} (h : KeepsO Q al) : Keeps Q (rep W al) := fun s s' a hs he => by
  unfold rep at he
  cases hp : atom W al s with
  | error e => rw [hp] at he; cases he
  | ok p =>
    rw [hp] at he
    dsimp only at he
    have h1 := atom_keeps hQ h s p.1 p.2 hs hp
    have h2 := repL_keeps hQ W.length p.1 p.2 h1
    injection he with he
    rw [he] at h2
    exact h2
theorem rowL_keeps (hQ : Puts W Q) {kind : Int} {more : St → Option St} {part : St → PR} (hm : ∀ s s1, more s = some s1 → s1.L = s.L) (h : Keeps Q part) : ∀ (f : Nat) (s : St) (a : Int) (s' : St) (b : Int), (∀ x ∈ s.L, Q x) → rowL W kind more part f s a = .ok (s', b) → ∀ x ∈ s'.L, Q x
  | 0, s, a, s', b, hs, he => by
    simp only [rowL] at he
    injection he with he; injection he with h2 h3; subst h2; exact hs
  | f + 1, s, a, s', b, hs, he => by
    unfold rowL at he
    cases hmo : more s with
    | none => rw [hmo] at he; dsimp only at he; injection he with he; injection he with h2 h3; subst h2; exact hs
    | some s1 =>
      rw [hmo] at he
      dsimp only at he
      cases hp : part s1 with
      | error e => rw [hp] at he; cases he
      | ok p =>
        obtain ⟨s2, c⟩ := p
        rw [hp] at he
        dsimp only at he
        exact rowL_keeps hQ hm h f _ _ s' b (put_keeps (h s1 s2 c (by rw [hm s s1 hmo]; exact hs) hp) (hQ.none _ _ _ _ _ _)) he
theorem moreC_L : ∀ s s1, moreC W s = some s1 → s1.L = s.L := fun s s1 h => by
  unfold moreC at h
  split at h
  · injection h with h; subst h; rfl
  · cases h
theorem moreA_L : ∀ s s1, moreA W s = some s1 → s1.L = s.L := fun s s1 h => by
  unfold moreA at h
  split at h
  · injection h with h; subst h; rfl
  · cases h
theorem cat_keeps (hQ : Puts W Q) {al : Option (St → PR)} (h : KeepsO Q al) : Keeps Q (cat W al) := fun s s' a hs he => by
  unfold cat at he
  split at he
  · cases hp : rep W al s with
    | error e => rw [hp] at he; cases he
    | ok p =>
      rw [hp] at he
      dsimp only at he
      exact rowL_keeps hQ moreC_L (rep_keeps hQ h) _ _ _ s' a (rep_keeps hQ h s p.1 p.2 hs hp) he
  · split at he
    · cases he
    · injection he with he; injection he with h2 h3; subst h2
      exact put_keeps hs (hQ.none _ _ _ _ _ _)
theorem alt_keeps (hQ : Puts W Q) {al : Option (St → PR)} (h : KeepsO Q al) : Keeps Q (alt W al) := fun s s' a hs he => by
  unfold alt at he
  cases hp : cat W al s with
  | error e => rw [hp] at he; cases he
  | ok p =>
    rw [hp] at he
    dsimp only at he
    exact rowL_keeps hQ moreA_L (cat_keeps hQ h) _ _ _ s' a (cat_keeps hQ h s p.1 p.2 hs hp) he
theorem alts_keeps (hQ : Puts W Q) : ∀ f, KeepsO Q (alts W f)
  | 0 => fun p hp => by cases hp
  | f + 1 => fun p hp => by
    simp only [alts, Option.some.injEq] at hp
    subst hp
    exact alt_keeps hQ (alts_keeps hQ f)
theorem fin_keeps (hQ : Puts W Q) {s' : St} (h : fin W = .ok s') : (∀ x ∈ s'.L, Q x) ∧ s'.L.length ≤ 2 * W.length + 1 := by
  unfold fin at h
  cases hp : AL W 64 ⟨0, [], 0⟩ with
  | error e => rw [hp] at h; cases h
  | ok p =>
    rw [hp] at h
    dsimp only at h
    split at h
    · cases h
    · injection h with h
      subst h
      have h1 := alt_keeps hQ (alts_keeps hQ 64) ⟨0, [], 0⟩ p.1 p.2 (by simp) hp
      have h2 := alt_fit (alts_fit W 64) ⟨0, [], 0⟩ p.1 p.2 (Nat.zero_le _) hp
      simp only [List.length_nil] at h2
      exact ⟨h1, by omega⟩
end
/-- The nodes of a row of words whose sets have not more than so many ranges. -/
theorem fin_few {W : List ObLex.T} {B : Nat} (h : ∀ t ∈ W, t.set.length ≤ B) {s' : St} (he : fin W = .ok s') : (∀ x ∈ s'.L, x.set.length ≤ B) ∧ s'.L.length ≤ 2 * W.length + 1 :=
  fin_keeps (Q := fun x => x.set.length ≤ B) ⟨fun _ _ _ _ _ _ => Nat.zero_le _, fun t ht => h t ht⟩ he
end ObParse

namespace Go.Proofs.YtceeimolfalmpaaGreatDoor.T
open Go.RowKit ObSets ObTree

/-- What a call hands back: whether it is so; nothing else is touched. -/
def RetB (w : World) (P : Prop) (e : Ending) (w' : World) : Prop := ∃ q : Bool, e = .returned (.bool q) ∧ (q = true ↔ P) ∧ Below w.heap.size w w'
theorem nr_at {w : World} {A : Option Addr} {l : List Nd} (h : Nr w A l) {j : Nat} {x : Nd} (hx : l[j]? = some x) : ∃ b off, A = some ⟨b, off, none⟩ ∧ b < w.heap.size ∧ NdAt w b (off + j * 7) x := by
  obtain ⟨b, off, e, hlt, hc⟩ := h (by rintro rfl; simp at hx)
  exact ⟨b, off, e, hlt, hc j x hx⟩
theorem obj29 {w : World} {r : Nat} {v : Value} (h : w.heap[r]? = some (.cells #[v] 29)) : w.cell? ⟨r, 0, none⟩ = some v ∧ w.frozen? ⟨r, 0, none⟩ = false := ⟨blk1 h, by simp [World.frozen?, h]⟩
set_option maxHeartbeats 8000000 in
set_option maxRecDepth 100000 in
theorem eqnode_any (x y : Nd) (As Bs : Option Addr) (ks js : Nat) (w : World) (hx : S.Rgs w w.heap.size As x.set) (hy : S.Rgs w w.heap.size Bs y.set) (hl : x.set.length ≤ 1000000) (hl2 : y.set.length ≤ 1000000) :
    Calls Tryz.prog 36 #[nv x (.slice As x.set.length ks), nv y (.slice Bs y.set.length js)] w (RetB w (x = y)) := by
  obtain ⟨kd, a, b, set, mn, mx, nn⟩ := x
  obtain ⟨kd2, a2, b2, set2, mn2, mx2, nn2⟩ := y
  dsimp only at hx hy hl hl2
  have HEQ := Lib.hid (fun (W : World) (hW : Below w.heap.size w W) => S.eqset_any As Bs ks js set set2 W (hx.on hW) (hy.on hW) hl hl2)
  have HB := Lib.hid (((Below.refl w.heap.size w).alloc (Nat.le_refl _) (.cells #[.int .i64 kd, .int .i64 a, .int .i64 b, .slice As set.length ks, .int .i64 mn, .int .i64 mx, .int .i64 nn] 58)).alloc (by simp) (.cells #[.int .i64 kd2, .int .i64 a2, .int .i64 b2, .slice Bs set2.length js, .int .i64 mn2, .int .i64 mx2, .int .i64 nn2] 58))
  obtain ⟨m, hm⟩ : ∃ m, set.length = m := ⟨_, rfl⟩
  obtain ⟨m2, hm2⟩ : ∃ m2, set2.length = m2 := ⟨_, rfl⟩
  rw [hm, hm2] at HB HEQ ⊢
  clear hx hy hl hl2 hm hm2
  by_cases h0 : kd = kd2
  · subst h0
    by_cases h1 : a = a2
    · subst h1
      by_cases h2 : b = b2
      · subst h2
        by_cases h3 : mn = mn2
        · subst h3
          by_cases h4 : mx = mx2
          · subst h4
            by_cases h5 : nn = nn2
            · subst h5
              by_cases hs : set = set2
              · have HS := Lib.hid hs
                have hq : decide (set = set2) = true := decide_eq_true hs
                clear hs
                have HF := Lib.hid (show (⟨kd, a, b, set, mn, mx, nn⟩ : Nd) = ⟨kd, a, b, set2, mn, mx, nn⟩ by rw [HS.out])
                go_enter Tryz.func36, Tryz.ntmps36
                go_wp2_with fail
                refine (HEQ.out _ HB.out).mono ?_
                rintro e w2 ⟨rfl, hb2⟩
                rw [hq]
                have HB2 := Lib.hid (HB.out.trans (hb2.mono HB.out.size))
                obtain ⟨⟨f0, f1, f2, f3, f4, f5, f6⟩, _⟩ := blk7 (keepL (keepL (heap_new w (.cells #[.int .i64 kd, .int .i64 a, .int .i64 b, .slice As m ks, .int .i64 mn, .int .i64 mx, .int .i64 nn] 58)) ((Below.refl _ _).alloc (Nat.le_refl _) (.cells #[.int .i64 kd, .int .i64 a, .int .i64 b, .slice Bs m2 js, .int .i64 mn, .int .i64 mx, .int .i64 nn] 58))) hb2)
                obtain ⟨⟨g0, g1, g2, g3, g4, g5, g6⟩, _⟩ := blk7 (keepL (heap_new (w.alloc (.cells #[.int .i64 kd, .int .i64 a, .int .i64 b, .slice As m ks, .int .i64 mn, .int .i64 mx, .int .i64 nn] 58)) (.cells #[.int .i64 kd, .int .i64 a, .int .i64 b, .slice Bs m2 js, .int .i64 mn, .int .i64 mx, .int .i64 nn] 58)) hb2)
                simp only [World.size_alloc] at g0 g1 g2 g3 g4 g5 g6
                clear hb2
                go_wp2_with fail
                refine bodyPost_ret (v := .bool true) ?_ ?_ ?_
                · exact results_tmp (fn := Tryz.f36) (t := 4) rfl _ _ _
                · rfl
                exact ⟨true, rfl, iff_of_true rfl HF.out, HB2.out⟩
              · have hq : decide (set = set2) = false := decide_eq_false hs
                have HF := Lib.hid (show (⟨kd, a, b, set, mn, mx, nn⟩ : Nd) ≠ ⟨kd, a, b, set2, mn, mx, nn⟩ from fun h => hs (congrArg Nd.set h))
                clear hs
                go_enter Tryz.func36, Tryz.ntmps36
                go_wp2_with fail
                refine (HEQ.out _ HB.out).mono ?_
                rintro e w2 ⟨rfl, hb2⟩
                rw [hq]
                have HB2 := Lib.hid (HB.out.trans (hb2.mono HB.out.size))
                obtain ⟨⟨f0, f1, f2, f3, f4, f5, f6⟩, _⟩ := blk7 (keepL (keepL (heap_new w (.cells #[.int .i64 kd, .int .i64 a, .int .i64 b, .slice As m ks, .int .i64 mn, .int .i64 mx, .int .i64 nn] 58)) ((Below.refl _ _).alloc (Nat.le_refl _) (.cells #[.int .i64 kd, .int .i64 a, .int .i64 b, .slice Bs m2 js, .int .i64 mn, .int .i64 mx, .int .i64 nn] 58))) hb2)
                obtain ⟨⟨g0, g1, g2, g3, g4, g5, g6⟩, _⟩ := blk7 (keepL (heap_new (w.alloc (.cells #[.int .i64 kd, .int .i64 a, .int .i64 b, .slice As m ks, .int .i64 mn, .int .i64 mx, .int .i64 nn] 58)) (.cells #[.int .i64 kd, .int .i64 a, .int .i64 b, .slice Bs m2 js, .int .i64 mn, .int .i64 mx, .int .i64 nn] 58)) hb2)
                simp only [World.size_alloc] at g0 g1 g2 g3 g4 g5 g6
                clear hb2
                go_wp2_with fail
                refine bodyPost_ret (v := .bool false) ?_ ?_ ?_
                · exact results_tmp (fn := Tryz.f36) (t := 4) rfl _ _ _
                · rfl
                exact ⟨false, rfl, iff_of_false Bool.noConfusion HF.out, HB2.out⟩
            · have e5 : (nn == nn2) = false := beq_eq_false_iff_ne.2 h5
              have HF := Lib.hid (show (⟨kd, a, b, set, mn, mx, nn⟩ : Nd) ≠ ⟨kd, a, b, set2, mn, mx, nn2⟩ from fun h => h5 (congrArg Nd.n h))
              clear h5
              go_enter Tryz.func36, Tryz.ntmps36
              go_wp2_with fail
              go_ret
              exact ⟨false, rfl, iff_of_false Bool.noConfusion HF.out, HB.out⟩
          · have e4 : (mx == mx2) = false := beq_eq_false_iff_ne.2 h4
            have HF := Lib.hid (show (⟨kd, a, b, set, mn, mx, nn⟩ : Nd) ≠ ⟨kd, a, b, set2, mn, mx2, nn2⟩ from fun h => h4 (congrArg Nd.mx h))
            clear h4
            go_enter Tryz.func36, Tryz.ntmps36
            go_wp2_with fail
            go_ret
            exact ⟨false, rfl, iff_of_false Bool.noConfusion HF.out, HB.out⟩
        · have e3 : (mn == mn2) = false := beq_eq_false_iff_ne.2 h3
          have HF := Lib.hid (show (⟨kd, a, b, set, mn, mx, nn⟩ : Nd) ≠ ⟨kd, a, b, set2, mn2, mx2, nn2⟩ from fun h => h3 (congrArg Nd.mn h))
          clear h3
          go_enter Tryz.func36, Tryz.ntmps36
          go_wp2_with fail
          go_ret
          exact ⟨false, rfl, iff_of_false Bool.noConfusion HF.out, HB.out⟩
      · have e2 : (b == b2) = false := beq_eq_false_iff_ne.2 h2
        have HF := Lib.hid (show (⟨kd, a, b, set, mn, mx, nn⟩ : Nd) ≠ ⟨kd, a, b2, set2, mn2, mx2, nn2⟩ from fun h => h2 (congrArg Nd.b h))
        clear h2
        go_enter Tryz.func36, Tryz.ntmps36
        go_wp2_with fail
        go_ret
        exact ⟨false, rfl, iff_of_false Bool.noConfusion HF.out, HB.out⟩
    · have e1 : (a == a2) = false := beq_eq_false_iff_ne.2 h1
      have HF := Lib.hid (show (⟨kd, a, b, set, mn, mx, nn⟩ : Nd) ≠ ⟨kd, a2, b2, set2, mn2, mx2, nn2⟩ from fun h => h1 (congrArg Nd.a h))
      clear h1
      go_enter Tryz.func36, Tryz.ntmps36
      go_wp2_with fail
      go_ret
      exact ⟨false, rfl, iff_of_false Bool.noConfusion HF.out, HB.out⟩
  · have e0 : (kd == kd2) = false := beq_eq_false_iff_ne.2 h0
    have HF := Lib.hid (show (⟨kd, a, b, set, mn, mx, nn⟩ : Nd) ≠ ⟨kd2, a2, b2, set2, mn2, mx2, nn2⟩ from fun h => h0 (congrArg Nd.kind h))
    clear h0
    go_enter Tryz.func36, Tryz.ntmps36
    go_wp2_with fail
    go_ret
    exact ⟨false, rfl, iff_of_false Bool.noConfusion HF.out, HB.out⟩
theorem held_below {w W : World} {A : Prop} (h : A ∧ Below w.heap.size w W) : Below w.heap.size w W := h.2
set_option maxHeartbeats 4000000 in
set_option maxRecDepth 100000 in
theorem eqtree_any (A A' : Option Addr) (n c m d : Nat) (L M : List Nd) (w : World) (hN : Nr w A L) (hn : L.length = n) (hM : Nr w A' M) (hm : M.length = m) (hnb : n ≤ 20000) (hs : ∀ x ∈ L, x.set.length ≤ 1000000) (hs2 : ∀ x ∈ M, x.set.length ≤ 1000000) :
    Calls Tryz.prog 18 #[tr A n c, tr A' m d] w (RetB w (L = M)) := by
  have ha0 := ((Below.refl w.heap.size w).alloc (Nat.le_refl _) (.cells #[.slice A n c] 29)).alloc (by simp) (.cells #[.slice A' m d] 29)
  have hz : ((w.alloc (.cells #[.slice A n c] 29)).alloc (.cells #[.slice A' m d] 29)).heap.size = w.heap.size + 2 := by simp
  have hG0 := keepL (heap_new w (.cells #[.slice A n c] 29)) ((Below.refl _ _).alloc (Nat.le_refl _) (.cells #[.slice A' m d] 29))
  have hG1 := heap_new (w.alloc (.cells #[.slice A n c] 29)) (.cells #[.slice A' m d] 29)
  rw [World.size_alloc] at hG1
  have HN := Lib.hid hN; have HLN := Lib.hid hn; have HM := Lib.hid hM; have HLM := Lib.hid hm; have HS := Lib.hid hs; have HS2 := Lib.hid hs2
  clear hN hn hM hm hs hs2
  by_cases hlen : n = m
  · subst hlen
    have hb : ((n : Int) != (n : Int)) = false := by simp
    go_enter Tryz.func18, Tryz.ntmps18
    go_upto_region 1 with fail
    generalize (w.alloc (.cells #[.slice A n c] 29)).alloc (.cells #[.slice A' n d] 29) = W0 at *
    obtain ⟨a0, _⟩ := obj29 hG0
    obtain ⟨a1, _⟩ := obj29 hG1
    have HG0 := Lib.hid hG0; have HG1 := Lib.hid hG1; have HA0 := Lib.hid ha0
    clear hG0 hG1 ha0
    go_wp2_with fail
    go_loopw [5] (fun t wr => ∃ k : Nat, t = .int .i64 (k : Int) ∧ k ≤ n ∧ Hid (L.take k = M.take k) ∧ Hid (Below W0.heap.size W0 wr)) (fun t _ => n - (intOf t).toNat)
    case atStart => exact ⟨0, rfl, Nat.zero_le _, Lib.hid rfl, Lib.hid (Below.refl _ _)⟩
    case round =>
      obtain ⟨i, rfl, hi, HT, HG⟩ := hrel
      have hgs := HG.out.size
      have HB := Lib.hid (HA0.out.trans (HG.out.mono HA0.out.size))
      obtain ⟨b0, _⟩ := obj29 (keepL HG0.out HG.out)
      obtain ⟨b1, _⟩ := obj29 (keepL HG1.out HG.out)
      by_cases hin : i < n
      · have d1 : decide (i < n) = true := decide_eq_true hin
        have hin' : (i : Int) < (n : Int) := by omega
        obtain ⟨x, hx⟩ : ∃ x, L[i]? = some x := ⟨_, List.getElem?_eq_getElem (by rw [HLN.out]; exact hin)⟩
        obtain ⟨y, hy⟩ : ∃ y, M[i]? = some y := ⟨_, List.getElem?_eq_getElem (by rw [HLM.out]; exact hin)⟩
        obtain ⟨bb, off, rfl, hbl, hnd⟩ := nr_at HN.out hx
        obtain ⟨bb2, off2, rfl, hbl2, hnd2⟩ := nr_at HM.out hy
        obtain ⟨As, ks, ⟨c0, c1, c2, c3, c4, c5, c6⟩, hrg⟩ := hnd.below hbl HB.out
        obtain ⟨Bs, js, ⟨e0, e1, e2, e3, e4, e5, e6⟩, hrg2⟩ := hnd2.below hbl2 HB.out
        have HSA := Lib.hid (fun (W : World) (hW : Below wr.heap.size wr W) => eqnode_any x y As Bs ks js W (hrg.on hW) (hrg2.on hW) (HS.out x (List.mem_of_getElem? hx)) (HS2.out y (List.mem_of_getElem? hy)))
        obtain ⟨sl, hsl⟩ : ∃ sl, x.set.length = sl := ⟨_, rfl⟩
        obtain ⟨sl2, hsl2⟩ : ∃ sl2, y.set.length = sl2 := ⟨_, rfl⟩
        rw [hsl] at c3 HSA
        rw [hsl2] at e3 HSA
        have HX := Lib.hid hx; have HY := Lib.hid hy
        have hbw : bb < wr.heap.size := by have := HB.out.size; omega
        have hbw2 : bb2 < wr.heap.size := by have := HB.out.size; omega
        have hrw : w.heap.size + 1 < wr.heap.size := by omega
        have HSF := Lib.hid (show ∀ W, Below wr.heap.size wr W → (((W.cell? ⟨w.heap.size, 0, none⟩ = some (.slice (some ⟨bb, off, none⟩) n c) ∧ W.cell? ⟨w.heap.size + 1, 0, none⟩ = some (.slice (some ⟨bb2, off2, none⟩) n d)) ∧ (W.cell? ⟨bb, off + i * 7, none⟩ = some (.int .i64 x.kind) ∧ W.cell? ⟨bb, off + i * 7 + 1, none⟩ = some (.int .i64 x.a) ∧ W.cell? ⟨bb, off + i * 7 + 2, none⟩ = some (.int .i64 x.b) ∧ W.cell? ⟨bb, off + i * 7 + 3, none⟩ = some (.slice As sl ks) ∧ W.cell? ⟨bb, off + i * 7 + 4, none⟩ = some (.int .i64 x.mn) ∧ W.cell? ⟨bb, off + i * 7 + 5, none⟩ = some (.int .i64 x.mx) ∧ W.cell? ⟨bb, off + i * 7 + 6, none⟩ = some (.int .i64 x.n)) ∧ (W.cell? ⟨bb2, off2 + i * 7, none⟩ = some (.int .i64 y.kind) ∧ W.cell? ⟨bb2, off2 + i * 7 + 1, none⟩ = some (.int .i64 y.a) ∧ W.cell? ⟨bb2, off2 + i * 7 + 2, none⟩ = some (.int .i64 y.b) ∧ W.cell? ⟨bb2, off2 + i * 7 + 3, none⟩ = some (.slice Bs sl2 js) ∧ W.cell? ⟨bb2, off2 + i * 7 + 4, none⟩ = some (.int .i64 y.mn) ∧ W.cell? ⟨bb2, off2 + i * 7 + 5, none⟩ = some (.int .i64 y.mx) ∧ W.cell? ⟨bb2, off2 + i * 7 + 6, none⟩ = some (.int .i64 y.n))) ∧ Below wr.heap.size wr W) from fun W hW => ⟨⟨⟨(hW.cell (p := ⟨w.heap.size, 0, none⟩) (by show w.heap.size < wr.heap.size; omega)).trans b0, (hW.cell (p := ⟨w.heap.size + 1, 0, none⟩) hrw).trans b1⟩, ⟨(hW.cell (p := ⟨bb, _, none⟩) hbw).trans c0, (hW.cell (p := ⟨bb, _, none⟩) hbw).trans c1, (hW.cell (p := ⟨bb, _, none⟩) hbw).trans c2, (hW.cell (p := ⟨bb, _, none⟩) hbw).trans c3, (hW.cell (p := ⟨bb, _, none⟩) hbw).trans c4, (hW.cell (p := ⟨bb, _, none⟩) hbw).trans c5, (hW.cell (p := ⟨bb, _, none⟩) hbw).trans c6⟩, ⟨(hW.cell (p := ⟨bb2, _, none⟩) hbw2).trans e0, (hW.cell (p := ⟨bb2, _, none⟩) hbw2).trans e1, (hW.cell (p := ⟨bb2, _, none⟩) hbw2).trans e2, (hW.cell (p := ⟨bb2, _, none⟩) hbw2).trans e3, (hW.cell (p := ⟨bb2, _, none⟩) hbw2).trans e4, (hW.cell (p := ⟨bb2, _, none⟩) hbw2).trans e5, (hW.cell (p := ⟨bb2, _, none⟩) hbw2).trans e6⟩⟩, hW⟩)
        clear hnd hnd2 hx hy hrg hrg2 hsl hsl2 c0 c1 c2 c3 c4 c5 c6 e0 e1 e2 e3 e4 e5 e6
        go_wp2_with fail
        go_region_held3 (fun W => ((W.cell? ⟨w.heap.size, 0, none⟩ = some (.slice (some ⟨bb, off, none⟩) n c) ∧ W.cell? ⟨w.heap.size + 1, 0, none⟩ = some (.slice (some ⟨bb2, off2, none⟩) n d)) ∧ (W.cell? ⟨bb, off + i * 7, none⟩ = some (.int .i64 x.kind) ∧ W.cell? ⟨bb, off + i * 7 + 1, none⟩ = some (.int .i64 x.a) ∧ W.cell? ⟨bb, off + i * 7 + 2, none⟩ = some (.int .i64 x.b) ∧ W.cell? ⟨bb, off + i * 7 + 3, none⟩ = some (.slice As sl ks) ∧ W.cell? ⟨bb, off + i * 7 + 4, none⟩ = some (.int .i64 x.mn) ∧ W.cell? ⟨bb, off + i * 7 + 5, none⟩ = some (.int .i64 x.mx) ∧ W.cell? ⟨bb, off + i * 7 + 6, none⟩ = some (.int .i64 x.n)) ∧ (W.cell? ⟨bb2, off2 + i * 7, none⟩ = some (.int .i64 y.kind) ∧ W.cell? ⟨bb2, off2 + i * 7 + 1, none⟩ = some (.int .i64 y.a) ∧ W.cell? ⟨bb2, off2 + i * 7 + 2, none⟩ = some (.int .i64 y.b) ∧ W.cell? ⟨bb2, off2 + i * 7 + 3, none⟩ = some (.slice Bs sl2 js) ∧ W.cell? ⟨bb2, off2 + i * 7 + 4, none⟩ = some (.int .i64 y.mn) ∧ W.cell? ⟨bb2, off2 + i * 7 + 5, none⟩ = some (.int .i64 y.mx) ∧ W.cell? ⟨bb2, off2 + i * 7 + 6, none⟩ = some (.int .i64 y.n))) ∧ Below wr.heap.size wr W) (first | exact HSF.out _ (Below.refl _ _).drew | exact HSF.out _ (S.bel_trans (held_below (by assumption)) (by assumption)) | fail) (first
          | (go_at_call 36; (with_reducible refine (HSA.out _ (held_below (by assumption))).mono ?_); rintro e w2 ⟨q, rfl, hq, hb2⟩)
          | fail)
        have HB3 := Lib.hid (HB.out.trans ((held_below (by assumption)).mono HB.out.size))
        clear hb2
        cases q with
        | false =>
          have HNO := Lib.hid (show L ≠ M from fun h => by
            have h1 := HX.out
            rw [h, HY.out] at h1
            injection h1 with h1
            have := hq.2 h1.symm
            cases this)
          clear hq
          go_wp2_with fail
          go_ret
          exact ⟨false, rfl, iff_of_false Bool.noConfusion HNO.out, HB3.out⟩
        | true =>
          have HT2 := Lib.hid (show L.take (i + 1) = M.take (i + 1) by rw [List.take_add_one, List.take_add_one, HT.out, HX.out, HY.out, hq.1 rfl])
          clear hq
          go_wp2_with fail
          go_roundw
          case rel => exact ⟨i + 1, congrArg (Value.int .i64) (by omega), hin, HT2, Lib.hid (HG.out.trans ((held_below (by assumption)).mono hgs))⟩
          case measure => simp [intOf]; omega
      · have d1 : decide (i < n) = false := decide_eq_false hin
        obtain rfl : i = n := by omega
        have HF := Lib.hid (show L = M by have := HT.out; rw [List.take_of_length_le (by rw [HLN.out]; exact Nat.le_refl _), List.take_of_length_le (by rw [HLM.out]; exact Nat.le_refl _)] at this; exact this)
        go_wp2_with fail
        go_ret
        exact ⟨true, rfl, iff_of_true rfl HF.out, HB.out⟩
  · have hb : ((n : Int) != (m : Int)) = true := by rw [bne_iff_ne]; omega
    have HF := Lib.hid (show L ≠ M from fun h => hlen (by rw [← HLN.out, ← HLM.out, h]))
    have HA0 := Lib.hid ha0
    go_enter Tryz.func18, Tryz.ntmps18
    go_wp2_with fail
    go_ret
    exact ⟨false, rfl, iff_of_false Bool.noConfusion HF.out, HA0.out⟩
end Go.Proofs.YtceeimolfalmpaaGreatDoor.T

namespace Go.Proofs.YtceeimolfalmpaaGreatDoor.T
open Go.RowKit ObUtf ObSets ObTree ObParse
open Go.Proofs.YtceeimolfalmpaaGreatDoor (tv fv fo Tr Tk FlOf eqf)

/-- What a text comes to: nodes, a fault and its place. -/
def outc (W : List ObLex.T) (x a n : Int) : List Nd × Int × Int :=
  match fin W with
  | .error (some q) => ([], q.1, q.2)
  | .error none => if x = 0 then ([], 4, n) else ([], x, a)
  | .ok s' => if x = 0 then (s'.L, 0, 0) else ([], x, a)
/-- What Parse hands back. -/
def RetPo (s : ByteArray) (w : World) (e : Ending) (w' : World) : Prop :=
  ∃ W x a A c, ObLex.Ahead s W ∧ FlOf (ObLex.toks s 0) x a ∧ Below w.heap.size w w' ∧ e = .returned (.tuple #[.agg #[.slice A (outc W x a s.size).1.length c], fv (outc W x a s.size).2.1 (outc W x a s.size).2.2]) ∧ Nr w' A (outc W x a s.size).1
theorem nr_nil {w : World} {A : Option Addr} : Nr w A [] := fun h => absurd rfl h
theorem pr_po {s : ByteArray} {w : World} {e : Ending} {w' : World} (h : RetPr s w e w') : RetPo s w e w' := by
  obtain ⟨W, x, a, h1, h2, h3, h4⟩ := h
  cases hf : fin W with
  | error er =>
    cases er with
    | none =>
      rw [hf] at h4
      dsimp only at h4
      by_cases hx : x = 0
      · have ho : outc W x a s.size = ([], 4, (s.size : Int)) := by unfold outc; rw [hf]; dsimp only; rw [if_pos hx]
        rw [if_pos hx] at h4
        exact ⟨W, x, a, none, 0, h1, h2, h3, by rw [ho]; exact h4, by rw [ho]; exact nr_nil⟩
      · have ho : outc W x a s.size = ([], x, a) := by unfold outc; rw [hf]; dsimp only; rw [if_neg hx]
        rw [if_neg hx] at h4
        exact ⟨W, x, a, none, 0, h1, h2, h3, by rw [ho]; exact h4, by rw [ho]; exact nr_nil⟩
    | some q =>
      obtain ⟨er, q⟩ := q
      rw [hf] at h4
      dsimp only at h4
      have ho : outc W x a s.size = ([], er, q) := by unfold outc; rw [hf]
      exact ⟨W, x, a, none, 0, h1, h2, h3, by rw [ho]; exact h4, by rw [ho]; exact nr_nil⟩
  | ok s' =>
    rw [hf] at h4
    dsimp only at h4
    by_cases hx : x = 0
    · have ho : outc W x a s.size = (s'.L, 0, 0) := by unfold outc; rw [hf]; dsimp only; rw [if_pos hx]
      rw [if_pos hx] at h4
      obtain ⟨A, c, h5, h6⟩ := h4
      exact ⟨W, x, a, A, c, h1, h2, h3, by rw [ho]; exact h5, by rw [ho]; exact h6⟩
    · have ho : outc W x a s.size = ([], x, a) := by unfold outc; rw [hf]; dsimp only; rw [if_neg hx]
      rw [if_neg hx] at h4
      exact ⟨W, x, a, none, 0, h1, h2, h3, by rw [ho]; exact h4, by rw [ho]; exact nr_nil⟩
theorem Nk.readsN {w : World} {B n k : Nat} {A : Option Addr} {l : List Nd} (h : Nk w B (.slice A n k) l) (hB : B ≤ w.heap.size) : Nr w A l := by
  intro hne
  obtain ⟨L, rfl, h2, h3⟩ := h
  rcases h2.2 with ⟨_, hn⟩ | ⟨g, cap, cur, hv, hbg, hg, rest⟩
  · exact absurd (by rw [List.eq_nil_of_length_eq_zero hn]; rfl) hne
  · injection hv with hv1 hv2 hv3
    subst hv1
    refine ⟨g, 0, rfl, lt_of_heap hg, fun j x hx => ?_⟩
    rw [List.getElem?_map] at hx
    cases hp : L[j]? with
    | none => rw [hp] at hx; cases hx
    | some p =>
      rw [hp] at hx
      simp at hx
      subst hx
      obtain ⟨c0, c1, c2, c3, c4, c5, c6⟩ := cellsN_at L j p hp
      have hc := World.ownsRow.cells h2 (g := g) rfl
      have e : ∀ k, (⟨g, 0, none⟩ : Addr).add k = ⟨g, 0 + k, none⟩ := fun k => by unfold Addr.add; split <;> simp_all
      obtain ⟨As, ks, es, hr⟩ := h3 p (List.mem_of_getElem? hp)
      have d0 := hc _ _ c0; have d1 := hc _ _ c1; have d2 := hc _ _ c2; have d3 := hc _ _ c3; have d4 := hc _ _ c4; have d5 := hc _ _ c5; have d6 := hc _ _ c6
      rw [e] at d0 d1 d2 d3 d4 d5 d6
      rw [es] at d3
      exact ⟨As, ks, ⟨d0, d1, d2, d3, d4, d5, d6⟩, fun hn => by obtain ⟨b, off, e1, e2, e3⟩ := hr hn; exact ⟨b, off, e1, Nat.lt_of_lt_of_le e2 hB, e3⟩⟩
theorem ps_po {s : ByteArray} {w : World} {e : Ending} {w' : World} (h : RetPs s w e w') : RetPo s w e w' := by
  refine pr_po ?_
  obtain ⟨W, x, a, h1, h2, h3, h4⟩ := h
  refine ⟨W, x, a, h1, h2, h3, ?_⟩
  cases hf : fin W with
  | error er => cases er <;> (rw [hf] at h4; exact h4)
  | ok s' =>
    rw [hf] at h4
    dsimp only at h4 ⊢
    by_cases hx : x = 0
    · rw [if_pos hx] at h4 ⊢
      obtain ⟨A, c, B, h5, _, h7, h8⟩ := h4
      exact ⟨A, c, h5, h8.readsN h7⟩
    · rw [if_neg hx] at h4 ⊢
      exact h4
theorem flof_one {r : ObLex.Res (List ObLex.T)} {x a y b : Int} (h : FlOf r x a) (k : FlOf r y b) : x = y ∧ a = b := by
  unfold FlOf at h k
  cases r with
  | error q => exact ⟨h.1.trans k.1.symm, h.2.1.trans k.2.1.symm⟩
  | ok l => exact ⟨h.1.trans k.1.symm, h.2.trans k.2.symm⟩
theorem outc_few {s : ByteArray} {W : List ObLex.T} (h : ObLex.Ahead s W) (hs : s.size ≤ 1000) (x a n : Int) : (∀ y ∈ (outc W x a n).1, y.set.length ≤ 1000000) ∧ (outc W x a n).1.length ≤ 2001 := by
  have h0 : (∀ y ∈ ([] : List Nd), y.set.length ≤ 1000000) ∧ ([] : List Nd).length ≤ 2001 := ⟨by simp, by simp⟩
  unfold outc
  split
  · exact h0
  · split <;> exact h0
  · rename_i s' hf
    split
    · have h1 := fin_few (B := 1000000) (fun t ht => by have := (h.few t ht).1; omega) hf
      have h2 := h.good.1
      exact ⟨h1.1, by have := h1.2; dsimp only; omega⟩
    · exact h0
set_option maxHeartbeats 4000000 in
set_option maxRecDepth 100000 in
theorem asks9_any (s : ByteArray) (w : World) (hT : U.Tb w) (hs : s.size ≤ 1000) : Calls Tryz.prog 13 #[.string s] w fun e w' => e = .returned (.bool true) ∧ Below w.heap.size w w' := by
  have HP := Lib.hid (parse_any s w hT hs)
  have HR := Lib.hid (fun W => rparse_any s W hs)
  have hq := fun (a b : Int) (w : World) => eqf a b w
  have hgt := Tryz.eqGuardType34
  clear hT
  go_enter Tryz.func13, Tryz.ntmps13
  go_wp2_with fail
  refine HP.out.mono ?_
  intro e w1 hret
  obtain ⟨W, x, a, A1, c1, hA, hF, hb1, rfl, hN1⟩ := ps_po hret
  obtain ⟨⟨L, E, q⟩, hL⟩ : ∃ o, outc W x a s.size = o := ⟨_, rfl⟩
  have hfew := outc_few hA hs x a s.size
  rw [hL] at hN1 hfew ⊢
  dsimp only at hN1 hfew ⊢
  have HL := Lib.hid hL; have HAW := Lib.hid hA; have HFW := Lib.hid hF; have HFEW := Lib.hid hfew
  obtain ⟨n, hn⟩ : ∃ n, L.length = n := ⟨_, rfl⟩
  rw [hn]
  have HNL := Lib.hid hn
  have HN1 := Lib.hid hN1
  have HB1 := Lib.hid hb1
  have ba1 := ((Below.refl w1.heap.size w1).alloc (Nat.le_refl _) (.cells #[.slice A1 n c1] 29)).alloc (by simp) (.cells #[.int .i64 E, .int .i64 q] 34)
  have k0 := keepL (heap_new w1 (.cells #[.slice A1 n c1] 29)) ((Below.refl _ _).alloc (Nat.le_refl _) (.cells #[.int .i64 E, .int .i64 q] 34))
  have k1 := heap_new (w1.alloc (.cells #[.slice A1 n c1] 29)) (.cells #[.int .i64 E, .int .i64 q] 34)
  rw [World.size_alloc] at k1
  have HK0 := Lib.hid k0; have HK1 := Lib.hid k1; have HBA1 := Lib.hid ba1
  clear hL hA hF hfew hn hN1 hb1 hret k0 k1 ba1 HP
  go_wp2_with fail
  refine (HR.out _).mono ?_
  intro e w2 hret
  obtain ⟨W2, x2, a2, A2, c2, hA2, hF2, hb2, rfl, hN2⟩ := pr_po hret
  have e1 := ObLex.Ahead.one HAW.out hA2
  subst e1
  obtain ⟨rfl, rfl⟩ := flof_one HFW.out hF2
  rw [HL.out] at hN2 ⊢
  dsimp only at hN2 ⊢
  rw [HNL.out]
  have ba2 := ((Below.refl w2.heap.size w2).alloc (Nat.le_refl _) (.cells #[.slice A2 n c2] 29)).alloc (by simp) (.cells #[.int .i64 E, .int .i64 q] 34)
  have j0 := keepL (heap_new w2 (.cells #[.slice A2 n c2] 29)) ((Below.refl _ _).alloc (Nat.le_refl _) (.cells #[.int .i64 E, .int .i64 q] 34))
  have j1 := heap_new (w2.alloc (.cells #[.slice A2 n c2] 29)) (.cells #[.int .i64 E, .int .i64 q] 34)
  rw [World.size_alloc] at j1
  have i0 := keepL (keepL HK0.out hb2) ba2
  have i1 := keepL (keepL HK1.out hb2) ba2
  have hz := lt_of_heap (keepL HK1.out hb2)
  have HEQ := Lib.hid (eqtree_any A1 A2 n c1 n c2 L L _ (((HN1.out.below HBA1.out).below hb2).below ba2) HNL.out (hN2.below ba2) HNL.out (by have := HNL.out; have := HFEW.out.2; omega) HFEW.out.1 HFEW.out.1)
  have HBW := Lib.hid (((HB1.out.trans (HBA1.out.mono HB1.out.size)).trans (hb2.mono (by have := HB1.out.size; simp; omega))).trans (ba2.mono (by have := HB1.out.size; omega)))
  have HI0 := Lib.hid i0; have HI1 := Lib.hid i1; have HJ0 := Lib.hid j0; have HJ1 := Lib.hid j1
  obtain ⟨p0, _⟩ := obj29 i0
  obtain ⟨r0, _⟩ := obj29 j0
  clear hA2 hF2 hret hN2 hb2 ba2 i0 i1 j0 j1
  go_wp2_with fail
  refine HEQ.out.mono ?_
  rintro e w3 ⟨qq, rfl, hqq, hb3⟩
  have hqt : qq = true := hqq.2 (by simp)
  subst hqt
  obtain ⟨q0, q1, _⟩ := blk2 (keepL HI1.out hb3)
  obtain ⟨s0, s1, _⟩ := blk2 (keepL HJ1.out hb3)
  have HB3 := Lib.hid (HBW.out.trans (hb3.mono HBW.out.size))
  clear hqq hb3
  go_wp2_with fail
  go_ret
  exact ⟨rfl, HB3.out⟩
end Go.Proofs.YtceeimolfalmpaaGreatDoor.T
