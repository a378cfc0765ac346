/-
  What the statements ask of every tree (asks) is so. Conditions: at most 20000 nodes, each with at most 1000000 ranges.
-/
import Derived.Test.YtceeimolfalmpaaVQ
namespace Go.Proofs.Ytceeimolfalmpaa
open Go.RowKit ObSets ObTree ObTree.Tree

open Classical in
/-- Is it so? -/
noncomputable def pb (P : Prop) : Bool := decide P
open Classical in
theorem pb_of {P : Prop} {q : Bool} (h : q = true ↔ P) : q = pb P := by
  unfold pb
  by_cases hp : P
  · rw [decide_eq_true hp]; exact h.2 hp
  · rw [decide_eq_false hp]
    cases q with
    | false => rfl
    | true => exact absurd (h.1 rfl) hp
/-- A yes or no that is known. -/
def RetD (w : World) (b : Bool) (e : Ending) (w' : World) : Prop := e = .returned (.bool b) ∧ Below w.heap.size w w'
theorem RetB.det {w w' : World} {P : Prop} {e : Ending} (h : RetB w P e w') : RetD w (pb P) e w' := by
  obtain ⟨q, rfl, hq, hb⟩ := h
  exact ⟨by rw [pb_of hq], hb⟩
def RetN1 (w : World) (k : Int) (e : Ending) (w' : World) : Prop := e = .returned (.int .i64 k) ∧ Below w.heap.size w w'
open Classical in
noncomputable def firstV (L : List Nd) (i : Int) : Int := if GoodL L ∧ 0 ≤ i ∧ i < (L.length : Int) then fst L i else -1
theorem firstV_is (L : List Nd) (i : Int) : FirstIs L i (firstV L i) := by
  unfold firstV
  exact ⟨fun h => by rw [if_pos h], fun h => by rw [if_neg h]⟩
theorem RetF.det {w w' : World} {L : List Nd} {i : Int} {e : Ending} (h : RetF w L i e w') : RetN1 w (firstV L i) e w' := by
  obtain ⟨v, rfl, hv, hb⟩ := h
  exact ⟨by rw [hv.uniq (firstV_is L i)], hb⟩
theorem eqints_true (v u : Value) (l : List Int) (w : World) (h1 : IntsAt w v l) (h2 : IntsAt w u l) (hl : l.length ≤ 1000000) : Calls Try.prog 28 #[v, u] w (RetD w true) :=
  (eqints_any v u l l w h1 h2 hl).mono fun _ _ ⟨q, e, hq, hb⟩ => ⟨by rw [e, hq.2 rfl], hb⟩
theorem held2 {w W : World} {A : Prop} (h : A ∧ Below w.heap.size w W) : Below w.heap.size w W := h.2
set_option maxHeartbeats 8000000 in
set_option maxRecDepth 100000 in
theorem asks_any (A : Option Addr) (n c : Nat) (L : List Nd) (i : Int) (w : World) (hN : Nr w A L) (hn : L.length = n) (hnb : n ≤ 20000) (hs : ∀ x ∈ L, x.set.length ≤ 1000000) :
    Calls Try.prog 9 #[tr A n c, .int .i64 i] w (RetD w true) := by
  have ha0 := (Below.refl w.heap.size w).alloc (Nat.le_refl _) (.cells #[.slice A n c] 24)
  have hG0 := heap_new w (.cells #[.slice A n c] 24)
  have hz : (w.alloc (.cells #[.slice A n c] 24)).heap.size = w.heap.size + 1 := by simp
  go_enter Try.func9, Try.ntmps9
  go_upto_region 1 with fail
  generalize w.alloc (.cells #[.slice A n c] 24) = W0 at *
  have HN := hN.below ha0
  have H22 := Lib.hid (fun (W : World) (hW : Below W0.heap.size W0 W) => (tsound_any A n c L W (HN.below hW) hn hnb hs).mono fun _ _ h => RetB.det h)
  have H25 := Lib.hid (fun (W : World) (hW : Below W0.heap.size W0 W) => (sound_any A n c L W (HN.below hW) hn hnb hs).mono fun _ _ h => RetB.det h)
  have H13 := Lib.hid (fun (W : World) (hW : Below W0.heap.size W0 W) => (tgood_any A n c L W (HN.below hW) hn hnb hs).mono fun _ _ h => RetB.det h)
  have H26 := Lib.hid (fun (W : World) (hW : Below W0.heap.size W0 W) => (good_any A n c L W (HN.below hW) hn hnb hs).mono fun _ _ h => RetB.det h)
  have H23 := Lib.hid (fun (W : World) (hW : Below W0.heap.size W0 W) => tcaps_any A n c L W (HN.below hW) hn hnb)
  have H27 := Lib.hid (fun (W : World) (hW : Below W0.heap.size W0 W) => rcaps_any A n c L W (HN.below hW) hn hnb)
  have H24 := Lib.hid (fun (W : World) (hW : Below W0.heap.size W0 W) => tleaves_any A n c L W (HN.below hW) hn hnb)
  have H29 := Lib.hid (fun (W : World) (hW : Below W0.heap.size W0 W) => rleaves_any A n c L W (HN.below hW) hn hnb)
  have H17 := Lib.hid (fun (W : World) (hW : Below W0.heap.size W0 W) => (tfirst_any A n c L i W (HN.below hW) hn hnb hs).mono fun _ _ h => RetF.det h)
  have H30 := Lib.hid (fun (W : World) (hW : Below W0.heap.size W0 W) => (rfirst_any A n c L i W (HN.below hW) hn hnb hs).mono fun _ _ h => RetF.det h)
  have H28 := Lib.hid (fun (v u : Value) (W : World) (h1 : IntsAt W v (idx 2 L n)) (h2 : IntsAt W u (idx 2 L n)) => eqints_true v u (idx 2 L n) W h1 h2 (by have := idx_len 2 L n; omega))
  have HSF := Lib.hid (show ∀ W, Below W0.heap.size W0 W → (W.cell? ⟨w.heap.size, 0, none⟩ = some (.slice A n c) ∧ Below W0.heap.size W0 W) from fun W hW => ⟨(hW.cell (p := ⟨w.heap.size, 0, none⟩) (by show w.heap.size < W0.heap.size; omega)).trans (blk1 hG0), hW⟩)
  generalize pb (SoundL L) = bS at *
  generalize pb (GoodL L) = bG at *
  generalize (idx 8 L n).length = kc at *
  generalize idx 2 L n = lv at *
  generalize firstV L i = fv at *
  have HA0 := Lib.hid ha0
  clear hN HN ha0 hG0 hn hs
  go_region_held3 (fun W => W.cell? ⟨w.heap.size, 0, none⟩ = some (.slice A n c) ∧ Below W0.heap.size W0 W) (first | exact HSF.out _ (Below.refl _ _).drew | exact HSF.out _ (S.bel_trans (held2 (by assumption)) (by assumption)) | fail) (first
    | (go_at_call 22; (with_reducible refine (H22.out _ (held2 (by assumption))).mono ?_); rintro e w22 ⟨rfl, hb22⟩)
    | (go_at_call 25; (with_reducible refine (H25.out _ (held2 (by assumption))).mono ?_); rintro e w25 ⟨rfl, hb25⟩)
    | (go_at_call 13; (with_reducible refine (H13.out _ (held2 (by assumption))).mono ?_); rintro e w13 ⟨rfl, hb13⟩)
    | (go_at_call 26; (with_reducible refine (H26.out _ (held2 (by assumption))).mono ?_); rintro e w26 ⟨rfl, hb26⟩)
    | (go_at_call 23; (with_reducible refine (H23.out _ (held2 (by assumption))).mono ?_); rintro e w23 ⟨rfl, hb23⟩)
    | (go_at_call 27; (with_reducible refine (H27.out _ (held2 (by assumption))).mono ?_); rintro e w27 ⟨rfl, hb27⟩)
    | (go_at_call 24; (with_reducible refine (H24.out _ (held2 (by assumption))).mono ?_); rintro e w24 ⟨v24, rfl, ho24, hb24⟩; have HI24 := Lib.hid (IntsAt.own ho24); clear ho24; (try (have HP29 := Lib.hid (HI29.out.below hb24))))
    | (go_at_call 29; (with_reducible refine (H29.out _ (held2 (by assumption))).mono ?_); rintro e w29 ⟨v29, rfl, ho29, hb29⟩; have HI29 := Lib.hid (IntsAt.own ho29); clear ho29; (try (have HP24 := Lib.hid (HI24.out.below hb29))))
    | (go_at_call 28; (with_reducible refine (H28.out _ _ _ HP24.out HI29.out).mono ?_); rintro e w28 ⟨rfl, hb28⟩)
    | (go_at_call 28; (with_reducible refine (H28.out _ _ _ HI24.out HP29.out).mono ?_); rintro e w28 ⟨rfl, hb28⟩)
    | (go_at_call 17; (with_reducible refine (H17.out _ (held2 (by assumption))).mono ?_); rintro e w17 ⟨rfl, hb17⟩)
    | (go_at_call 30; (with_reducible refine (H30.out _ (held2 (by assumption))).mono ?_); rintro e w30 ⟨rfl, hb30⟩)
    | fail)
  go_wp2_with fail
  go_ret
  exact ⟨rfl, HA0.out.trans ((held2 (by assumption)).mono HA0.out.size)⟩
end Go.Proofs.Ytceeimolfalmpaa
