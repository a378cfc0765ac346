/-
  What same and does answer: true, where the chunk and the page's own text are of one size, one text and one place; and they stay so. Conditions: no block of the one is one of the other's.
-/
import Derived.Test.YtjciadimeejmjaaW10
namespace Go.Proofs.Ytjciadimeejmjaa
open Go.RowKit ObGap

/-- The cells of the page's own, behind what stays. -/
def TxS (w : World) (t mx : Nat) (s : Bs) (p : Nat) (W : World) : Prop := W.cell? ⟨t, 0, none⟩ = some (.int .i64 mx) ∧ W.cell? ⟨t, 1, none⟩ = some (str s) ∧ W.cell? ⟨t, 2, none⟩ = some (.int .i64 p) ∧ Below w.heap.size w W
theorem TxS.mk {w W : World} {t mx : Nat} {s : Bs} {p : Nat} (h : Tx w t mx s p) (hb : Below w.heap.size w W) : TxS w t mx s p W := ⟨(h.on hb).cells.1, (h.on hb).cells.2.1, (h.on hb).cells.2.2.1, hb⟩
theorem txs_below {w W : World} {A B C : Prop} (h : A ∧ B ∧ C ∧ Below w.heap.size w W) : Below w.heap.size w W := h.2.2.2
set_option maxHeartbeats 1000000 in
theorem same_any {w : World} {c g t mx : Nat} {s : Bs} {p : Nat} (hc : Chk w c g mx s p) (ht : Tx w t mx s p) : Calls Try.prog 12 #[ptr c, ptr t] w fun e w' => e = .returned (.bool true) ∧ Below w.heap.size w w' := by
  have H1 := Lib.hid (fun W (hb : Below w.heap.size w W) => text_chk (hc.on hb))
  have H2 := Lib.hid (fun W (hb : Below w.heap.size w W) => len_chk (hc.on hb))
  have H3 := Lib.hid (fun W (hb : Below w.heap.size w W) => place_chk (hc.on hb))
  have H4 := Lib.hid (fun W (hb : Below w.heap.size w W) => size_chk (hc.on hb))
  have HT := Lib.hid ht
  clear hc ht
  go_enter Try.func12, Try.ntmps12
  go_wp2_with fail
  go_region_held3 (fun W => W.cell? ⟨t, 0, none⟩ = some (.int .i64 mx) ∧ W.cell? ⟨t, 1, none⟩ = some (str s) ∧ W.cell? ⟨t, 2, none⟩ = some (.int .i64 p) ∧ Below w.heap.size w W) (first | exact TxS.mk HT.out (Below.refl _ _).drew | exact TxS.mk HT.out (bel_trans (txs_below (by assumption)) (by assumption))) (first
    | (go_at_call 19; refine (H1.out _ (txs_below (by assumption))).mono ?_; rintro e w3 ⟨rfl, hb3⟩)
    | (go_at_call 23; refine (H2.out _ (txs_below (by assumption))).mono ?_; rintro e w4 ⟨rfl, hb4⟩)
    | (go_at_call 24; refine (H3.out _ (txs_below (by assumption))).mono ?_; rintro e w5 ⟨rfl, hb5⟩)
    | (go_at_call 22; refine (H4.out _ (txs_below (by assumption))).mono ?_; rintro e w6 ⟨rfl, hb6⟩))
  all_goals (
    go_wp2_with fail
    go_ret
    exact ⟨rfl, txs_below (by assumption)⟩)
end Go.Proofs.Ytjciadimeejmjaa
