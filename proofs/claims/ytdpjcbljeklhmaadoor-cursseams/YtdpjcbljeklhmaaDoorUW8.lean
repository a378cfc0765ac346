/-
  What Bounds, Is and Before of the page's own answer at every text of at most 1000000 bytes.
-/
import Derived.Test.YtdpjcbljeklhmaaDoorUW7
namespace Go.Proofs.YtdpjcbljeklhmaaDoor.U
open Go.RowKit ObUtf

set_option maxHeartbeats 1000000 in
set_option maxRecDepth 100000 in
theorem bounds_any (s : ByteArray) (w : World) (hs : s.size ≤ 1000000) : Calls Tryd.prog 34 #[.string s] w (RetInts (bdsTo s (cnt s + 1)) w) := by
  obtain ⟨i0, hi, hz0, hz1, hz2⟩ := info_parts Tryd.info3
  have h0 : (w.alloc (.cells #[.int .i64 0] 3)).ownsRow w.heap.size 3 1 (.slice (some ⟨w.heap.size, 0, none⟩) 1 1) 1 ((bdsTo s 1).map (Value.int .i64)) := World.ownsRow_lit w #[.int .i64 0] 1 (Nat.le_refl _) (by unfold maxLen; omega) rfl
  have HZ := Lib.hid h0
  clear h0
  go_enter Tryd.func34, Tryd.ntmps34
  go_wp2
  go_loopw [3, 4] (fun v t wr => ∃ k : Nat, t = .int .i64 (bd s k) ∧ (∀ c, c < k → bd s c < s.size) ∧ k ≤ bd s k ∧ wr.ownsRow w.heap.size 3 1 v (k + 1) ((bdsTo s (k + 1)).map (Value.int .i64)) ∧ Below w.heap.size w wr) (fun _ t _ => s.size - (intOf t).toNat)
  case atStart => exact ⟨0, rfl, fun c h => by omega, Nat.le_refl _, HZ.out, (Below.refl _ _).alloc (Nat.le_refl _) _⟩
  case round =>
    obtain ⟨k, rfl, hc, hkb, hown, hb⟩ := hrel
    have HC := Lib.hid hc
    have HO := Lib.hid hown
    have HAT := Lib.hid (rat_any s (bd s k) wr (by unfold maxLen; omega))
    have hle := bd_le s k
    clear hc hown
    have e2 : wdI s (bd s k : Int) = wd s (bd s k) := by unfold wdI; rw [if_neg (by omega)]; rfl
    rw [e2] at HAT
    generalize syI s (bd s k : Int) = y at *
    clear e2
    have HB := Lib.hid (show bd s (k + 1) = bd s k + wd s (bd s k) from rfl)
    have HS := Lib.hid (bdsTo_succ s (k + 1))
    by_cases hlt : bd s k < s.size
    · have hp := wd_pos hlt
      have hw4 := wd_le s (bd s k)
      have hf := wd_fit hle
      have HK := Lib.hid (show ∀ c, c < k + 1 → bd s c < s.size from fun c h => by
        rcases Nat.lt_or_ge c k with h1 | h1
        · exact HC.out c h1
        · obtain rfl : c = k := by omega
          exact hlt)
      generalize wd s (bd s k) = v1 at *
      generalize bd s k = p at *
      go_wp2_with (first | (go_at_call 17; refine HAT.out.mono ?_; rintro e w1 ⟨rfl, hbl⟩; have HO1 := Lib.hid (own_below HO.out hbl)) | (at_builtin; refine wpList_append_own _ rfl _ _ 22 rfl w.heap.size 3 i0 (.int .i64 0) 1 8 Tryd.underlying22 hi hz0 hz1 hz2 rfl (by decide) _ _ _ rfl (HO1.out.alloc _) ⟨w1.heap.size, 0, none⟩ 1 1 [.int .i64 ((p : Int) + v1)] rfl rfl ?c1 ?c2 ?c3 ?c4 ?c5 ?_))
      case c1 => exact one_cell _ _ _
      case c2 => intro u hu; simp at hu; subst hu; rfl
      case c3 => unfold maxLen; omega
      case c4 => omega
      case c5 => have := hb.size; have := hbl.size; simp; omega
      intro v' w2 hown' hgrow _
      have R := push_rel hb hbl HO.out hown' hgrow
      clear hown' hgrow
      have R1 := Lib.hid R.1; have R2 := R.2
      clear R
      go_wp2
      go_roundw
      case rel => exact ⟨k + 1, by rw [HB.out]; go_num, HK.out, by rw [HB.out]; omega, by rw [HS.out, HB.out]; simpa using R1.out, R2⟩
      case measure => simp [intOf]; omega
    · have hpe : bd s k = s.size := by omega
      have HK := Lib.hid (cnt_uniq hpe HC.out)
      generalize bd s k = p at *
      clear HAT hpe
      go_wp2
      go_ret
      refine ⟨_, rfl, ?_, hb⟩
      have h := HO.out
      rw [bdsTo_length, ← HK.out]
      exact h
end Go.Proofs.YtdpjcbljeklhmaaDoor.U
