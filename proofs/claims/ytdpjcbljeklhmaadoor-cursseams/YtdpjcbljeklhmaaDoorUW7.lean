/-
  What All of utf and of the page's own, and Bounds, answer at every text of at most 1000000 bytes: new slices that hold the symbols, the boundaries. Condition for utf's: the two tables of unicode/utf8 lie as their text lays them.
-/
import Derived.Test.YtdpjcbljeklhmaaDoorUW6
namespace Go.Proofs.YtdpjcbljeklhmaaDoor.U
open Go.RowKit ObUtf

theorem Tryd.info3 : (Tryd.prog.info? 3).map (fun i => (i.zero, i.size, i.bytes)) = some (some (.int .i64 0), 1, 8) := by kernel_rfl
/-- The call hands back a slice of its own that holds the numbers; what was stays. -/
def RetInts (zs : List Int) (w : World) (e : Ending) (w' : World) : Prop :=
  ∃ v, e = .returned v ∧ w'.ownsRow w.heap.size 3 1 v zs.length (zs.map (Value.int .i64)) ∧ Below w.heap.size w w'
theorem own_below {w w' : World} {base : Nat} {e : TypeId} {size : Nat} {v : Value} {n : Nat} {xs : List Value} (h : w.ownsRow base e size v n xs) (hb : Below w.heap.size w w') : w'.ownsRow base e size v n xs := by
  refine h.kept (row := none) ⟨hb.os, hb.tape, hb.output, hb.size, fun i hi _ => hb.block i hi⟩ ?_
  cases hv : v.ownBlock with
  | none => exact Or.inl rfl
  | some g => exact Or.inr (by simp)
theorem one_cell (w : World) (v : Value) (t : TypeId) : ∀ j u, [v][j]? = some u → (w.alloc (.cells #[v] t)).cell? ((⟨w.heap.size, 0, none⟩ : Addr).add j) = some u := by
  intro j u hj
  match j, hj with
  | 0, hj => simp at hj; subst hj; simp [Addr.add]
/-- One number appended: what is owned, and what stays. -/
theorem push_rel {w wr w1 w2 : World} {v v' : Value} {n : Nat} {xs : List Value} {y : Int} {o : Obj} (hB : Below w.heap.size w wr) (hb : Below wr.heap.size wr w1) (hown : wr.ownsRow w.heap.size 3 1 v n xs)
    (hown' : w2.ownsRow w.heap.size 3 1 v' (n + 1) (xs ++ [.int .i64 y])) (hg : (w1.alloc o).grownBy w2 v.ownBlock) : w2.ownsRow w.heap.size 3 1 v' (n + 1) (xs ++ [.int .i64 y]) ∧ Below w.heap.size w w2 := by
  have h1 := bel_trans hB hb
  have h2 := h1.alloc (by have := h1.size; omega) o
  refine ⟨hown', h2.grown hg (by have := h1.size; simp; omega) (fun k hk => ((own_below hown hb).lt k hk).1)⟩

set_option maxHeartbeats 1000000 in
set_option maxRecDepth 100000 in
theorem rall_any (s : ByteArray) (w : World) (hs : s.size ≤ 1000000) : Calls Tryd.prog 41 #[.string s] w (RetInts (syms s) w) := by
  obtain ⟨i0, hi, hz0, hz1, hz2⟩ := info_parts Tryd.info3
  go_enter Tryd.func41, Tryd.ntmps41
  go_wp2
  go_loopw [3, 4] (fun v t wr => ∃ k : Nat, t = .int .i64 (bd s k) ∧ (∀ c, c < k → bd s c < s.size) ∧ k ≤ bd s k ∧ wr.ownsRow w.heap.size 3 1 v k ((symsTo s k).map (Value.int .i64)) ∧ Below w.heap.size w wr) (fun _ t _ => s.size - (intOf t).toNat)
  case atStart => exact ⟨0, rfl, fun c h => by omega, Nat.le_refl _, World.ownsRow_nil _ _ _ _, Below.refl _ _⟩
  case round =>
    obtain ⟨k, rfl, hc, hkb, hown, hb⟩ := hrel
    have HC := Lib.hid hc
    have HO := Lib.hid hown
    have HAT := Lib.hid (rat_any s (bd s k) wr (by unfold maxLen; omega))
    have hle := bd_le s k
    clear hc hown
    have e2 : wdI s (bd s k : Int) = wd s (bd s k) := by unfold wdI; rw [if_neg (by omega)]; rfl
    have e1 : syI s (bd s k : Int) = sy s (bd s k) := by unfold syI; rw [if_neg (by omega)]; rfl
    rw [e1, e2] at HAT
    clear e1 e2
    have HB := Lib.hid (show bd s (k + 1) = bd s k + wd s (bd s k) from rfl)
    have HS := Lib.hid (symsTo_succ s k)
    by_cases hlt : bd s k < s.size
    · have hp := wd_pos hlt
      have hw4 := wd_le s (bd s k)
      have hf := wd_fit hle
      have HK := Lib.hid (show ∀ c, c < k + 1 → bd s c < s.size from fun c h => by
        rcases Nat.lt_or_ge c k with h1 | h1
        · exact HC.out c h1
        · obtain rfl : c = k := by omega
          exact hlt)
      generalize sy s (bd s k) = y at *
      generalize wd s (bd s k) = v1 at *
      generalize bd s k = p at *
      go_wp2_with (first | (go_at_call 17; refine HAT.out.mono ?_; rintro e w1 ⟨rfl, hbl⟩; have HO1 := Lib.hid (own_below HO.out hbl)) | (at_builtin; refine wpList_append_own _ rfl _ _ 22 rfl w.heap.size 3 i0 (.int .i64 0) 1 8 Tryd.underlying22 hi hz0 hz1 hz2 rfl (by decide) _ _ _ rfl (HO1.out.alloc _) ⟨w1.heap.size, 0, none⟩ 1 1 [.int .i64 y] rfl rfl ?c1 ?c2 ?c3 ?c4 ?c5 ?_))
      case c1 => exact one_cell _ _ _
      case c2 => intro u hu; simp at hu; subst hu; rfl
      case c3 => unfold maxLen; omega
      case c4 => omega
      case c5 => have := hb.size; have := hbl.size; simp; omega
      intro v' w2 hown' hgrow _
      have R := push_rel hb hbl HO.out hown' hgrow
      clear hown' hgrow
      have R1 := Lib.hid R.1; have R2 := R.2
      clear R
      go_wp2
      go_roundw
      case rel => exact ⟨k + 1, by rw [HB.out]; go_num, HK.out, by rw [HB.out]; omega, by rw [HS.out]; simpa using R1.out, R2⟩
      case measure => simp [intOf]; omega
    · have hpe : bd s k = s.size := by omega
      have HK := Lib.hid (cnt_uniq hpe HC.out)
      generalize bd s k = p at *
      clear HAT hpe
      go_wp2
      go_ret
      refine ⟨_, rfl, ?_, hb⟩
      have h := HO.out
      unfold syms; rw [symsTo_length, ← HK.out]
      exact h
end Go.Proofs.YtdpjcbljeklhmaaDoor.U
