/-
  What Edits leaves of a list of edits: the first so many, each text cut short. Condition: at most 1000 are asked for.
-/
import Derived.Test.YtlobaokeagpefaaMem2
namespace Go.Proofs.Ytlobaokeagpefaa
open Go.RowKit ObGap

theorem four_cells (w : World) (a b c d : Value) (t : TypeId) : ∀ j u, [a, b, c, d][j]? = some u → (w.alloc (.cells #[a, b, c, d] t)).cell? ((⟨w.heap.size, 0, none⟩ : Addr).add j) = some u := by
  intro j u hj
  match j, hj with
  | 0, hj => simp at hj; subst hj; simp [Addr.add]
  | 1, hj => simp at hj; subst hj; simp [Addr.add]
  | 2, hj => simp at hj; subst hj; simp [Addr.add]
  | 3, hj => simp at hj; subst hj; simp [Addr.add]
  | j + 4, hj => simp at hj
theorem four_cells1 (w : World) (o : Obj) (a b c d : Value) (t : TypeId) : ∀ j u, [a, b, c, d][j]? = some u → ((w.alloc o).alloc (.cells #[a, b, c, d] t)).cell? ((⟨w.heap.size + 1, 0, none⟩ : Addr).add j) = some u := by
  have := four_cells (w.alloc o) a b c d t
  rwa [show (w.alloc o).heap.size = w.heap.size + 1 by simp] at this
theorem ones4 (a b c : Int) (s : Bs) : ∀ u ∈ [Value.int .i64 a, Value.int .i64 b, Value.int .i64 c, str s], u.oneCell' = true := by
  intro u hu; simp at hu; rcases hu with rfl | rfl | rfl | rfl <;> rfl
/-- One edit appended: what is owned, and what stays. -/
theorem push_ed {w wr w2 : World} {v v' : Value} {l : List Ed} {x : Ed} {o1 o2 : Obj} (hB : Below w.heap.size w wr) (hown : Ow wr w.heap.size v l)
    (hown' : w2.ownsRow w.heap.size 34 4 v' (l.length + 1) (cellsE l ++ [.int .i64 x.k, .int .i64 x.a, .int .i64 x.n, str x.s])) (hg : ((wr.alloc o1).alloc o2).grownBy w2 v.ownBlock) : Ow w2 w.heap.size v' (l ++ [x]) ∧ Below w.heap.size w w2 := by
  have h1 := (hB.alloc hB.size o1).alloc (by have := hB.size; simp; omega) o2
  refine ⟨?_, h1.grown hg (by have := hB.size; simp; omega) (fun k hk => (hown.lt k hk).1)⟩
  unfold Ow
  rw [cellsE_append, List.length_append]
  exact hown'
theorem eds_succ {l : List Ed} {most each k : Nat} (hk : k < l.length) (hm : k < most) : (eds l most each).take (k + 1) = (eds l most each).take k ++ [{ l[k] with s := l[k].s.take each }] := by
  have h1 : k < (eds l most each).length := by simp [eds]; omega
  rw [List.take_succ_eq_append_getElem h1]
  congr 1
  simp [eds]
theorem eds_all {l : List Ed} {most each k : Nat} (h : l.length ≤ k ∨ most ≤ k) : (eds l most each).take k = eds l most each := by
  apply List.take_of_length_le
  simp [eds]; omega
set_option maxHeartbeats 1000000 in
theorem edits_any (A : Option Addr) (l : List Ed) (cap most each : Nat) (w : World) (h : Eds w w.heap.size A l) (hm : most ≤ 1000) :
    Calls Try.prog 11 #[.slice A l.length cap, .int .i64 (most : Int), .int .i64 (each : Int)] w (RetE (eds l most each) w) := by
  have hi := info34
  cases hq : Try.prog.info? 34 with
  | none => rw [hq] at hi; cases hi
  | some i0 =>
  rw [hq] at hi
  simp only [Option.map_some, Option.some.injEq, Prod.mk.injEq] at hi
  obtain ⟨hz0, hz1, hz2⟩ := hi
  have HL := Lib.hid h
  clear h
  go_enter Try.func11, Try.ntmps11
  go_wp2_with fail
  go_loopw [7, 8] (fun v t wr => ∃ k : Nat, k ≤ most ∧ k ≤ l.length ∧ t = .int .i64 k ∧ Ow wr w.heap.size v ((eds l most each).take k) ∧ Below w.heap.size w wr) (fun _ t _ => most - (intOf t).toNat)
  case atStart => exact ⟨0, by omega, by omega, rfl, Ow.nil _ _, Below.refl _ _⟩
  case round =>
    obtain ⟨k, hk, hkl, rfl, hO, hb⟩ := hrel
    have HO := Lib.hid hO
    clear hO
    by_cases h1 : k < l.length
    · have d1 : decide (k < l.length) = true := by simp [h1]
      by_cases h2 : k < most
      · have d2 : decide (k < most) = true := by simp [h2]
        obtain ⟨b, off, rfl, hbl, hE⟩ := (HL.out.below hb).at_ (k := k) h1
        have HS := Lib.hid (eds_succ (each := each) h1 h2)
        generalize hx : l[k] = x at *
        obtain ⟨xk, xa, xn, xs⟩ := x
        obtain ⟨e0, e1, e2, e3⟩ := hE
        simp only at e0 e1 e2 e3
        have i1 : (k : Int) < (l.length : Int) := by omega
        go_wp2_with fail
        refine (lcut_any xs each _).mono ?_
        rintro e w2 ⟨rfl, rfl⟩
        have HML := Lib.hid (show ((eds l most each).take k).length ≤ 1000 by simp; omega)
        generalize hmm : (eds l most each).take k = m at HO HS HML
        clear hmm
        go_wp2_with (at_builtin; refine wpList_append_own _ rfl _ _ 22 rfl w.heap.size 34 i0 (.agg #[.int .i64 0, .int .i64 0, .int .i64 0, str []]) 4 40 Try.underlying22 hq hz0 hz1 hz2 rfl (by omega) _ m.length (cellsE m) rfl ((HO.out.alloc _).alloc _) ⟨wr.heap.size + 1, 0, none⟩ 1 1 [.int .i64 xk, .int .i64 xa, .int .i64 xn, str (xs.take each)] rfl rfl (four_cells1 _ _ _ _ _ _ _) (ones4 _ _ _ _) ?c3 ?c4 ?c5 ?_)
        case c3 => have := HML.out; unfold maxLen; omega
        case c4 => have := HML.out; omega
        case c5 => have := hb.size; simp; omega
        intro v' w6 hown' hgrow _
        have R := push_ed (x := ⟨xk, xa, xn, xs.take each⟩) hb HO.out hown' hgrow
        clear hown' hgrow
        have R1 := Lib.hid R.1
        have R2 := Lib.hid R.2
        clear R
        go_wp2_with fail
        go_roundw
        case rel => exact ⟨k + 1, by omega, by omega, by go_num, (by rw [HS.out]; exact R1.out), R2.out⟩
        case measure => simp [intOf]; omega
      · have d2 : decide (k < most) = false := by simp; omega
        have HE := Lib.hid (show Ow wr w.heap.size _ (eds l most each) by have := HO.out; rw [eds_all (by omega)] at this; exact this)
        go_wp2_with fail
        go_ret
        exact ⟨_, rfl, HE.out, hb⟩
    · have d1 : decide (k < l.length) = false := by simp; omega
      have HE := Lib.hid (show Ow wr w.heap.size _ (eds l most each) by have := HO.out; rw [eds_all (by omega)] at this; exact this)
      go_wp2_with fail
      go_ret
      exact ⟨_, rfl, HE.out, hb⟩
end Go.Proofs.Ytlobaokeagpefaa
