/-
  slices.Backward over a slice of numbers: what the iterator tells, whatever the loop's body does to other blocks. Condition: the slice lies in a block that the body leaves.
-/
import Derived.RangeFuncNested
import Derived.RangeFuncBound
import Derived.RangeFuncCalls
import Derived.RangeFuncLeaves
import Derived.Shelf.Abstract
import Derived.Shelf.RegionOpen
import Derived.WalkKit
import Derived.OwnWalkIn
import Derived.TacticsInMore
import Derived.LoopNIn
import Derived.LoopIn
import Derived.Test.YtceeimolfalmpaaVJ
namespace Go.Proofs.Ytceeimolfalmpaa
open Go.RowKit ObSets ObTree Go.Shelf
attribute [local go_sem] Oper.semAt_some

/-- All blocks below N but one stay. -/
def KpG (g N : Nat) (W W' : World) : Prop := W.heap.size ≤ W'.heap.size ∧ ∀ k, k < N → k ≠ g → W'.heap[k]? = W.heap[k]?
theorem KpG.refl (g N : Nat) (W : World) : KpG g N W W := ⟨Nat.le_refl _, fun _ _ _ => rfl⟩
theorem KpG.trans {g N : Nat} {A B C : World} (h : KpG g N A B) (k : KpG g N B C) : KpG g N A C := ⟨Nat.le_trans h.1 k.1, fun j hj hn => (k.2 j hj hn).trans (h.2 j hj hn)⟩
theorem KpG.cell {g N : Nat} {A B : World} (h : KpG g N A B) {p : Addr} (h1 : p.block < N) (h2 : p.block ≠ g) : B.cell? p = A.cell? p := by simp only [World.cell?, h.2 p.block h1 h2]
theorem kpG_b {g N : Nat} {w : World} (hN : N ≤ w.heap.size) (W : World) (l : Nat) (o o' : Obj) (hl : w.heap.size ≤ l) (h : W.heap[l]? = some o) (_ : o.isCells = false) (_ : o.isWalk = false) : KpG g N W (W.putObj l o') := by
  have hg := grownBy_putObj' W l o'
  exact ⟨hg.size, fun k hk _ => hg.block k (by have := (Array.getElem?_eq_some_iff.1 h).1; omega) (fun e => by injection e with e; omega)⟩
/-- What has come when so many rounds are over. -/
def upto {α : Type} (f : Nat → α) (k : Nat) : List α := (List.range k).map f
theorem upto_succ {α : Type} (f : Nat → α) (k : Nat) : upto f (k + 1) = upto f k ++ [f k] := by simp [upto, List.range_succ]
theorem upto_len {α : Type} (f : Nat → α) (k : Nat) : (upto f k).length = k := by simp [upto]
set_option maxRecDepth 100000 in
set_option maxHeartbeats 2000000 in
theorem back1_in {α : Type} (encs : α → Array Value) (f : Nat → α) (F : Fence) (n : Nat) (h61 : F.fn 61) (hro : F.round = none) (hn : 1 ≤ n) (l Bs g N b cap len : Nat) (zs : List Int) (hlz : zs.length = len) (hreach : len ≤ 1000) (hb : b < N) (hbg : b ≠ g) (hBs : Bs < N) (hBg : Bs ≠ g) (hf : ∀ (k : Nat) z, k < len → zs[len - 1 - k]? = some z → encs (f k) = #[.int .i64 ((len - 1 - k : Nat) : Int), .int .i64 z]) (J Jx : List α → World → Prop)
    (hY : ∀ pre x W, J pre W → pre.length < len → YieldAt F (n - 1) Try.prog l (encs x) W fun e W' =>
      (e = .returned (.bool true) ∧ J (pre ++ [x]) W' ∧ KpG g N W W') ∨ (e = .returned (.bool false) ∧ Jx (pre ++ [x]) W'))
    (W : World) (hc0 : W.cell? ⟨Bs, 0, none⟩ = some (.slice (some ⟨b, 0, none⟩) len cap)) (hc : ∀ j z, zs[j]? = some z → W.cell? ⟨b, j, none⟩ = some (.int .i64 z)) (h0 : J [] W) :
    CallsIn F n Try.prog 61 #[.func (.yield l) #[] #[], .pointer (some ⟨Bs, 0, none⟩)] W fun e W' => (∃ v, e = .returned v) ∧
      ((∃ ys, ys = upto f len ∧ J ys W') ∨ (∃ pre, (∃ k, k ≤ len ∧ pre = upto f k) ∧ Jx pre W')) := by
  refine callsIn_of_wp Try.func61 rfl h61 ?_ hro
  simp only [Try.ntmps61, List.size_toArray, List.length_cons, List.length_nil, Nat.reduceAdd, Nat.reduceSub, Array.replicate_succ, Array.replicate_zero, List.push_toArray, List.append_toArray, List.nil_append, List.cons_append]
  gi_wp2
  gi_loopw [3] (fun i wr => ∃ k : Nat, k ≤ len ∧ i = .int .i64 ((len : Int) - 1 - k) ∧ J (upto f k) wr ∧ KpG g N W wr)
    (fun i _ => (intOf i + 1).toNat)
  case atStart => exact ⟨0, Nat.zero_le _, congrArg (Value.int .i64) (by omega), h0, KpG.refl _ _ _⟩
  case round =>
    obtain ⟨k, hk, rfl, hJs, hnx⟩ := hrel
    by_cases hlt : k < len
    · obtain ⟨m, hm⟩ : ∃ m, len - 1 - k = m := ⟨_, rfl⟩
      obtain ⟨z, hz⟩ : ∃ z, zs[m]? = some z := ⟨_, List.getElem?_eq_getElem (by omega)⟩
      have e1 : (len : Int) - 1 - k = (m : Int) := by omega
      have hcs := (hnx.cell (p := ⟨Bs, 0, none⟩) hBs hBg).trans hc0
      have hcx := (hnx.cell (p := ⟨b, m, none⟩) hb hbg).trans (hc m z hz)
      have hml : (m : Int) < (len : Int) := by omega
      have hs := upto_succ f k
      have hfk := hf k z hlt (by rw [hm]; exact hz)
      rw [hm] at hfk
      have d0 : decide ((0 : Int) ≤ (m : Int)) = true := decide_eq_true (by omega)
      rw [e1]
      obtain ⟨fn, tmps, assign, body, hy, hR⟩ := hY _ (f k) wr hJs (by rw [upto_len]; exact hlt)
      rw [hfk] at hy
      gi_wp2
      refine hR.mono ?_
      rintro e W3 (⟨rfl, hJ3, hk3⟩ | ⟨rfl, hJx3⟩)
      · gi_wp2
        go_roundw
        case rel => exact ⟨k + 1, by omega, congrArg (Value.int .i64) (by omega), by rw [hs]; exact hJ3, hnx.trans hk3⟩
        case measure => simp [intOf]
      · gi_wp2
        refine bodyPost_ret (results_none rfl _ _ _) rfl ?_
        exact ⟨⟨_, rfl⟩, .inr ⟨_, ⟨k + 1, by omega, hs.symm⟩, hJx3⟩⟩
    · obtain rfl : k = len := by omega
      have e1 : (k : Int) - 1 - k = -1 := by omega
      rw [e1]
      gi_wp2
      go_end0
      exact ⟨⟨_, rfl⟩, .inl ⟨_, rfl, hJs⟩⟩
set_option maxHeartbeats 1000000 in
/-- slices.Backward(s): the slice's value lies in a new block; the function value has it. -/
theorem back_in (F : Fence) (n : Nat) (h50 : F.fn 50) (hro : F.round = none) (a : Option Addr) (len cap : Nat) (w : World) :
    CallsIn F n Try.prog 50 #[.slice a len cap] w fun e w' => e = .returned (.func (.func 61) #[] #[.pointer (some ⟨w.heap.size, 0, none⟩)]) ∧ w' = w.alloc (.cells #[.slice a len cap] 29) := by
  refine callsIn_of_wp Try.func50 rfl h50 ?_ hro
  simp only [Try.ntmps50, List.size_toArray, List.length_cons, List.length_nil, Nat.reduceAdd, Nat.reduceSub, Array.replicate_succ, Array.replicate_zero, List.push_toArray, List.append_toArray, List.nil_append, List.cons_append]
  gi_wp2
  go_ret
  exact ⟨rfl, rfl⟩
theorem back_stops {α : Type} (encs : α → Array Value) (f : Nat → α) (F : Fence) (n : Nat) (h61 : F.fn 61) (hro : F.round = none) (hn : 1 ≤ n) (Bs g N b cap len : Nat) (zs : List Int) (hlz : zs.length = len) (hreach : len ≤ 1000) (w : World) (hbN : b < N) (hbg : b ≠ g) (hBs : Bs < N) (hBg : Bs ≠ g) (hN : N ≤ w.heap.size)
    (hc0 : w.cell? ⟨Bs, 0, none⟩ = some (.slice (some ⟨b, 0, none⟩) len cap)) (hc : ∀ j z, zs[j]? = some z → w.cell? ⟨b, j, none⟩ = some (.int .i64 z)) (hf : ∀ (k : Nat) z, k < len → zs[len - 1 - k]? = some z → encs (f k) = #[.int .i64 ((len - 1 - k : Nat) : Int), .int .i64 z]) :
    SeqStopsK F n Try.prog 61 #[.pointer (some ⟨Bs, 0, none⟩)] encs (KpG g N) (fun ys => ys = upto f len)
      (fun pre => ∃ k, k ≤ len ∧ pre = upto f k) len w := fun l J Jx W hW _ _ hY h0 =>
  back1_in encs f F n h61 hro hn l Bs g N b cap len zs hlz hreach hbN hbg hBs hBg hf J Jx hY W ((hW.cell (p := ⟨Bs, 0, none⟩) (by show Bs < w.heap.size; omega)).trans hc0) (fun j z hz => (hW.cell (p := ⟨b, j, none⟩) (by show b < w.heap.size; omega)).trans (hc j z hz)) h0
end Go.Proofs.Ytceeimolfalmpaa
