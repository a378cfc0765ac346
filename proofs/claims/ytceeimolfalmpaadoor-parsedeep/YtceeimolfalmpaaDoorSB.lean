/-
  What the small functions on numbers and ranges answer, for every argument: Good, Next, Prev of utf and of the page's own, rank, number, apart.
  What both, rng and clip answer, for every argument.
  What the page's own cut answers, for every range.
  Slices of ranges in memory: one that reads as a list of ranges, nil let in; one that the call owns. Plain facts about cells; no function is walked.
  What EqSet answers: whether two slices of ranges read as one list. Condition: at most 1000000 ranges each.
  What Has answers, of the program and of the page's own: whether a list of ranges has a symbol. Condition: at most 1000000 ranges.
  What shift of the program answers: the ranges, each end moved. Conditions: at most 1000000 ranges, whose ends are symbols; a move of at most 1000.
-/
import Derived.Test.YtceeimolfalmpaaDoorProg
import Derived.Test.YtceeimolfalmpaaDoorSA
import Derived.WalkKit
import Derived.WalkSpells
import Derived.WalkLawsBesides
import Derived.Deep.QuietTactic
import Derived.BigQuiet
import Derived.Lib.Hide
import Derived.Laws.ResultCell
import Derived.IntWalk
import Derived.RegionTactic
import Derived.Below
import Derived.Laws.OwnMore
import Derived.Deep.AppendLies
import Derived.Deep.Draws
import Derived.Maps.AppendAt
import Derived.OwnWalk
import Derived.Laws.StructEq
namespace Go.Proofs.YtceeimolfalmpaaDoor.S
open Go.RowKit ObSets

theorem ret_bool {a b : Bool} (h : a = b) : Ending.returned (.bool a) = .returned (.bool b) := by rw [h]
theorem ret_int {k : IntKind} {a b : Int} (h : a = b) : Ending.returned (.int k a) = .returned (.int k b) := by rw [h]
/-- A range as a value. -/
def rv (r : R) : Value := .agg #[.int .i64 r.1, .int .i64 r.2]

set_option maxHeartbeats 400000 in
theorem good_any (x : Int) (w : World) : Calls Tryd.prog 67 #[.int .i64 x] w fun e w' => e = .returned (.bool (sym x)) ∧ w = w' := by
  go_enter Tryd.func67, Tryd.ntmps67
  go_wp2
  all_goals (go_ret; exact ⟨ret_bool (by unfold sym; rw [Bool.eq_iff_iff]; simp; omega), rfl⟩)
set_option maxHeartbeats 400000 in
theorem next_any (x : Int) (w : World) : Calls Tryd.prog 51 #[.int .i64 x] w fun e w' => e = .returned (.int .i64 (nx x)) ∧ w = w' := by
  go_enter Tryd.func51, Tryd.ntmps51
  go_wp2
  all_goals (go_ret; exact ⟨ret_int (by unfold nx; repeat' split; all_goals omega), rfl⟩)
set_option maxHeartbeats 400000 in
theorem prev_any (x : Int) (w : World) : Calls Tryd.prog 50 #[.int .i64 x] w fun e w' => e = .returned (.int .i64 (pv x)) ∧ w = w' := by
  go_enter Tryd.func50, Tryd.ntmps50
  go_wp2
  all_goals (go_ret; exact ⟨ret_int (by unfold pv; repeat' split; all_goals omega), rfl⟩)
/-- How many symbols stand below a symbol. -/
def rk (x : Int) : Int := if x ≤ 55295 then x else if x ≤ 1114111 then x - 2048 else x - 2176
set_option maxHeartbeats 400000 in
theorem apart_any (a b : R) (w : World) : Calls Tryd.prog 56 #[rv a, rv b] w fun e w' => e = .returned (.bool (ap a b)) ∧ Below w.heap.size w w' := by
  obtain ⟨a1, a2⟩ := a
  obtain ⟨b1, b2⟩ := b
  have HN := Lib.hid (next_any a2)
  have E : ap (a1, a2) (b1, b2) = (decide (nx a2 ≠ -1) && decide (nx a2 < b1)) := rfl
  rw [E]; clear E
  generalize nx a2 = n at *
  unfold rv
  go_enter Tryd.func56, Tryd.ntmps56
  go_wp2_with (go_at_call 51; refine (HN.out _).mono ?_; rintro e w' ⟨rfl, rfl⟩)
  all_goals (go_ret; exact ⟨ret_bool (by rw [Bool.eq_iff_iff]; simp; try omega), ((Below.refl _ _).alloc (Nat.le_refl _) _).alloc (by simp) _⟩)
end Go.Proofs.YtceeimolfalmpaaDoor.S

namespace Go.Proofs.YtceeimolfalmpaaDoor.S
open Go.RowKit ObSets

theorem results_cell1 {fn : Func} {p : Tmp} {ty : TypeId} (h : fn.results = #[.cell p ty]) (tmps : Array Value) (P : Program) (w : World) :
    (results fn tmps).run P w = ((asAddr (tmps.getD p undef)).run P w).andThen fun a w₁ => (loadVar ty a).run P w₁ := by
  simp only [results, h]
  simp [Sem.run_bind, Result.andThen]

theorem ok_of {a b : Int} {r : R} (h : cut r = (a, b)) : ok r = (decide (0 ≤ a) && decide (a ≤ b)) := by unfold ok; rw [h]
theorem cut_of (r : R) : ∃ a' b', cut r = (a', b') ∧ a' = (if sym r.1 = true then r.1 else nx r.1) ∧ b' = (if sym r.2 = true then r.2 else pv r.2) := ⟨_, _, rfl, rfl, rfl⟩
set_option maxHeartbeats 1000000 in
theorem clip_any (r : R) (w : World) : Calls Tryd.prog 52 #[rv r] w fun e w' => e = .returned (.tuple #[rv (if ok r = true then cut r else (0, 0)), .bool (ok r)]) ∧ Below w.heap.size w w' := by
  obtain ⟨a', b', hc, E1, E2⟩ := cut_of r
  obtain ⟨a, b⟩ := r
  rw [ok_of hc, hc]
  simp only at E1 E2
  clear hc
  have HN := Lib.hid (next_any a)
  have HP := Lib.hid (prev_any b)
  generalize nx a = na at *
  generalize pv b = pb at *
  rcases (show (a' < 0) ∨ (0 ≤ a' ∧ b' < a') ∨ (0 ≤ a' ∧ a' ≤ b') by omega) with h | ⟨h1, h2⟩ | ⟨h1, h2⟩
  · rw [show (decide (0 ≤ a') && decide (a' ≤ b')) = false by simp; omega]
    unfold rv
    simp only [Bool.false_eq_true, if_false]
    cases ha : sym a <;> cases hb : sym b <;> rw [ha] at E1 <;> rw [hb] at E2 <;> simp only [Bool.false_eq_true, if_false, if_true] at E1 E2 <;> subst E1 <;> subst E2
    all_goals (go_enter Tryd.func52, Tryd.ntmps52)
    all_goals go_wp2_with (first | (go_at_call 67; refine (good_any _ _).mono ?_; rintro e w' ⟨rfl, rfl⟩) | (go_at_call 51; refine (HN.out _).mono ?_; rintro e w' ⟨rfl, rfl⟩) | (go_at_call 50; refine (HP.out _).mono ?_; rintro e w' ⟨rfl, rfl⟩))
    all_goals (refine bodyPost_ret (v := .tuple #[.agg #[.int .i64 0, .int .i64 0], .bool false]) ?_ rfl ⟨rfl, ?_⟩)
    all_goals first | (rw [results_cell_tmp rfl]; go_simp; done) | (repeat' (first | exact Below.refl _ _ | refine Below.drew ?_ | refine Below.alloc ?_ (by simp <;> omega) _ | refine Below.setCell ?_ (by simp) _))
  · rw [show (decide (0 ≤ a') && decide (a' ≤ b')) = false by simp; omega]
    unfold rv
    simp only [Bool.false_eq_true, if_false]
    cases ha : sym a <;> cases hb : sym b <;> rw [ha] at E1 <;> rw [hb] at E2 <;> simp only [Bool.false_eq_true, if_false, if_true] at E1 E2 <;> subst E1 <;> subst E2
    all_goals (go_enter Tryd.func52, Tryd.ntmps52)
    all_goals go_wp2_with (first | (go_at_call 67; refine (good_any _ _).mono ?_; rintro e w' ⟨rfl, rfl⟩) | (go_at_call 51; refine (HN.out _).mono ?_; rintro e w' ⟨rfl, rfl⟩) | (go_at_call 50; refine (HP.out _).mono ?_; rintro e w' ⟨rfl, rfl⟩))
    all_goals (refine bodyPost_ret (v := .tuple #[.agg #[.int .i64 0, .int .i64 0], .bool false]) ?_ rfl ⟨rfl, ?_⟩)
    all_goals first | (rw [results_cell_tmp rfl]; go_simp; done) | (repeat' (first | exact Below.refl _ _ | refine Below.drew ?_ | refine Below.alloc ?_ (by simp <;> omega) _ | refine Below.setCell ?_ (by simp) _))
  · rw [show (decide (0 ≤ a') && decide (a' ≤ b')) = true by simp; omega]
    unfold rv
    simp only [if_true]
    cases ha : sym a <;> cases hb : sym b <;> rw [ha] at E1 <;> rw [hb] at E2 <;> simp only [Bool.false_eq_true, if_false, if_true] at E1 E2 <;> subst E1 <;> subst E2
    all_goals (go_enter Tryd.func52, Tryd.ntmps52)
    all_goals go_wp2_with (first | (go_at_call 67; refine (good_any _ _).mono ?_; rintro e w' ⟨rfl, rfl⟩) | (go_at_call 51; refine (HN.out _).mono ?_; rintro e w' ⟨rfl, rfl⟩) | (go_at_call 50; refine (HP.out _).mono ?_; rintro e w' ⟨rfl, rfl⟩))
    all_goals (refine bodyPost_ret (v := .tuple #[.agg #[.int .i64 _, .int .i64 _], .bool true]) ?_ rfl ⟨rfl, ?_⟩)
    all_goals first | (rw [results_cell_tmp rfl]; go_simp; done) | (repeat' (first | exact Below.refl _ _ | refine Below.drew ?_ | refine Below.alloc ?_ (by simp <;> omega) _ | refine Below.setCell ?_ (by simp) _))
end Go.Proofs.YtceeimolfalmpaaDoor.S

namespace Go.Proofs.YtceeimolfalmpaaDoor.S
open Go.RowKit ObSets

end Go.Proofs.YtceeimolfalmpaaDoor.S

namespace Go.Proofs.YtceeimolfalmpaaDoor.S
open Go.RowKit ObSets

/-- The cells of a list of ranges, two each. -/
def cellsR : List R → List Value
  | [] => []
  | r :: l => .int .i64 r.1 :: .int .i64 r.2 :: cellsR l
theorem cellsR_len : ∀ l : List R, (cellsR l).length = l.length * 2
  | [] => rfl
  | r :: l => by simp [cellsR, cellsR_len l]; omega
theorem cellsR_append : ∀ a b : List R, cellsR (a ++ b) = cellsR a ++ cellsR b
  | [], b => rfl
  | r :: a, b => by simp [cellsR, cellsR_append a b]
theorem cellsR_at : ∀ (l : List R) (j : Nat) (r : R), l[j]? = some r → (cellsR l)[j * 2]? = some (.int .i64 r.1) ∧ (cellsR l)[j * 2 + 1]? = some (.int .i64 r.2)
  | [], j, r, h => by simp at h
  | q :: l, 0, r, h => by simp at h; subst h; simp [cellsR]
  | q :: l, j + 1, r, h => by
    have := cellsR_at l j r (by simpa using h)
    rw [show (j + 1) * 2 = j * 2 + 1 + 1 by omega]
    simpa [cellsR] using this
theorem cellsR_one : ∀ (l : List R), ∀ u ∈ cellsR l, u.oneCell' = true
  | [], u, h => by simp [cellsR] at h
  | r :: l, u, h => by
    simp only [cellsR, List.mem_cons] at h
    rcases h with rfl | rfl | h
    · rfl
    · rfl
    · exact cellsR_one l u h
theorem cellsR_get (l : List R) (j : Nat) (u : Value) (h : (cellsR l)[j]? = some u) : ∃ r, l[j / 2]? = some r ∧ ((j % 2 = 0 ∧ u = .int .i64 r.1) ∨ (j % 2 = 1 ∧ u = .int .i64 r.2)) := by
  have hj : j < l.length * 2 := by
    rcases Nat.lt_or_ge j (cellsR l).length with h1 | h1
    · rwa [cellsR_len] at h1
    · rw [List.getElem?_eq_none h1] at h; cases h
  have hk : j / 2 < l.length := by omega
  have := cellsR_at l (j / 2) _ (List.getElem?_eq_getElem hk)
  refine ⟨_, List.getElem?_eq_getElem hk, ?_⟩
  rcases (show j % 2 = 0 ∨ j % 2 = 1 by omega) with e | e
  · left; refine ⟨e, ?_⟩
    rw [show j / 2 * 2 = j by omega, h] at this
    injection this.1
  · right; refine ⟨e, ?_⟩
    rw [show j / 2 * 2 + 1 = j by omega, h] at this
    injection this.2

/-- A slice whose first elements read as the list, below a block. -/
def Rgs (w : World) (B : Nat) (A : Option Addr) (l : List R) : Prop :=
  l ≠ [] → ∃ b off, A = some ⟨b, off, none⟩ ∧ b < B ∧ ∀ j r, l[j]? = some r → w.cell? ⟨b, off + j * 2, none⟩ = some (.int .i64 r.1) ∧ w.cell? ⟨b, off + j * 2 + 1, none⟩ = some (.int .i64 r.2)
theorem Rgs.nil {w : World} {B : Nat} {A : Option Addr} : Rgs w B A [] := fun h => absurd rfl h
theorem Rgs.keep {w w' : World} {B : Nat} {A : Option Addr} {l : List R} (h : Rgs w B A l) (hk : ∀ p : Addr, p.block < B → w'.cell? p = w.cell? p) : Rgs w' B A l := fun hn => by
  obtain ⟨b, off, e, hb, hc⟩ := h hn
  exact ⟨b, off, e, hb, fun j r hj => ⟨(hk _ hb).trans (hc j r hj).1, (hk _ hb).trans (hc j r hj).2⟩⟩
theorem Rgs.below {w w' : World} {B : Nat} {A : Option Addr} {l : List R} (h : Rgs w B A l) (hb : Below B w w') : Rgs w' B A l := h.keep fun _ hp => hb.cell hp
theorem Rgs.more {w : World} {B B' : Nat} {A : Option Addr} {l : List R} (h : Rgs w B A l) (hb : B ≤ B') : Rgs w B' A l := fun hn => by
  obtain ⟨b, off, e, h1, hc⟩ := h hn
  exact ⟨b, off, e, by omega, hc⟩
/-- From call to call. -/
theorem Rgs.on {w w' : World} {A : Option Addr} {l : List R} (h : Rgs w w.heap.size A l) (hb : Below w.heap.size w w') : Rgs w' w'.heap.size A l := (h.below hb).more hb.size
theorem Rgs.at_ {w : World} {B : Nat} {A : Option Addr} {l : List R} (h : Rgs w B A l) {k : Nat} (hk : k < l.length) :
    ∃ b off a c, A = some ⟨b, off, none⟩ ∧ b < B ∧ l[k]? = some (a, c) ∧ w.cell? ⟨b, off + k * 2, none⟩ = some (.int .i64 a) ∧ w.cell? ⟨b, off + k * 2 + 1, none⟩ = some (.int .i64 c) := by
  obtain ⟨b, off, e, hb, hc⟩ := h (fun e => by rw [e] at hk; simp at hk)
  have := hc k _ (List.getElem?_eq_getElem hk)
  exact ⟨b, off, _, _, e, hb, List.getElem?_eq_getElem hk, this.1, this.2⟩

theorem info32 : (Tryd.prog.info? 77).map (fun i => (i.zero, i.size, i.bytes)) = some (some (.agg #[.int .i64 0, .int .i64 0]), 2, 16) := by kernel_rfl
/-- A row of the call's own that holds the list. -/
def Ow (w : World) (B : Nat) (v : Value) (l : List R) : Prop := w.ownsRow B 77 2 v l.length (cellsR l)
theorem Ow.nil (w : World) (B : Nat) : Ow w B (.slice none 0 0) [] := World.ownsRow_nil _ _ _ _
theorem own_below {w w' : World} {base : Nat} {e : TypeId} {size : Nat} {v : Value} {n : Nat} {xs : List Value} (h : w.ownsRow base e size v n xs) (hb : Below w.heap.size w w') : w'.ownsRow base e size v n xs := by
  refine h.kept (row := none) ⟨hb.os, hb.tape, hb.output, hb.size, fun i hi _ => hb.block i hi⟩ ?_
  cases hv : v.ownBlock with
  | none => exact Or.inl rfl
  | some g => exact Or.inr (by simp)
theorem Ow.below {w w' : World} {B : Nat} {v : Value} {l : List R} (h : Ow w B v l) (hb : Below w.heap.size w w') : Ow w' B v l := own_below h hb
theorem Ow.less {w : World} {B B' : Nat} {v : Value} {l : List R} (h : Ow w B v l) (hb : B' ≤ B) : Ow w B' v l := by
  refine ⟨h.1, ?_⟩
  rcases h.2 with h2 | ⟨g, cap, cur, hv, hbg, rest⟩
  · exact .inl h2
  · exact .inr ⟨g, cap, cur, hv, by omega, rest⟩
/-- What an own row is, as a slice that reads. -/
theorem Ow.shape {w : World} {B : Nat} {v : Value} {l : List R} (h : Ow w B v l) : ∃ A cap, v = .slice A l.length cap ∧ l.length ≤ cap ∧ cap ≤ maxLen ∧ Rgs w w.heap.size A l ∧ (l = [] ∨ ∃ g, A = some ⟨g, 0, none⟩ ∧ B ≤ g ∧ g < w.heap.size) := by
  rcases h.2 with ⟨hv, hn⟩ | ⟨g, cap, cur, hv, hbg, hg, hnc, hcm, hcs, htake⟩
  · have : l = [] := List.eq_nil_of_length_eq_zero hn
    subst this
    exact ⟨none, 0, hv, by simp, by simp [maxLen], Rgs.nil, Or.inl rfl⟩
  · have hlt : g < w.heap.size := (Array.getElem?_eq_some_iff.1 hg).1
    refine ⟨_, cap, hv, hnc, hcm, fun _ => ⟨g, 0, rfl, hlt, fun j r hj => ?_⟩, Or.inr ⟨g, rfl, hbg, hlt⟩⟩
    have hc := cellsR_at l j r hj
    have hx := World.ownsRow.cells h (g := g) (by rw [hv]; rfl)
    have e : ∀ k, (⟨g, 0, none⟩ : Addr).add k = ⟨g, 0 + k, none⟩ := fun k => by unfold Addr.add; split <;> simp_all
    have h1 := hx _ _ hc.1
    have h2 := hx _ _ hc.2
    rw [e] at h1 h2
    exact ⟨h1, h2⟩
theorem bel_trans {w w1 w2 : World} (h1 : Below w.heap.size w w1) (h2 : Below w1.heap.size w1 w2) : Below w.heap.size w w2 := h1.trans (h2.mono h1.size)
theorem bel_trans' {B : Nat} {w w1 w2 : World} (hB : B ≤ w.heap.size) (h1 : Below B w w1) (h2 : Below w1.heap.size w1 w2) : Below B w w2 := h1.trans (h2.mono (Nat.le_trans hB h1.size))
theorem below_drews {B : Nat} {a w : World} (h : Below B a w) (n : Nat) : Below B a (w.drewN n) := ⟨h.os, h.tape, h.output, h.size, h.block⟩
/-- A call hands back a row of its own; what was stays. -/
def RetR (l : List R) (w : World) (e : Ending) (w' : World) : Prop := ∃ v, e = .returned v ∧ Ow w' w.heap.size v l ∧ Below w.heap.size w w'
end Go.Proofs.YtceeimolfalmpaaDoor.S

namespace Go.Proofs.YtceeimolfalmpaaDoor.S
open Go.RowKit ObSets

theorem eq32 (a b c d : Int) (w : World) : (Op.equalIn 10000 77 (.agg #[.int .i64 a, .int .i64 b]) (.agg #[.int .i64 c, .int .i64 d])).run Tryd.prog w = .ok (a == c && b == d) w := by
  have u3 := Tryd.underlying3
  have a3 := Tryd.isAgg3
  have z3 := Tryd.sizeOf3
  have hS : Tryd.prog.underlying 77 = some (.struct (Tryd.prog.fieldsOf 77)) := by kernel_rfl
  have hp : Tryd.prog.stoodInHeld 77 = false := by kernel_rfl
  rw [show (10000 : Nat) = 9999 + 1 from rfl, run_equalIn_agg w 9999 77 _ _ hS hp]
  simp only [Program.fieldsOf, Tryd.underlying77]
  go_simp
  by_cases h1 : a = c <;> by_cases h2 : b = d <;> simp [h1, h2]
theorem neq32 (a b c d : Int) (w : World) : (binOp .neq 77 (.agg #[.int .i64 a, .int .i64 b]) (.agg #[.int .i64 c, .int .i64 d])).run Tryd.prog w = .ok (.bool (!(a == c && b == d))) w := by
  rw [run_neq_struct, eq32]
  simp [Result.andThen]

def SameTo (l m : List R) (k : Nat) : Prop := l.take k = m.take k
theorem SameTo.succ {l m : List R} {k : Nat} {r : R} (h : SameTo l m k) (h1 : l[k]? = some r) (h2 : m[k]? = some r) : SameTo l m (k + 1) := by
  unfold SameTo at *
  rw [List.take_add_one, List.take_add_one, h, h1, h2]
end Go.Proofs.YtceeimolfalmpaaDoor.S

namespace Go.Proofs.YtceeimolfalmpaaDoor.S
open Go.RowKit ObSets

def NoneTo (l : List R) (x : Int) (k : Nat) : Prop := ∀ j r, j < k → l[j]? = some r → inR r x = false
theorem NoneTo.succ {l : List R} {x : Int} {k : Nat} {r : R} (h : NoneTo l x k) (h1 : l[k]? = some r) (h2 : inR r x = false) : NoneTo l x (k + 1) := by
  intro j q hj hq
  rcases Nat.lt_or_ge j k with h3 | h3
  · exact h j q h3 hq
  · obtain rfl : j = k := by omega
    rw [h1] at hq; injection hq with hq; rw [← hq]; exact h2
theorem any_none {l : List R} {x : Int} {k : Nat} (h : NoneTo l x k) (hk : l.length ≤ k) : (l.any fun r => inR r x) = false := by
  rw [Bool.eq_false_iff]; intro h1
  obtain ⟨r, hr, h2⟩ := List.any_eq_true.1 h1
  obtain ⟨j, hj, rfl⟩ := List.mem_iff_getElem.1 hr
  have := h j _ (by omega) (List.getElem?_eq_getElem hj)
  rw [this] at h2; cases h2
theorem any_some {l : List R} {x : Int} {k : Nat} {r : R} (h1 : l[k]? = some r) (h2 : inR r x = true) : (l.any fun r => inR r x) = true :=
  List.any_eq_true.2 ⟨r, List.mem_of_getElem? h1, h2⟩
theorem has_not_sym {l : List R} {x : Int} (h : sym x = false) : has l x = false := by unfold has; rw [h]; rfl
theorem has_of_sym {l : List R} {x : Int} (h : sym x = true) : has l x = l.any fun r => inR r x := by unfold has; rw [h]; rfl

def NoneIf (l : List R) (x : Int) (k : Nat) : Prop := sym x = true → NoneTo l x k
end Go.Proofs.YtceeimolfalmpaaDoor.S

namespace Go.Proofs.YtceeimolfalmpaaDoor.S
open Go.RowKit ObSets

theorem two_cells (w : World) (a b : Value) (t : TypeId) : ∀ j u, [a, b][j]? = some u → (w.alloc (.cells #[a, b] t)).cell? ((⟨w.heap.size, 0, none⟩ : Addr).add j) = some u := by
  intro j u hj
  match j, hj with
  | 0, hj => simp at hj; subst hj; simp [Addr.add]
  | 1, hj => simp at hj; subst hj; simp [Addr.add]
  | j + 2, hj => simp at hj
theorem two_cells1 (w : World) (o : Obj) (a b : Value) (t : TypeId) : ∀ j u, [a, b][j]? = some u → ((w.alloc o).alloc (.cells #[a, b] t)).cell? ((⟨w.heap.size + 1, 0, none⟩ : Addr).add j) = some u := by
  have := two_cells (w.alloc o) a b t
  rwa [show (w.alloc o).heap.size = w.heap.size + 1 by simp] at this
theorem ones2 (a b : Int) : ∀ u ∈ [Value.int .i64 a, Value.int .i64 b], u.oneCell' = true := by
  intro u hu; simp at hu; rcases hu with rfl | rfl <;> rfl
/-- One range appended: what is owned, and what stays. -/
theorem push_rel {w wr w1 w2 : World} {v v' : Value} {l : List R} {a b : Int} {o : Obj} (hB : Below w.heap.size w wr) (hb : Below wr.heap.size wr w1) (hown : Ow wr w.heap.size v l)
    (hown' : w2.ownsRow w.heap.size 77 2 v' (l.length + 1) (cellsR l ++ [.int .i64 a, .int .i64 b])) (hg : (w1.alloc o).grownBy w2 v.ownBlock) : Ow w2 w.heap.size v' (l ++ [(a, b)]) ∧ Below w.heap.size w w2 := by
  have h1 := bel_trans hB hb
  have h2 := h1.alloc (by have := h1.size; omega) o
  refine ⟨?_, h2.grown hg (by have := h1.size; simp; omega) (fun k hk => ((own_below hown hb).lt k hk).1)⟩
  unfold Ow
  rw [cellsR_append, List.length_append]
  exact hown'
def moved (d : Int) (r : R) : R := (r.1 + d, r.2 + d)

end Go.Proofs.YtceeimolfalmpaaDoor.S
