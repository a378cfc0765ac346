/-
  The reader of a pattern in memory (its block: the text and the place), rows of words, and what stays where only one block is written. Plain facts about cells; no function is walked.
  What the reader's small functions (take, skip) answer and leave, and what one, setWord, syntaxAt, repWord, single and several answer. Conditions: the reader's block is as it should be; the two tables of unicode/utf8 lie as their text lays them.
-/
import Derived.Test.YtceeimolfalmpaaDoorLA
import Derived.Test.YtceeimolfalmpaaDoorUC
import Derived.Test.YtceeimolfalmpaaDoorSB
import Derived.Laws.ResultCell
import Derived.Deep.RegionHeld3
import Derived.IntWalk
import Derived.Test.YtceeimolfalmpaaDoorSC
namespace Go.Proofs.YtceeimolfalmpaaDoor
open Go.RowKit ObUtf ObSets ObLex

theorem ret_bool {a b : Bool} (h : a = b) : Ending.returned (.bool a) = .returned (.bool b) := by rw [h]
theorem ret_int {k : IntKind} {a b : Int} (h : a = b) : Ending.returned (.int k a) = .returned (.int k b) := by rw [h]
theorem results_cc {fn : Func} {p q : Tmp} {t u : TypeId} (h : fn.results = #[.cell p t, .cell q u]) (tmps : Array Value) (P : Program) (w : World) :
    (results fn tmps).run P w = ((asAddr (tmps.getD p undef)).run P w).andThen fun a w₁ => ((loadVar t a).run P w₁).andThen fun v w₂ => ((asAddr (tmps.getD q undef)).run P w₂).andThen fun b w₃ => ((loadVar u b).run P w₃).andThen fun x w₄ => .ok (.tuple #[v, x]) w₄ := by
  simp only [results, h]
  simp [Sem.run_bind, Result.andThen]
theorem results_tc {fn : Func} {p q : Tmp} {u : TypeId} (h : fn.results = #[.tmp p, .cell q u]) (tmps : Array Value) (P : Program) (w : World) :
    (results fn tmps).run P w = ((asAddr (tmps.getD q undef)).run P w).andThen fun b w₃ => ((loadVar u b).run P w₃).andThen fun x w₄ => .ok (.tuple #[tmps.getD p undef, x]) w₄ := by
  simp only [results, h]
  simp [Sem.run_bind, Result.andThen]
theorem results_ttc {fn : Func} {p r q : Tmp} {u : TypeId} (h : fn.results = #[.tmp p, .tmp r, .cell q u]) (tmps : Array Value) (P : Program) (w : World) :
    (results fn tmps).run P w = ((asAddr (tmps.getD q undef)).run P w).andThen fun b w₃ => ((loadVar u b).run P w₃).andThen fun x w₄ => .ok (.tuple #[tmps.getD p undef, tmps.getD r undef, x]) w₄ := by
  simp only [results, h]
  simp [Sem.run_bind, Result.andThen]
theorem results_cct {fn : Func} {p q r : Tmp} {t u : TypeId} (h : fn.results = #[.cell p t, .cell q u, .tmp r]) (tmps : Array Value) (P : Program) (w : World) :
    (results fn tmps).run P w = ((asAddr (tmps.getD p undef)).run P w).andThen fun a w₁ => ((loadVar t a).run P w₁).andThen fun v w₂ => ((asAddr (tmps.getD q undef)).run P w₂).andThen fun b w₃ => ((loadVar u b).run P w₃).andThen fun x w₄ => .ok (.tuple #[v, x, tmps.getD r undef]) w₄ := by
  simp only [results, h]
  simp [Sem.run_bind, Result.andThen]
theorem results_ctc {fn : Func} {p q r : Tmp} {t u : TypeId} (h : fn.results = #[.cell p t, .tmp r, .cell q u]) (tmps : Array Value) (P : Program) (w : World) :
    (results fn tmps).run P w = ((asAddr (tmps.getD p undef)).run P w).andThen fun a w₁ => ((loadVar t a).run P w₁).andThen fun v w₂ => ((asAddr (tmps.getD q undef)).run P w₂).andThen fun b w₃ => ((loadVar u b).run P w₃).andThen fun x w₄ => .ok (.tuple #[v, tmps.getD r undef, x]) w₄ := by
  simp only [results, h]
  simp [Sem.run_bind, Result.andThen]

/-- A pointer to a block. -/
abbrev ptr (c : Nat) : Value := .pointer (some ⟨c, 0, none⟩)
/-- All but one block stay. -/
structure Ex (c : Nat) (w w' : World) : Prop where
  os : w'.os = w.os
  tape : w'.tape = w.tape
  output : w'.output = w.output
  size : w.heap.size ≤ w'.heap.size
  block : ∀ k, k < w.heap.size → k ≠ c → w'.heap[k]? = w.heap[k]?
theorem Ex.of {c : Nat} {w w' : World} (h : Below w.heap.size w w') : Ex c w w' := ⟨h.os, h.tape, h.output, h.size, fun k hk _ => h.block k hk⟩
theorem Ex.refl (c : Nat) (w : World) : Ex c w w := Ex.of (Below.refl _ _)
theorem Ex.trans {c : Nat} {a b d : World} (h : Ex c a b) (k : Ex c b d) : Ex c a d :=
  ⟨k.os.trans h.os, k.tape.trans h.tape, k.output.trans h.output, Nat.le_trans h.size k.size, fun i hi h1 => (k.block i (by have := h.size; omega) h1).trans (h.block i hi h1)⟩
theorem Ex.after {c : Nat} {w w1 w2 : World} (h : Below w.heap.size w w1) (k : Ex c w1 w2) : Ex c w w2 := (Ex.of h).trans k
theorem Ex.on {c : Nat} {w w1 w2 : World} (k : Ex c w w1) (h : Below w1.heap.size w1 w2) : Ex c w w2 := k.trans (Ex.of h)
theorem Ex.below {B c : Nat} {w w' : World} (h : Ex c w w') (hB : B ≤ w.heap.size) (hc : B ≤ c) : Below B w w' :=
  ⟨h.os, h.tape, h.output, h.size, fun k hk => h.block k (by omega) (by omega)⟩
theorem Ex.drew {c : Nat} {w w' : World} (h : Ex c w w') : Ex c w w'.drew := ⟨h.os, h.tape, h.output, h.size, h.block⟩
theorem Ex.drews {c : Nat} {w w' : World} (h : Ex c w w') (n : Nat) : Ex c w (w'.drewN n) := ⟨h.os, h.tape, h.output, h.size, h.block⟩
theorem Ex.setL {c : Nat} {w w' : World} (h : Ex c w w') (i : Nat) (v : Value) : Ex c w (w'.setCell ⟨c, i, none⟩ v) :=
  h.trans ⟨rfl, rfl, rfl, by simp [World.setCell], fun k _ h1 => Below.heap_setCell _ _ _ _ h1⟩
theorem Ex.alloc {c : Nat} {w w' : World} (h : Ex c w w') (o : Obj) : Ex c w (w'.alloc o) := h.on ((Below.refl _ w').alloc (Nat.le_refl _) o)
theorem below_drews {B : Nat} {a w : World} (h : Below B a w) (n : Nat) : Below B a (w.drewN n) := ⟨h.os, h.tape, h.output, h.size, h.block⟩
theorem undrew {w w' : World} (h : Below w.drew.heap.size w.drew w') : Below w.heap.size w w' := ⟨h.os, h.tape, h.output, h.size, h.block⟩
theorem bel_trans {w w1 w2 : World} (h1 : Below w.heap.size w w1) (h2 : Below w1.heap.size w1 w2) : Below w.heap.size w w2 := h1.trans (h2.mono h1.size)
theorem lt_of_heap {w : World} {b : Nat} {o : Obj} (h : w.heap[b]? = some o) : b < w.heap.size := (Array.getElem?_eq_some_iff.1 h).1
theorem heap_set {w : World} {b : Nat} {cs : Array Value} {t : TypeId} {fr : Nat × Nat} (i : Nat) (v : Value) (h : w.heap[b]? = some (.cells cs t fr)) : (w.setCell ⟨b, i, none⟩ v).heap[b]? = some (.cells (cs.setIfInBounds i v) t fr) := by
  rw [setCell_eq_setRow w b i cs t fr v h]
  exact setRow_heap w b _ _ t fr h

/-- The reader: its text, its place; the two tables lie. -/
def Rd (w : World) (c : Nat) (s : ByteArray) (i : Nat) : Prop :=
  w.heap[c]? = some (.cells #[.string s, .int .i64 (i : Int)] 48 (0, 0)) ∧ 2 ≤ c ∧ U.Tb w ∧ i ≤ s.size ∧ s.size ≤ 100000
theorem Tb.ex {w w' : World} {c : Nat} (h : U.Tb w) (hc : 2 ≤ c) (hx : Ex c w w') : U.Tb w' := by
  have hb : Below 2 w w' := hx.below h.2 hc
  obtain ⟨⟨h1, h2⟩, h3⟩ := h
  refine ⟨⟨fun c hc => ?_, fun c hc => ?_⟩, Nat.le_trans h3 hx.size⟩
  · exact (hb.cell (p := ⟨0, c, none⟩) (by show 0 < 2; omega)).trans (h1 c hc)
  · have := h2 c hc
    exact ⟨(hb.cell (p := ⟨1, _, none⟩) (by show 1 < 2; omega)).trans this.1, (hb.cell (p := ⟨1, _, none⟩) (by show 1 < 2; omega)).trans this.2⟩
theorem Rd.lt {w : World} {c : Nat} {s : ByteArray} {i : Nat} (h : Rd w c s i) : c < w.heap.size := lt_of_heap h.1
theorem Rd.on {w w' : World} {c : Nat} {s : ByteArray} {i : Nat} (h : Rd w c s i) (hb : Below w.heap.size w w') : Rd w' c s i :=
  ⟨(hb.block _ h.lt).trans h.1, h.2.1, h.2.2.1.below hb, h.2.2.2⟩
theorem Rd.cells {w : World} {c : Nat} {s : ByteArray} {i : Nat} (h : Rd w c s i) : w.cell? ⟨c, 0, none⟩ = some (.string s) ∧ w.cell? ⟨c, 1, none⟩ = some (.int .i64 (i : Int)) ∧ (∀ k, w.frozen? ⟨c, k, none⟩ = false) := by
  have h1 : w.heap[c]? = _ := h.1
  refine ⟨by simp [World.cell?, h1], by simp [World.cell?, h1], fun i => by simp [World.frozen?, h1]⟩
theorem Rd.put {w : World} {c : Nat} {s : ByteArray} {i : Nat} (h : Rd w c s i) (j : Nat) (hj : j ≤ s.size) : Rd (w.setCell ⟨c, 1, none⟩ (.int .i64 (j : Int))) c s j := by
  have hs := heap_set 1 (.int .i64 (j : Int)) h.1
  exact ⟨by simpa using hs, h.2.1, Tb.ex h.2.2.1 h.2.1 ((Ex.refl c w).setL _ _), hj, h.2.2.2.2⟩
theorem Rd.two {w W : World} {c : Nat} {s : ByteArray} {i : Nat} (h : Rd w c s i) (hb : Below w.heap.size w W) : W.cell? ⟨c, 0, none⟩ = some (.string s) ∧ W.cell? ⟨c, 1, none⟩ = some (.int .i64 (i : Int)) := ⟨(h.on hb).cells.1, (h.on hb).cells.2.1⟩
theorem own_ex {w w' : World} {base c : Nat} {e : TypeId} {size : Nat} {v : Value} {n : Nat} {xs : List Value} (h : w.ownsRow base e size v n xs) (hb : Ex c w w') (hc : c < base) : w'.ownsRow base e size v n xs := by
  refine ⟨h.1, ?_⟩
  rcases h.2 with h2 | ⟨g, cap, cur, hv, hbg, hg, rest⟩
  · exact .inl h2
  · exact .inr ⟨g, cap, cur, hv, hbg, (hb.block g (lt_of_heap hg) (by omega)).trans hg, rest⟩
theorem S.Ow.ex {w w' : World} {B c : Nat} {v : Value} {l : List R} (h : S.Ow w B v l) (hb : Ex c w w') (hc : c < B) : S.Ow w' B v l := own_ex h hb hc

/-- The cells of words. -/
def cellsT : List (T × Value) → List Value
  | [] => []
  | p :: l => [.int .i64 p.1.kind, .int .i64 p.1.at_, p.2, .int .i64 p.1.mn, .int .i64 p.1.mx] ++ cellsT l
theorem cellsT_len : ∀ l, (cellsT l).length = l.length * 5
  | [] => rfl
  | p :: l => by simp [cellsT, cellsT_len l]; omega
theorem cellsT_append : ∀ a b, cellsT (a ++ b) = cellsT a ++ cellsT b
  | [], _ => rfl
  | p :: a, b => by simp [cellsT, cellsT_append a b]
theorem cellsT_at : ∀ (l : List (T × Value)) (j : Nat) (p : T × Value), l[j]? = some p →
    (cellsT l)[j * 5]? = some (.int .i64 p.1.kind) ∧ (cellsT l)[j * 5 + 1]? = some (.int .i64 p.1.at_) ∧ (cellsT l)[j * 5 + 2]? = some p.2 ∧ (cellsT l)[j * 5 + 3]? = some (.int .i64 p.1.mn) ∧ (cellsT l)[j * 5 + 4]? = some (.int .i64 p.1.mx)
  | [], j, p, h => by simp at h
  | q :: l, 0, p, h => by simp at h; subst h; simp [cellsT]
  | q :: l, j + 1, p, h => by
    have := cellsT_at l j p (by simpa using h)
    have e : ∀ k, (cellsT (q :: l))[(j + 1) * 5 + k]? = (cellsT l)[j * 5 + k]? := fun k => by
      rw [show (j + 1) * 5 + k = (j * 5 + k) + 5 by omega]
      simp [cellsT]
    have e0 := e 0
    simp only [Nat.add_zero] at e0
    rw [e0, e, e, e, e]
    exact this
/-- A row of words that a call has made: v is its slice, l the words; each word's set is a row made since, too. -/
def Tk (w : World) (B : Nat) (v : Value) (l : List T) : Prop :=
  ∃ L : List (T × Value), L.map Prod.fst = l ∧ w.ownsRow B 50 5 v L.length (cellsT L) ∧ ∀ p ∈ L, S.Ow w B p.2 p.1.set
theorem Tk.nil (w : World) (B : Nat) : Tk w B (.slice none 0 0) [] := ⟨[], rfl, World.ownsRow_nil _ _ _ _, by simp⟩
theorem Tk.below {w w' : World} {B : Nat} {v : Value} {l : List T} (h : Tk w B v l) (hb : Below w.heap.size w w') : Tk w' B v l := by
  obtain ⟨L, h1, h2, h3⟩ := h
  exact ⟨L, h1, S.own_below h2 hb, fun p hp => (h3 p hp).below hb⟩
theorem Tk.ex {w w' : World} {B c : Nat} {v : Value} {l : List T} (h : Tk w B v l) (hb : Ex c w w') (hc : c < B) : Tk w' B v l := by
  obtain ⟨L, h1, h2, h3⟩ := h
  exact ⟨L, h1, own_ex h2 hb hc, fun p hp => (h3 p hp).ex hb hc⟩
theorem own_less {w : World} {B B' : Nat} {e : TypeId} {size : Nat} {v : Value} {n : Nat} {xs : List Value} (h : w.ownsRow B e size v n xs) (hb : B' ≤ B) : w.ownsRow B' e size v n xs := by
  refine ⟨h.1, ?_⟩
  rcases h.2 with h2 | ⟨g, cap, cur, hv, hbg, rest⟩
  · exact .inl h2
  · exact .inr ⟨g, cap, cur, hv, by omega, rest⟩
theorem Tk.less {w : World} {B B' : Nat} {v : Value} {l : List T} (h : Tk w B v l) (hb : B' ≤ B) : Tk w B' v l := by
  obtain ⟨L, h1, h2, h3⟩ := h
  exact ⟨L, h1, own_less h2 hb, fun p hp => (h3 p hp).less hb⟩
theorem info38 : (Tryd.prog.info? 50).map (fun i => (i.zero, i.size, i.bytes)) = some (some (.agg #[.int .i64 0, .int .i64 0, .slice none 0 0, .int .i64 0, .int .i64 0]), 5, 56) := by kernel_rfl
/-- A word's value. -/
abbrev tv (k a : Int) (v : Value) (m n : Int) : Value := .agg #[.int .i64 k, .int .i64 a, v, .int .i64 m, .int .i64 n]
abbrev fv (e a : Int) : Value := .agg #[.int .i64 e, .int .i64 a]
abbrev nls : Value := .slice none 0 0
end Go.Proofs.YtceeimolfalmpaaDoor

namespace Go.Proofs.YtceeimolfalmpaaDoor
open Go.RowKit ObUtf ObSets ObLex

theorem at_nat (s : ByteArray) (i : Nat) (w : World) (hT : U.Tb w) : Calls Tryd.prog 48 #[.string s, .int .i64 (i : Int)] w fun e w' => e = .returned (.tuple #[.int .i64 (sy s i), .int .i64 (wd s i : Int)]) ∧ Below w.heap.size w w' := by
  have h := U.at_any s (i : Int) w hT.1
  have e1 : U.syI s (i : Int) = sy s i := by unfold U.syI; rw [if_neg (by omega), Int.toNat_natCast]
  have e2 : U.wdI s (i : Int) = (wd s i : Int) := by unfold U.wdI; rw [if_neg (by omega), Int.toNat_natCast]
  rw [e1, e2] at h
  exact h
section
variable {w : World} {c : Nat} {s : ByteArray} {i : Nat}
set_option maxHeartbeats 1000000 in
theorem take_rd (h : Rd w c s i) : Calls Tryd.prog 36 #[ptr c] w fun e w' => e = .returned (.int .i64 (sy s i)) ∧ Rd w' c s (i + wd s i) ∧ Ex c w w' := by
  have HA := Lib.hid (fun W (hb : Below w.heap.size w W) => at_nat s i W (h.on hb).2.2.1)
  have HC := Lib.hid (fun W (hb : Below w.heap.size w W) => h.two hb)
  have hx := wd_fit h.2.2.2.1
  have hz := h.2.2.2.2
  have HR := Lib.hid (fun W (hb : Below w.heap.size w W) => (h.on hb))
  clear h
  have wq : IntKind.i64.wrap ((i : Int) + (wd s i : Int)) = ((i + wd s i : Nat) : Int) := by rw [show (i : Int) + (wd s i : Int) = ((i + wd s i : Nat) : Int) by omega]; exact IntWalk.i64_in _ (by omega)
  generalize sy s i = x at *
  generalize wd s i = d at *
  obtain ⟨j, hj⟩ : ∃ j, j = i + d := ⟨_, rfl⟩
  rw [← hj] at wq hx ⊢
  go_enter Tryd.func36, Tryd.ntmps36
  go_wp2_with fail
  go_region_held3 (fun W => W.cell? ⟨c, 0, none⟩ = some (.string s) ∧ W.cell? ⟨c, 1, none⟩ = some (.int .i64 (i : Int))) (first | exact HC.out _ (Below.refl _ _).drew | exact HC.out _ (undrew hb1) | fail) (first
    | (go_at_call 48; refine (HA.out _ (Below.refl _ _).drew).mono ?_; rintro e w1 ⟨rfl, hb1⟩) | fail)
  all_goals (
    have HR1 := HR.out _ (undrew hb1)
    have c2 := HR1.cells.2.1
    have f2 := HR1.cells.2.2 1
    go_wp2_with fail
    go_ret
    have hp := HR1.put j hx
    rw [show ((j : Nat) : Int) = (i : Int) + (d : Int) by omega] at hp
    exact ⟨rfl, hp, (Ex.of (undrew hb1)).setL _ _⟩)
/-- Is that byte there? -/
def isc (s : ByteArray) (i b : Nat) : Bool := decide (i < s.size ∧ bt s i = b)
theorem isc_true {s : ByteArray} {i b : Nat} (h : bt s i = b) (hb : b ≠ 0) : isc s i b = true := by unfold isc; exact decide_eq_true ⟨bt_in (by omega), h⟩
theorem isc_false {s : ByteArray} {i b : Nat} (h : bt s i ≠ b) : isc s i b = false := by unfold isc; exact decide_eq_false (fun ⟨_, e⟩ => h e)
set_option maxHeartbeats 1000000 in
theorem skip_yes (h : Rd w c s i) (b : Nat) (hb : bt s i = b) (hb0 : b ≠ 0) : Calls Tryd.prog 37 #[ptr c, .int .u8 (b : Int)] w fun e w' => e = .returned (.bool true) ∧ Rd w' c s (i + 1) ∧ Ex c w w' := by
  have hi : i < s.size := bt_in (by omega)
  obtain ⟨c0, c1, c2⟩ := h.cells
  have f1 := c2 1
  have hz := h.2.2.2.2
  have e1 : (((i : Int)) == ((s.size : Nat) : Int)) = false := beq_eq_false_iff_ne.2 (by omega)
  have hg := U.bt_eq s i hi
  have e2 : (((s[i]'hi).toNat : Int) == (b : Int)) = true := by rw [← hg, hb]; simp
  have e3 : (((s[i]'hi).toNat : Int) != (b : Int)) = false := by rw [← hg, hb]; simp
  have HR := Lib.hid h
  clear h c2
  go_enter Tryd.func37, Tryd.ntmps37
  go_wp2_with fail
  go_quiet (fail)
  go_wp2_with fail
  go_ret
  have hp := (HR.out.on (below_drews (Below.refl _ _) nq)).put (i + 1) (by omega)
  rw [show ((i + 1 : Nat) : Int) = (i : Int) + 1 by omega] at hp
  exact ⟨rfl, hp, ((Ex.refl c w).drews nq).setL _ _⟩
set_option maxHeartbeats 1000000 in
theorem skip_no (h : Rd w c s i) (b : Nat) (hb : bt s i ≠ b) : Calls Tryd.prog 37 #[ptr c, .int .u8 (b : Int)] w fun e w' => e = .returned (.bool false) ∧ Rd w' c s i ∧ Ex c w w' := by
  obtain ⟨c0, c1, c2⟩ := h.cells
  have hz := h.2.2.2
  have HR := Lib.hid h
  clear h c2
  by_cases hi : i < s.size
  · have e1 : (((i : Int)) == ((s.size : Nat) : Int)) = false := beq_eq_false_iff_ne.2 (by omega)
    have hg := U.bt_eq s i hi
    have e2 : (((s[i]'hi).toNat : Int) == (b : Int)) = false := by rw [← hg]; exact beq_eq_false_iff_ne.2 (by omega)
    have e3 : (((s[i]'hi).toNat : Int) != (b : Int)) = true := by rw [← hg]; simp; omega
    clear hg
    go_enter Tryd.func37, Tryd.ntmps37
    go_wp2_with fail
    go_quiet (fail)
    go_wp2_with fail
    go_ret
    exact ⟨rfl, HR.out.on (below_drews (Below.refl _ _) nq), (Ex.refl c w).drews nq⟩
  · have e1 : (((i : Int)) == ((s.size : Nat) : Int)) = true := by simp; omega
    go_enter Tryd.func37, Tryd.ntmps37
    go_wp2_with fail
    go_quiet (fail)
    go_wp2_with fail
    go_ret
    exact ⟨rfl, HR.out.on (below_drews (Below.refl _ _) nq), (Ex.refl c w).drews nq⟩
end
/-- Made by a call: a row of ranges. -/
theorem ow_lit1 (w : World) (a b : Int) : S.Ow (w.alloc (.cells #[.int .i64 a, .int .i64 b] 77)) w.heap.size (.slice (some ⟨w.heap.size, 0, none⟩) 1 1) [(a, b)] :=
  World.ownsRow_lit w #[.int .i64 a, .int .i64 b] 1 (Nat.le_refl _) (by unfold maxLen; omega) rfl
set_option maxHeartbeats 400000 in
theorem one_any (x : Int) (w : World) : Calls Tryd.prog 32 #[.int .i64 x] w (S.RetR [(x, x)] w) := by
  go_enter Tryd.func32, Tryd.ntmps32
  go_wp2_with fail
  go_ret
  exact ⟨_, rfl, ow_lit1 w x x, (Below.refl _ w).alloc (Nat.le_refl _) _⟩
set_option maxHeartbeats 400000 in
theorem setWord_any (A : Option Addr) (n k : Nat) (w : World) : Calls Tryd.prog 33 #[.slice A n k] w fun e w' => e = .returned (.tuple #[tv 1 0 (.slice A n k) 0 0, fv 0 0]) ∧ Below w.heap.size w w' := by
  go_enter Tryd.func33, Tryd.ntmps33
  go_wp2_with fail
  refine bodyPost_ret (v := .tuple #[tv 1 0 (.slice A n k) 0 0, fv 0 0]) ?_ rfl ⟨rfl, ?_⟩
  · rw [results_cc rfl]; go_simp
  · repeat' (first | exact Below.refl _ _ | refine Below.drew ?_ | refine Below.alloc ?_ (by simp <;> omega) _ | refine Below.setCell ?_ (by simp) _)
set_option maxHeartbeats 400000 in
theorem syntaxAt_any (x : Int) (w : World) : Calls Tryd.prog 35 #[.int .i64 x] w fun e w' => e = .returned (fv 4 x) ∧ Below w.heap.size w w' := by
  go_enter Tryd.func35, Tryd.ntmps35
  go_wp2_with fail
  refine bodyPost_ret (v := fv 4 x) ?_ rfl ⟨rfl, ?_⟩
  · rw [S.results_cell1 rfl]; go_simp
  · repeat' (first | exact Below.refl _ _ | refine Below.drew ?_ | refine Below.alloc ?_ (by simp <;> omega) _ | refine Below.setCell ?_ (by simp) _)
set_option maxHeartbeats 400000 in
theorem repWord_any (x y : Int) (w : World) : Calls Tryd.prog 44 #[.int .i64 x, .int .i64 y] w fun e w' => e = .returned (.tuple #[tv 6 0 nls x y, fv 0 0]) ∧ Below w.heap.size w w' := by
  go_enter Tryd.func44, Tryd.ntmps44
  go_wp2_with fail
  refine bodyPost_ret (v := .tuple #[tv 6 0 nls x y, fv 0 0]) ?_ rfl ⟨rfl, ?_⟩
  · rw [results_cc rfl]; go_simp
  · repeat' (first | exact Below.refl _ _ | refine Below.drew ?_ | refine Below.alloc ?_ (by simp <;> omega) _ | refine Below.setCell ?_ (by simp) _)
/-- The symbol of an escape of one symbol; -1: there is none. -/
def sngl (x : Int) : Int := if x = 110 then 10 else if x = 116 then 9 else if x = 114 then 13 else if alnum x = true then -1 else x
set_option maxHeartbeats 1000000 in
theorem single_any (x : Int) (w : World) : Calls Tryd.prog 47 #[.int .i64 x] w fun e w' => e = .returned (.int .i64 (sngl x)) ∧ w = w' := by
  obtain ⟨v, hv⟩ : ∃ v, v = sngl x := ⟨_, rfl⟩
  rw [← hv]
  unfold sngl alnum at hv
  have HV := Lib.hid hv
  clear hv
  go_enter Tryd.func47, Tryd.ntmps47
  go_wp2_with fail
  all_goals (go_ret; refine ⟨ret_int ?_, rfl⟩)
  all_goals (rw [HV.out]; clear HV; simp only [beq_iff_eq, beq_eq_false_iff_ne, ne_eq, decide_eq_true_eq] at *; (repeat' split) <;> omega)
theorem ow_lit2 (w : World) (a b c d : Int) : S.Ow (w.alloc (.cells #[.int .i64 a, .int .i64 b, .int .i64 c, .int .i64 d] 77)) w.heap.size (.slice (some ⟨w.heap.size, 0, none⟩) 2 2) [(a, b), (c, d)] :=
  World.ownsRow_lit w #[.int .i64 a, .int .i64 b, .int .i64 c, .int .i64 d] 2 (Nat.le_refl _) (by unfold maxLen; omega) rfl
theorem ow_lit4 (w : World) (a b c d e f g h : Int) : S.Ow (w.alloc (.cells #[.int .i64 a, .int .i64 b, .int .i64 c, .int .i64 d, .int .i64 e, .int .i64 f, .int .i64 g, .int .i64 h] 77)) w.heap.size (.slice (some ⟨w.heap.size, 0, none⟩) 4 4) [(a, b), (c, d), (e, f), (g, h)] :=
  World.ownsRow_lit w #[.int .i64 a, .int .i64 b, .int .i64 c, .int .i64 d, .int .i64 e, .int .i64 f, .int .i64 g, .int .i64 h] 4 (Nat.le_refl _) (by unfold maxLen; omega) rfl
/-- A row handed on to a call that asks for a slice that reads. -/
theorem RetR.shape {l : List R} {w w' : World} {e : Ending} (h : S.RetR l w e w') : ∃ A k, e = .returned (.slice A l.length k) ∧ S.Ow w' w.heap.size (.slice A l.length k) l ∧ S.Rgs w' w'.heap.size A l ∧ Below w.heap.size w w' := by
  obtain ⟨v, rfl, ho, hb⟩ := h
  obtain ⟨A, k, rfl, _, _, hr, _⟩ := ho.shape
  exact ⟨A, k, rfl, ho, hr, hb⟩
theorem kind_d : kind 100 = digits := rfl
theorem kind_w : kind 119 = wordly := rfl
theorem kind_s : kind 115 = blanks := rfl
set_option maxHeartbeats 1000000 in
theorem several_d (w : World) : Calls Tryd.prog 46 #[.int .i64 100] w (S.RetR digits w) := by
  go_enter Tryd.func46, Tryd.ntmps46
  go_wp2_with fail
  go_ret
  exact ⟨_, rfl, ow_lit1 w _ _, (Below.refl _ w).alloc (Nat.le_refl _) _⟩
set_option maxHeartbeats 1000000 in
theorem several_w (w : World) : Calls Tryd.prog 46 #[.int .i64 119] w (S.RetR wordly w) := by
  go_enter Tryd.func46, Tryd.ntmps46
  go_wp2_with fail
  go_ret
  exact ⟨_, rfl, ow_lit4 w _ _ _ _ _ _ _ _, (Below.refl _ w).alloc (Nat.le_refl _) _⟩
set_option maxHeartbeats 1000000 in
theorem several_s (w : World) : Calls Tryd.prog 46 #[.int .i64 115] w (S.RetR blanks w) := by
  go_enter Tryd.func46, Tryd.ntmps46
  go_wp2_with fail
  go_ret
  exact ⟨_, rfl, ow_lit2 w _ _ _ _, (Below.refl _ w).alloc (Nat.le_refl _) _⟩
theorem retR_on {l : List R} {w w1 w2 : World} {e : Ending} (hb : Below w.heap.size w w1) (h : S.RetR l w1 e w2) : S.RetR l w e w2 := by
  obtain ⟨v, rfl, ho, hb2⟩ := h
  exact ⟨v, rfl, ho.less hb.size, bel_trans hb hb2⟩
set_option maxHeartbeats 1000000 in
set_option maxRecDepth 100000 in
theorem several_not (x y : Int) (l : List R) (w : World) (hx : x = 68 ∧ y = 100 ∨ x = 87 ∧ y = 119 ∨ x = 83 ∧ y = 115) (hl : l.length ≤ 100) (H : ∀ W, Calls Tryd.prog 46 #[.int .i64 y] W (S.RetR l W)) : Calls Tryd.prog 46 #[.int .i64 x] w (S.RetR (notL l) w) := by
  have HH := Lib.hid H
  have HN := Lib.hid (fun (A : Option Addr) (k : Nat) (W : World) (h : S.Rgs W W.heap.size A l) => S.not_any A k l W h (by omega))
  obtain ⟨m, hm⟩ : ∃ m, m = notL l := ⟨_, rfl⟩
  rw [← hm] at HN ⊢
  clear H hl hm
  rcases hx with ⟨rfl, rfl⟩ | ⟨rfl, rfl⟩ | ⟨rfl, rfl⟩
  all_goals (
    go_enter Tryd.func46, Tryd.ntmps46
    go_wp2_with (first
      | (go_at_call 46; refine (HH.out _).mono ?_; intro e w1 hr; obtain ⟨A, k, rfl, ho, hr, hb1⟩ := RetR.shape hr)
      | (go_at_call 39; refine (HN.out _ _ _ hr).mono ?_; rintro e w2 ⟨v2, rfl, ho2, hb2⟩)))
  all_goals (
    go_ret
    exact ⟨_, rfl, ho2.less hb1.size, bel_trans hb1 hb2⟩)
/-- Is x one of the six letters? -/
theorem kind_cases (x : Int) : (x = 100 ∨ x = 119 ∨ x = 115 ∨ x = 68 ∨ x = 87 ∨ x = 83) ∨ (x ≠ 100 ∧ x ≠ 119 ∧ x ≠ 115 ∧ x ≠ 68 ∧ x ≠ 87 ∧ x ≠ 83 ∧ kind x = []) := by
  by_cases h : x = 100 ∨ x = 119 ∨ x = 115 ∨ x = 68 ∨ x = 87 ∨ x = 83
  · exact .inl h
  · refine .inr ⟨by omega, by omega, by omega, by omega, by omega, by omega, ?_⟩
    unfold kind
    rw [if_neg (by omega), if_neg (by omega), if_neg (by omega), if_neg (by omega), if_neg (by omega), if_neg (by omega)]
set_option maxHeartbeats 1000000 in
set_option maxRecDepth 100000 in
theorem several_none (x : Int) (w : World) (h1 : x ≠ 100) (h2 : x ≠ 119) (h3 : x ≠ 115) (h4 : x ≠ 68) (h5 : x ≠ 87) (h6 : x ≠ 83) : Calls Tryd.prog 46 #[.int .i64 x] w fun e w' => e = .returned nls ∧ w = w' := by
  have d1 : (x == 100) = false := beq_eq_false_iff_ne.2 h1
  have d2 : (x == 119) = false := beq_eq_false_iff_ne.2 h2
  have d3 : (x == 115) = false := beq_eq_false_iff_ne.2 h3
  have d4 : (x == 68) = false := beq_eq_false_iff_ne.2 h4
  have d5 : (x == 87) = false := beq_eq_false_iff_ne.2 h5
  have d6 : (x == 83) = false := beq_eq_false_iff_ne.2 h6
  go_enter Tryd.func46, Tryd.ntmps46
  go_wp2_with fail
  go_ret
  exact ⟨rfl, rfl⟩
theorem several_some (x : Int) (w : World) (h : x = 100 ∨ x = 119 ∨ x = 115 ∨ x = 68 ∨ x = 87 ∨ x = 83) : Calls Tryd.prog 46 #[.int .i64 x] w (S.RetR (kind x) w) := by
  rcases h with rfl | rfl | rfl | rfl | rfl | rfl
  · exact several_d w
  · exact several_w w
  · exact several_s w
  · exact several_not 68 100 digits w (by omega) (by decide) several_d
  · exact several_not 87 119 wordly w (by omega) (by decide) several_w
  · exact several_not 83 115 blanks w (by omega) (by decide) several_s
end Go.Proofs.YtceeimolfalmpaaDoor
