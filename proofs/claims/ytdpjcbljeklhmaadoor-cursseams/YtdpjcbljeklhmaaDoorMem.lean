/-
  A chunk, a text and a place, in memory: what their blocks hold; what stays where only one of them is written. Plain facts about cells; no function is walked.
-/
import Derived.Test.YtdpjcbljeklhmaaDoorProg
import Derived.Test.YtdpjcbljeklhmaaDoorPlain
import Derived.WalkKit
import Derived.WalkSpells
import Derived.WalkLawsBesides
import Derived.Deep.QuietTactic
import Derived.BigQuiet
import Derived.Lib.Hide
import Derived.Lib.UnsafeStr
import Derived.Lib.BufferWrite
import Derived.Laws.CopyOwn
import Derived.Laws.IdiomStrings
import Derived.Deep.RegionHeld3
import Derived.Maps.AppendAt
import Derived.IntWalk
namespace Go.Proofs.YtdpjcbljeklhmaaDoor
open Go.RowKit ObGap

theorem ret_bool {a b : Bool} (h : a = b) : Ending.returned (.bool a) = .returned (.bool b) := by rw [h]
theorem ret_int {k : IntKind} {a b : Int} (h : a = b) : Ending.returned (.int k a) = .returned (.int k b) := by rw [h]
theorem ret_str {a b : Bs} (h : a = b) : Ending.returned (.string ⟨⟨a⟩⟩) = .returned (.string ⟨⟨b⟩⟩) := by rw [h]
/-- A pointer to a block. -/
abbrev ptr (c : Nat) : Value := .pointer (some ⟨c, 0, none⟩)
abbrev str (s : Bs) : Value := .string ⟨⟨s⟩⟩

/-- All but two blocks stay. -/
structure Ex (c g : Nat) (w w' : World) : Prop where
  os : w'.os = w.os
  tape : w'.tape = w.tape
  output : w'.output = w.output
  size : w.heap.size ≤ w'.heap.size
  block : ∀ k, k < w.heap.size → k ≠ c → k ≠ g → w'.heap[k]? = w.heap[k]?
theorem Ex.of {c g : Nat} {w w' : World} (h : Below w.heap.size w w') : Ex c g w w' := ⟨h.os, h.tape, h.output, h.size, fun k hk _ _ => h.block k hk⟩
theorem Ex.refl (c g : Nat) (w : World) : Ex c g w w := Ex.of (Below.refl _ _)
theorem Ex.trans {c g : Nat} {a b d : World} (h : Ex c g a b) (k : Ex c g b d) : Ex c g a d :=
  ⟨k.os.trans h.os, k.tape.trans h.tape, k.output.trans h.output, Nat.le_trans h.size k.size, fun i hi h1 h2 => (k.block i (by have := h.size; omega) h1 h2).trans (h.block i hi h1 h2)⟩
theorem Ex.swap {c g : Nat} {w w' : World} (h : Ex c g w w') : Ex g c w w' := ⟨h.os, h.tape, h.output, h.size, fun k hk h1 h2 => h.block k hk h2 h1⟩
theorem Ex.below {B c g : Nat} {w w' : World} (h : Ex c g w w') (hB : B ≤ w.heap.size) (hc : B ≤ c) (hg : B ≤ g) : Below B w w' :=
  ⟨h.os, h.tape, h.output, h.size, fun k hk => h.block k (by omega) (by omega) (by omega)⟩
theorem Ex.drew {c g : Nat} {w w' : World} (h : Ex c g w w') : Ex c g w w'.drew := ⟨h.os, h.tape, h.output, h.size, h.block⟩
theorem Ex.drews {c g : Nat} {w w' : World} (h : Ex c g w w') (n : Nat) : Ex c g w (w'.drewN n) := ⟨h.os, h.tape, h.output, h.size, h.block⟩
theorem Ex.setL {c g : Nat} {w w' : World} (h : Ex c g w w') (i : Nat) (v : Value) : Ex c g w (w'.setCell ⟨c, i, none⟩ v) :=
  h.trans ⟨rfl, rfl, rfl, by simp [World.setCell], fun k _ h1 _ => Below.heap_setCell _ _ _ _ h1⟩
theorem Ex.row {c g : Nat} {w w' : World} (h : Ex c g w w') (cs : Array Value) : Ex c g w (w'.setRow g cs) :=
  h.trans ⟨rfl, rfl, rfl, by simp, fun k _ _ h2 => setRow_other _ _ _ _ h2⟩
theorem below_drews {B : Nat} {a w : World} (h : Below B a w) (n : Nat) : Below B a (w.drewN n) := ⟨h.os, h.tape, h.output, h.size, h.block⟩
theorem bel_trans {w w1 w2 : World} (h1 : Below w.heap.size w w1) (h2 : Below w1.heap.size w1 w2) : Below w.heap.size w w2 := h1.trans (h2.mono h1.size)

theorem undrew {w w' : World} (h : Below w.drew.heap.size w.drew w') : Below w.heap.size w w' := ⟨h.os, h.tape, h.output, h.size, h.block⟩

/-- The chunk's block c, its room's block g, the room's bytes (and how many it could have), where the gap begins and ends. -/
def Ck (w : World) (c g : Nat) (L : Bs) (K p r : Nat) : Prop :=
  w.heap[c]? = some (.cells #[.slice (some ⟨g, 0, none⟩) L.length K, .int .i64 p, .int .i64 r] 90 (0, 0)) ∧ (∃ Z : List Value, w.heap[g]? = some (.cells (Lib.byteCells L ++ Z).toArray 5 (0, 0)) ∧ K = L.length + Z.length) ∧ c ≠ g ∧ p ≤ r ∧ r ≤ L.length ∧ 4 ≤ L.length ∧ L.length ≤ 4096
/-- A chunk of that size, with that text, at that place. -/
def Chk (w : World) (c g mx : Nat) (s : Bs) (p : Nat) : Prop := ∃ L K r, Ck w c g L K p r ∧ L.length = mx ∧ s = L.take p ++ L.drop r
theorem lt_of_heap {w : World} {k : Nat} {o : Obj} (h : w.heap[k]? = some o) : k < w.heap.size := (Array.getElem?_eq_some_iff.1 h).1
theorem Ck.lt {w : World} {c g : Nat} {L : Bs} {K p r : Nat} (h : Ck w c g L K p r) : c < w.heap.size ∧ g < w.heap.size := ⟨lt_of_heap h.1, by obtain ⟨Z, hZ, _⟩ := h.2.1; exact lt_of_heap hZ⟩
theorem Chk.lt {w : World} {c g mx : Nat} {s : Bs} {p : Nat} (h : Chk w c g mx s p) : c < w.heap.size ∧ g < w.heap.size := by obtain ⟨L, K, r, h, _⟩ := h; exact h.lt
theorem Ck.keep {w w' : World} {c g : Nat} {L : Bs} {K p r : Nat} (h : Ck w c g L K p r) (e1 : w'.heap[c]? = w.heap[c]?) (e2 : w'.heap[g]? = w.heap[g]?) : Ck w' c g L K p r := ⟨e1.trans h.1, (by obtain ⟨Z, hZ, hK⟩ := h.2.1; exact ⟨Z, e2.trans hZ, hK⟩), h.2.2⟩
theorem Ck.on {w w' : World} {c g : Nat} {L : Bs} {K p r : Nat} (h : Ck w c g L K p r) (hb : Below w.heap.size w w') : Ck w' c g L K p r := h.keep (hb.block _ h.lt.1) (hb.block _ h.lt.2)
theorem Chk.on {w w' : World} {c g mx : Nat} {s : Bs} {p : Nat} (h : Chk w c g mx s p) (hb : Below w.heap.size w w') : Chk w' c g mx s p := by
  obtain ⟨L, K, r, h, e⟩ := h; exact ⟨L, K, r, h.on hb, e⟩
theorem Chk.past {w w' : World} {c g a b mx : Nat} {s : Bs} {p : Nat} (h : Chk w c g mx s p) (hx : Ex a b w w') (h1 : c ≠ a) (h2 : c ≠ b) (h3 : g ≠ a) (h4 : g ≠ b) : Chk w' c g mx s p := by
  obtain ⟨L, K, r, h, e⟩ := h; exact ⟨L, K, r, h.keep (hx.block _ h.lt.1 h1 h2) (hx.block _ h.lt.2 h3 h4), e⟩
theorem Chk.len {w : World} {c g mx : Nat} {s : Bs} {p : Nat} (h : Chk w c g mx s p) : s.length ≤ mx ∧ mx ≤ 4096 ∧ 4 ≤ mx ∧ p ≤ s.length := by
  obtain ⟨L, K, r, ⟨_, _, _, h1, h2, h3, h4⟩, rfl, rfl⟩ := h
  rw [parts_len h1 h2]; omega

/-- The chunk's cells. -/
theorem Ck.cells {w : World} {c g : Nat} {L : Bs} {K p r : Nat} (h : Ck w c g L K p r) :
    w.cell? ⟨c, 0, none⟩ = some (.slice (some ⟨g, 0, none⟩) L.length K) ∧ w.cell? ⟨c, 1, none⟩ = some (.int .i64 p) ∧ w.cell? ⟨c, 2, none⟩ = some (.int .i64 r) ∧ (∀ i, w.frozen? ⟨c, i, none⟩ = false) := by
  have h1 := h.1
  refine ⟨by simp [World.cell?, h1], by simp [World.cell?, h1], by simp [World.cell?, h1], fun i => by simp [World.frozen?, h1]⟩
theorem Ck.byte {w : World} {c g : Nat} {L : Bs} {K p r : Nat} (h : Ck w c g L K p r) (j : Nat) (hj : j < L.length) : w.cell? ⟨g, j, none⟩ = some (.int .u8 L[j].toNat) := by
  obtain ⟨Z, h1, _⟩ := h.2.1
  have hl : j < (Lib.byteCells L).length := by rw [Lib.byteCells_length]; exact hj
  have : (Lib.byteCells L ++ Z)[j]? = some (.int .u8 L[j].toNat) := by
    rw [List.getElem?_append_left hl]
    simp [Lib.byteCells, hj]
  simp only [World.cell?, h1]
  simpa using this
theorem Ck.cap {w : World} {c g : Nat} {L : Bs} {K p r : Nat} (h : Ck w c g L K p r) : L.length ≤ K := by
  obtain ⟨Z, _, e⟩ := h.2.1; omega
theorem bs_size (s : Bs) : (⟨⟨s⟩⟩ : ByteArray).size = s.length := rfl
theorem add_at (g i j : Nat) : (⟨g, i, none⟩ : Addr).add j = ⟨g, i + j, none⟩ := by unfold Addr.add; split <;> simp_all

/-- A part of the room as a string. -/
theorem Ck.str {w : World} {c g : Nat} {L : Bs} {K p r : Nat} (h : Ck w c g L K p r) (a m cap : Nat) (hb : a + m ≤ L.length) (n : Nat) :
    (convert 72 9 (.slice (some ⟨g, a, none⟩) m cap)).run Tryd.prog (w.drewN n) = .ok (str ((L.drop a).take m)) (w.drewN n) := by
  have hl : ((L.drop a).take m).length = m := by simp; omega
  have := run_convert_bytes_back (P := Tryd.prog) (w.drewN n) 72 9 5 ⟨g, a, none⟩ cap ((L.drop a).take m) Tryd.underlying72 Tryd.underlying5 Tryd.underlying9 (fun j hj => by
    rw [add_at]
    show w.cell? _ = _
    rw [h.byte (a + j) (by omega)]
    simp)
  rw [hl] at this
  exact this
end Go.Proofs.YtdpjcbljeklhmaaDoor
