/-
  What the gap's shift leaves: the same text, the gap at the new place. Condition: the place is one of the text.
-/
import Derived.Test.YtdpjcbljeklhmaaDoorW2
namespace Go.Proofs.YtdpjcbljeklhmaaDoor
open Go.RowKit ObGap

/-- A copy as one step of a region that draws its order: the world behind it, written out. -/
theorem step_copy_row {P : Program} {ops : Array Oper} {o : Oper} {a : Act} {w : World} {K : Act → World → Prop} {Q : Exit → Act → World → Prop} {E : Prop} (hgd : o.guard = none) (d s : Operand) (dT sT : TypeId)
    (ho : o.op = .call { callee := .builtin .copy, args := #[d, s], argTypes := #[dT, sT] }) (elem : TypeId) (hu : P.underlying dT = some (.slice elem)) (hsz : (P.info? elem).map (·.size) = some 1)
    (dp sp : Option Addr) (dLen dCap sLen sCap : Nat) (hd : a.eval d = .slice dp dLen dCap) (hs : a.eval s = .slice sp sLen sCap)
    (g off : Nat) (cur : List Value) (t : TypeId) (hg : w.heap[g]? = some (.cells cur.toArray t (0, 0))) (cs : List Value) (hn : cs.length = Nat.min sLen dLen)
    (hpos : 0 < cs.length → dp = some ⟨g, off, none⟩ ∧ ∃ ad, sp = some ad ∧ ∀ j v, cs[j]? = some v → w.cell? (ad.add j) = some v)
    (hfit : off + cs.length ≤ cur.length) (h1 : ∀ v ∈ cs, v.oneCell' = true)
    (h : ∀ w', Hid (w' = w.setRow g (splice cur off cs).toArray) → K (a.put o.dst (goInt cs.length)) w') :
    if Region.wanted o (yielded ops a.tmps) = true then Oper.wp P o a w K Q else E := by
  have hw : Region.wanted o (yielded ops a.tmps) = true := by simp [Region.wanted, hgd]
  rw [if_pos hw]
  by_cases h0 : cs.length = 0
  · obtain rfl : cs = [] := List.eq_nil_of_length_eq_zero h0
    have hrun := run_copy_none (P := P) w dT sT o.type elem dp sp dLen dCap sLen sCap hu hsz (by simpa using hn.symm)
    unfold Oper.wp
    simp [execOp, ho, resolve, invoke, builtin, hd, hs, hrun, Result.andThen]
    refine h w (Lib.hid ?_)
    simp [splice]
    exact (setRow_self w g _ t (0, 0) hg).symm
  · obtain ⟨rfl, ad, rfl, hsrc⟩ := hpos (by omega)
    have hrun := run_copy_row (P := P) w dT sT o.type elem g off dLen dCap ad sLen sCap cur.toArray t cs hu hsz hg hn hsrc (by simpa using hfit) h1
    unfold Oper.wp
    simp [execOp, ho, resolve, invoke, builtin, hd, hs, hrun, Result.andThen]
    refine h _ (Lib.hid ?_)
    simp [splice]

theorem info5 : (Tryd.prog.info? 5).map (·.size) = some 1 := by kernel_rfl
theorem heap_set {w : World} {b : Nat} {cs : Array Value} {t : TypeId} {fr : Nat × Nat} (i : Nat) (v : Value) (h : w.heap[b]? = some (.cells cs t fr)) : (w.setCell ⟨b, i, none⟩ v).heap[b]? = some (.cells (cs.setIfInBounds i v) t fr) := by
  rw [setCell_eq_setRow w b i cs t fr v h]
  exact setRow_heap w b _ _ t fr h
/-- Both ends of the gap laid anew. -/
theorem Ck.put2 {w : World} {c g : Nat} {L : Bs} {K p r : Nat} (h : Ck w c g L K p r) {a q : Nat} (h1 : a ≤ q) (h2 : q ≤ L.length) : Ck ((w.setCell ⟨c, 1, none⟩ (.int .i64 a)).setCell ⟨c, 2, none⟩ (.int .i64 q)) c g L K a q := by
  obtain ⟨k1, k2, k3, k4, k5, k6, k7⟩ := h
  refine ⟨?_, ?_, k3, h1, h2, k6, k7⟩
  · have := heap_set 2 (.int .i64 q) (heap_set 1 (.int .i64 a) k1)
    simpa using this
  · obtain ⟨Z, z1, z2⟩ := k2
    refine ⟨Z, ?_, z2⟩
    rw [Below.heap_setCell _ _ _ _ (Ne.symm k3), Below.heap_setCell _ _ _ _ (Ne.symm k3)]; exact z1
theorem Ck.putP {w : World} {c g : Nat} {L : Bs} {K p r : Nat} (h : Ck w c g L K p r) {a : Nat} (h1 : a ≤ r) : Ck (w.setCell ⟨c, 1, none⟩ (.int .i64 a)) c g L K a r := by
  obtain ⟨k1, k2, k3, k4, k5, k6, k7⟩ := h
  refine ⟨?_, ?_, k3, h1, k5, k6, k7⟩
  · have := heap_set 1 (.int .i64 a) k1
    simpa using this
  · obtain ⟨Z, z1, z2⟩ := k2
    refine ⟨Z, ?_, z2⟩
    rw [Below.heap_setCell _ _ _ _ (Ne.symm k3)]; exact z1
theorem Ck.putR {w : World} {c g : Nat} {L : Bs} {K p r : Nat} (h : Ck w c g L K p r) {q : Nat} (h1 : p ≤ q) (h2 : q ≤ L.length) : Ck (w.setCell ⟨c, 2, none⟩ (.int .i64 q)) c g L K p q := by
  obtain ⟨k1, k2, k3, k4, k5, k6, k7⟩ := h
  refine ⟨?_, ?_, k3, h1, h2, k6, k7⟩
  · have := heap_set 2 (.int .i64 q) k1
    simpa using this
  · obtain ⟨Z, z1, z2⟩ := k2
    refine ⟨Z, ?_, z2⟩
    rw [Below.heap_setCell _ _ _ _ (Ne.symm k3)]; exact z1
/-- The room laid anew. -/
theorem Ck.row {w : World} {c g : Nat} {L : Bs} {K p r : Nat} {Z : List Value} (h : Ck w c g L K p r) (hZ : w.heap[g]? = some (.cells (Lib.byteCells L ++ Z).toArray 5 (0, 0)) ∧ K = L.length + Z.length) {M : Bs} (e : M.length = L.length) : Ck (w.setRow g (Lib.byteCells M ++ Z).toArray) c g M K p r := by
  obtain ⟨k1, _, k3, k4, k5, k6, k7⟩ := h
  refine ⟨?_, ⟨Z, setRow_heap w g _ _ 5 _ hZ.1, by omega⟩, k3, k4, by omega, by omega, by omega⟩
  rw [setRow_other _ _ _ _ k3, e]; exact k1
theorem Ck.drew {w : World} {c g : Nat} {L : Bs} {K p r : Nat} (h : Ck w c g L K p r) : Ck w.drew c g L K p r := h
theorem splice_bytes (L X : Bs) (Z : List Value) (o : Nat) (h : o + X.length ≤ L.length) : splice (Lib.byteCells L ++ Z) o (Lib.byteCells X) = Lib.byteCells (L.take o ++ (X ++ L.drop (o + X.length))) ++ Z := by
  have e1 : (Lib.byteCells L ++ Z).take o = (Lib.byteCells L).take o := List.take_append_of_le_length (by rw [Lib.byteCells_length]; omega)
  have e2 : (Lib.byteCells L ++ Z).drop (o + (Lib.byteCells X).length) = (Lib.byteCells L).drop (o + X.length) ++ Z := by
    rw [Lib.byteCells_length, List.drop_append_of_le_length (by rw [Lib.byteCells_length]; omega)]
  unfold splice
  rw [e1, e2]
  simp [Lib.byteCells, List.map_take, List.map_drop]
/-- The cells of a part of the room. -/
theorem Ck.part {w : World} {c g : Nat} {L : Bs} {K p r : Nat} (h : Ck w c g L K p r) (a m : Nat) : ∀ j v, (Lib.byteCells ((L.drop a).take m))[j]? = some v → w.cell? ((⟨g, a, none⟩ : Addr).add j) = some v := by
  intro j v hj
  simp only [Lib.byteCells, List.getElem?_map, Option.map_eq_some_iff] at hj
  obtain ⟨b, hb, rfl⟩ := hj
  rw [List.getElem?_take, List.getElem?_drop] at hb
  split at hb
  · have hlt : a + j < L.length := (List.getElem?_eq_some_iff.1 hb).1
    rw [add_at, h.byte _ hlt]
    rw [List.getElem?_eq_getElem hlt] at hb
    injection hb with hb
    rw [hb]
  · cases hb

def Moved (w : World) (c g : Nat) (L : Bs) (K p r a : Nat) (w' : World) : Prop :=
  (∃ M, Ck w' c g M K a (a + (r - p)) ∧ M.length = L.length ∧ M.take a ++ M.drop (a + (r - p)) = L.take p ++ L.drop r) ∧ Ex c g w w'
theorem Moved.mk {w0 w W : World} {c g : Nat} {L M : Bs} {Z : List Value} {K p r a q : Nat} (h : Ck w c g L K p r) (hZ : w.heap[g]? = some (.cells (Lib.byteCells L ++ Z).toArray 5 (0, 0)) ∧ K = L.length + Z.length) (hx : Ex c g w0 w) (e : W = w.setRow g (Lib.byteCells M ++ Z).toArray) (hM : M.length = L.length) (hq : q = a + (r - p)) (h2 : q ≤ L.length) (ht : M.take a ++ M.drop (a + (r - p)) = L.take p ++ L.drop r) :
    Moved w0 c g L K p r a ((W.setCell ⟨c, 1, none⟩ (.int .i64 a)).setCell ⟨c, 2, none⟩ (.int .i64 q)) := by
  subst e; subst hq
  exact ⟨⟨M, (h.row hZ hM).put2 (by omega) (by omega), hM, ht⟩, ((hx.row _).setL _ _).setL _ _⟩
end Go.Proofs.YtdpjcbljeklhmaaDoor
