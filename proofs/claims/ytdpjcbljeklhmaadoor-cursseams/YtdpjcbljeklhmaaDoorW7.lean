/-
  What Insert of a chunk answers and leaves, for every chunk and every argument, and for none.
-/
import Derived.Test.YtdpjcbljeklhmaaDoorW5
import Derived.Deep.RegionLaw
namespace Go.Proofs.YtdpjcbljeklhmaaDoor
open Go.RowKit ObGap

/-- A copy of a string as one step of a region that draws its order. -/
theorem step_copy_str {P : Program} {ops : Array Oper} {o : Oper} {a : Act} {w : World} {K : Act → World → Prop} {Q : Exit → Act → World → Prop} {E : Prop} (hgd : o.guard = none) (d s : Operand) (dT sT : TypeId)
    (ho : o.op = .call { callee := .builtin .copy, args := #[d, s], argTypes := #[dT, sT] }) (elem : TypeId) (hu : P.underlying dT = some (.slice elem)) (hsz : (P.info? elem).map (·.size) = some 1)
    (dp : Option Addr) (dLen dCap : Nat) (x : Bs) (hd : a.eval d = .slice dp dLen dCap) (hs : a.eval s = str x)
    (g off : Nat) (cur : List Value) (t : TypeId) (hg : w.heap[g]? = some (.cells cur.toArray t (0, 0))) (hn : x.length ≤ dLen)
    (hpos : 0 < x.length → dp = some ⟨g, off, none⟩) (hfit : off + x.length ≤ cur.length)
    (h : ∀ w', Hid (w' = w.setRow g (splice cur off (Lib.byteCells x)).toArray) → K (a.put o.dst (goInt x.length)) w') :
    if Region.wanted o (yielded ops a.tmps) = true then Oper.wp P o a w K Q else E := by
  have hw : Region.wanted o (yielded ops a.tmps) = true := by simp [Region.wanted, hgd]
  rw [if_pos hw]
  by_cases h0 : x.length = 0
  · obtain rfl : x = [] := List.eq_nil_of_length_eq_zero h0
    have hrun := Lib.run_copy_empty_string (P := P) w dT sT o.type elem dp dLen dCap ⟨⟨[]⟩⟩ hu (by rw [hsz]; rfl) rfl
    unfold Oper.wp
    simp [execOp, ho, resolve, invoke, builtin, hd, hs, hrun, Result.andThen]
    refine h w (Lib.hid ?_)
    simp [splice, Lib.byteCells]
    exact (setRow_self w g _ t (0, 0) hg).symm
  · obtain rfl := hpos (by omega)
    have hrun := Lib.run_copy_row_string (P := P) w dT sT o.type elem g off dLen dCap ⟨⟨x⟩⟩ cur.toArray t hu hsz hg hn (by show off + x.length ≤ cur.toArray.size; simpa using hfit)
    unfold Oper.wp
    simp [execOp, ho, resolve, invoke, builtin, hd, hs, hrun, Result.andThen]
    refine h _ (Lib.hid ?_)
    simp [splice, Lib.byteCells_length, bs_size]

theorem insE_out {mx : Nat} {s x : Bs} {i : Int} (h : out s i = true) : insE mx s i x = 2 := by unfold insE; rw [if_pos h]
theorem insS_out {mx : Nat} {s x : Bs} {i : Int} (h : out s i = true) : insS mx s i x = s := by unfold insS; rw [if_pos h]
theorem insP_out {mx p : Nat} {s x : Bs} {i : Int} (h : out s i = true) : insP mx s p i x = p := by unfold insP; rw [if_pos h]
theorem insE_big {mx : Nat} {s x : Bs} {i : Int} (h : out s i = false) (h2 : mx < s.length + x.length) : insE mx s i x = 3 := by unfold insE; rw [if_neg (by simp [h]), if_pos h2]
theorem insS_big {mx : Nat} {s x : Bs} {i : Int} (h : out s i = false) (h2 : mx < s.length + x.length) : insS mx s i x = s := by unfold insS; rw [if_neg (by simp [h]), if_pos h2]
theorem insP_big {mx p : Nat} {s x : Bs} {i : Int} (h : out s i = false) (h2 : mx < s.length + x.length) : insP mx s p i x = p := by unfold insP; rw [if_neg (by simp [h]), if_pos h2]
theorem insE_in {mx : Nat} {s x : Bs} {i : Int} (h : out s i = false) (h2 : ¬ mx < s.length + x.length) : insE mx s i x = 0 := by unfold insE; rw [if_neg (by simp [h]), if_neg h2]
theorem insS_in {mx : Nat} {s x : Bs} {i : Int} (h : out s i = false) (h2 : ¬ mx < s.length + x.length) : insS mx s i x = s.take i.toNat ++ (x ++ s.drop i.toNat) := by unfold insS; rw [if_neg (by simp [h]), if_neg h2]
theorem insP_in {mx p : Nat} {s x : Bs} {i : Int} (h : out s i = false) (h2 : ¬ mx < s.length + x.length) : insP mx s p i x = i.toNat + x.length := by unfold insP; rw [if_neg (by simp [h]), if_neg h2]
set_option maxHeartbeats 400000 in
theorem insert_nil (i : Int) (x : Bs) (w : World) : Calls Tryd.prog 59 #[.pointer none, .int .i64 i, str x] w fun e w' => e = .returned (.int .i64 1) ∧ Below w.heap.size w w' := by
  go_enter Tryd.func59, Tryd.ntmps59
  go_wp2_with fail
  refine (refuse_nil i w).mono ?_
  rintro e w1 ⟨rfl, hb1⟩
  go_wp2_with fail
  go_ret
  exact ⟨rfl, hb1⟩
/-- Behind a shift what is put in lies at the gap's beginning. -/
theorem Moved.ins {w0 w W : World} {c g : Nat} {L M x : Bs} {Z : List Value} {K p r a q b : Nat} (hx : Ex c g w0 w) (hM : Ck w c g M K a q) (hZ : w.heap[g]? = some (.cells (Lib.byteCells M ++ Z).toArray 5 (0, 0)) ∧ K = M.length + Z.length) (e : W = w.setRow g (splice (Lib.byteCells M ++ Z) a (Lib.byteCells x)).toArray) (hl : M.length = L.length) (ht : M.take a ++ M.drop q = L.take p ++ L.drop r) (hfit : a + x.length ≤ q) (hb : b = a + x.length) :
    Chk (W.setCell ⟨c, 1, none⟩ (.int .i64 b)) c g L.length ((L.take p ++ L.drop r).take a ++ (x ++ (L.take p ++ L.drop r).drop a)) b ∧ Ex c g w0 (W.setCell ⟨c, 1, none⟩ (.int .i64 b)) := by
  subst hb
  have hq := hM.2.2.2.2.1
  rw [splice_bytes _ _ _ _ (by omega)] at e
  subst e
  have hlay := lay_in (L := M) (x := x) hfit hq
  refine ⟨⟨_, K, q, (hM.row hZ hlay.1).putP hfit, hlay.1.trans hl, ?_⟩, (hx.row _).setL _ _⟩
  rw [← ht]
  exact hlay.2.symm
set_option maxHeartbeats 1000000 in
theorem insert_chk {w : World} {c g mx : Nat} {s : Bs} {p : Nat} (h : Chk w c g mx s p) (i : Int) (x : Bs) :
    Calls Tryd.prog 59 #[ptr c, .int .i64 i, str x] w fun e w' => e = .returned (.int .i64 (insE mx s i x)) ∧ Chk w' c g mx (insS mx s i x) (insP mx s p i x) ∧ Ex c g w w' := by
  have HC := Lib.hid h
  obtain ⟨L, K, r, hk, hmx, hs⟩ := h
  have HF := refuse_ck hk i
  rw [← hs] at HF
  have HS := Lib.hid hs
  have HX := Lib.hid hmx
  have HK := Lib.hid hk
  have HPR := Lib.hid (show p ≤ r ∧ r ≤ L.length ∧ L.length ≤ 4096 from ⟨hk.2.2.2.1, hk.2.2.2.2.1, hk.2.2.2.2.2.2⟩)
  have HSL := Lib.hid (show s.length = mx - (r - p) by rw [hs, ← hmx]; exact parts_len hk.2.2.2.1 hk.2.2.2.2.1)
  clear hs hk hmx
  by_cases ho : out s i = true
  · rw [movE_out ho] at HF
    rw [insE_out ho, insS_out ho, insP_out ho]
    have HF2 := Lib.hid HF
    clear HF ho
    go_enter Tryd.func59, Tryd.ntmps59
    go_wp2_with fail
    refine HF2.out.mono ?_
    rintro e w1 ⟨rfl, hb1⟩
    go_wp2_with fail
    go_ret
    exact ⟨rfl, HC.out.on hb1, Ex.of hb1⟩
  · have ho : out s i = false := by simpa using ho
    rw [movE_in ho] at HF
    have HF2 := Lib.hid HF
    clear HF
    by_cases hbig : mx < s.length + x.length
    · rw [insE_big ho hbig, insS_big ho hbig, insP_big ho hbig]
      have d1 : decide ((r : Int) - p < (x.length : Int)) = true := by have h1 := HPR.out; have h2 := HSL.out; have h3 := HX.out; simp; omega
      clear ho hbig
      go_enter Tryd.func59, Tryd.ntmps59
      go_wp2_with fail
      refine HF2.out.mono ?_
      rintro e w1 ⟨rfl, hb1⟩
      have HB := Lib.hid hb1
      clear hb1
      go_wp2_with fail
      refine (free_ck (HK.out.on HB.out)).mono ?_
      rintro e w2 ⟨rfl, hb2⟩
      go_wp2_with fail
      go_ret
      exact ⟨rfl, HC.out.on (bel_trans HB.out hb2), Ex.of (bel_trans HB.out hb2)⟩
    · rw [insE_in ho hbig, insS_in ho hbig, insP_in ho hbig]
      have d1 : decide ((r : Int) - p < (x.length : Int)) = false := by have h1 := HPR.out; have h2 := HSL.out; have h3 := HX.out; simp; omega
      have hr := out_false ho
      obtain ⟨a, rfl⟩ : ∃ a : Nat, i = a := ⟨i.toNat, by omega⟩
      have HA := Lib.hid (show a ≤ s.length by omega)
      have HFIT := Lib.hid (show a + x.length ≤ a + (r - p) by have h1 := HPR.out; have h2 := HSL.out; have h3 := HX.out; omega)
      rw [Int.toNat_natCast]
      have HB4 := Lib.hid (show a + x.length ≤ 4096 by have h1 := HPR.out; have h2 := HSL.out; have h3 := HX.out; omega)
      clear ho hbig hr
      go_enter Tryd.func59, Tryd.ntmps59
      go_wp2_with fail
      refine HF2.out.mono ?_
      rintro e w1 ⟨rfl, hb1⟩
      have HB := Lib.hid hb1
      clear hb1
      go_wp2_with fail
      refine (free_ck (HK.out.on HB.out)).mono ?_
      rintro e w2 ⟨rfl, hb2⟩
      have HB2 := Lib.hid (bel_trans HB.out hb2)
      clear hb2
      go_wp2_with fail
      refine (shift_ck (HK.out.on HB2.out) a (by rw [← HS.out]; exact HA.out)).mono ?_
      rintro e w3 ⟨rfl, hm3⟩
      obtain ⟨⟨M, hM, eM, ht⟩, hx3⟩ := hm3
      have hle := hM.2.2.2.2.1
      have hle0 := hM.2.2.2.1
      generalize hq : a + (r - p) = q at *
      have wk : IntKind.i64.wrap ((a : Int) + (x.length : Int)) = ((a + x.length : Nat) : Int) := (IntWalk.i64_in _ (by have := HB4.out; omega)).trans (by omega)
      have HMk := Lib.hid hM
      have hcap := hM.cap
      obtain ⟨Z, hZ⟩ := hM.2.1
      have HZ := Lib.hid hZ
      clear hZ
      have HE := Lib.hid eM
      have HT := Lib.hid ht
      have HX3 := Lib.hid ((Ex.of HB2.out).trans hx3)
      have i1 : (a : Int) ≤ (M.length : Int) := by omega
      have i2 : (a : Int) ≤ (K : Int) := by omega
      obtain ⟨c0, c1, c2, f1⟩ := hM.cells
      have f1 := f1 1
      have hfit := HFIT.out
      generalize hb : a + x.length = b at wk
      have HBB := Lib.hid hb
      by_cases han : K = a
      · have hx0 : x.length = 0 := by omega
        have HX0 := Lib.hid hx0
        clear hM eM ht hx3 hq hb hle hle0 hfit hx0
        go_wp2_with fail
        go_region_law (refine step_copy_str rfl (.tmp 34) (.tmp 35) 72 9 rfl 5 Tryd.underlying72 info5 _ _ _ x rfl rfl g a (Lib.byteCells M ++ Z) 5 HZ.out.1 (by have := HX0.out; omega) (fun h => absurd h (by have := HX0.out; omega)) (by rw [List.length_append, Lib.byteCells_length]; have := HX0.out; omega) ?_; intro w4 hw4; have k0 := keepS HMk.out.drew (keepX HMk.out.drew hw4); obtain ⟨k0, k1, k2⟩ := k0; have kf := copied_frozen HMk.out.drew hw4 1)
        all_goals (
          go_wp2_with fail
          go_ret
          have hh := Moved.ins (L := L) (p := p) (r := r) (b := b) HX3.out.drew HMk.out.drew HZ.out hw4.out HE.out HT.out HFIT.out HBB.out.symm
          refine ⟨rfl, ?_, hh.2⟩
          rw [← HX.out, HS.out, HBB.out]
          exact hh.1)
      · have han2 : (K = a) = False := by simp [han]
        clear hM eM ht hx3 hq hb hle0
        have HL5 := Lib.hid (show x.length ≤ M.length - a by omega)
        have HL6 := Lib.hid (show a + x.length ≤ M.length by omega)
        clear hle hfit
        go_wp2_with fail
        go_region_law (refine step_copy_str rfl (.tmp 34) (.tmp 35) 72 9 rfl 5 Tryd.underlying72 info5 _ _ _ x rfl rfl g a (Lib.byteCells M ++ Z) 5 HZ.out.1 HL5.out (fun _ => rfl) (by rw [List.length_append, Lib.byteCells_length]; have := HL6.out; omega) ?_; intro w4 hw4; have k0 := keepS HMk.out.drew (keepX HMk.out.drew hw4); obtain ⟨k0, k1, k2⟩ := k0; have kf := copied_frozen HMk.out.drew hw4 1)
        all_goals (
          go_wp2_with fail
          go_ret
          have hh := Moved.ins (L := L) (p := p) (r := r) (b := b) HX3.out.drew HMk.out.drew HZ.out hw4.out HE.out HT.out HFIT.out HBB.out.symm
          refine ⟨rfl, ?_, hh.2⟩
          rw [← HX.out, HS.out, HBB.out]
          exact hh.1)
end Go.Proofs.YtdpjcbljeklhmaaDoor
