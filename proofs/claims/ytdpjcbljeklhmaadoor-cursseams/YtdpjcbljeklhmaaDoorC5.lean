/-
  What Of and View of curs, and View of the page's own, answer: two new rows, the symbols and where each begins. Conditions: a text of at most 1000000 bytes; the two tables of unicode/utf8 lie as their text lays them.
-/
import Derived.Test.YtdpjcbljeklhmaaDoorC4
namespace Go.Proofs.YtdpjcbljeklhmaaDoor
open Go.RowKit ObGap ObUtf

abbrev ints (xs : List Int) : List Value := xs.map (Value.int .i64)
/-- The block of a view, and its two rows, that lie apart. -/
structure Vw (wr : World) (B v : Nat) (V O : Value) (xs os : List Int) : Prop where
  blk : wr.heap[v]? = some (.cells #[V, O] 43 (0, 0))
  row : wr.ownsRow 0 3 1 V xs.length (ints xs)
  off : wr.ownsRow 0 3 1 O os.length (ints os)
  ap : ∀ g, V.ownBlock = some g → O.ownBlock ≠ some g
  nv : ∀ g, V.ownBlock = some g → B ≤ g
  no : ∀ g, O.ownBlock = some g → B ≤ g
  hv : B ≤ v
section
variable {wr w' w2 : World} {B v : Nat} {V O V' : Value} {xs os : List Int} {y : Int} {o : Obj}
theorem Vw.lt (h : Vw wr B v V O xs os) : v < wr.heap.size := lt_of_heap h.blk
theorem Vw.on (h : Vw wr B v V O xs os) (hb : Below wr.heap.size wr w') : Vw w' B v V O xs os :=
  ⟨(hb.block _ h.lt).trans h.blk, own_below h.row hb, own_below h.off hb, h.ap, h.nv, h.no, h.hv⟩
theorem Vw.neV (h : Vw wr B v V O xs os) {g : Nat} (hg : V.ownBlock = some g) : g ≠ v := by
  obtain ⟨a, ht⟩ := own_ty h.row hg; exact ty_ne ht h.blk (by decide)
theorem Vw.neO (h : Vw wr B v V O xs os) {g : Nat} (hg : O.ownBlock = some g) : g ≠ v := by
  obtain ⟨a, ht⟩ := own_ty h.off hg; exact ty_ne ht h.blk (by decide)
theorem Vw.pushV (h : Vw wr B v V O xs os) (hB : B ≤ wr.heap.size) (own' : w2.ownsRow 0 3 1 V' (xs.length + 1) (ints xs ++ [.int .i64 y])) (hg : (wr.alloc o).grownBy w2 V.ownBlock)
    (hnew : ∀ g, V'.ownBlock = some g → V.ownBlock = some g ∨ (wr.alloc o).heap.size ≤ g) :
    w2.heap[v]? = some (.cells #[V, O] 43 (0, 0)) ∧ Vw (w2.setCell ⟨v, 0, none⟩ V') B v V' O (xs ++ [y]) os ∧ Below B wr (w2.setCell ⟨v, 0, none⟩ V') ∧ (∀ k a, wr.heap[k]? = some (.cells a 43 (0, 0)) → k ≠ v → (w2.setCell ⟨v, 0, none⟩ V').heap[k]? = wr.heap[k]?) := by
  have hbl : Below wr.heap.size wr (wr.alloc o) := (Below.refl _ _).alloc (Nat.le_refl _) o
  have hsz := hbl.size
  have s2 := hg.size
  have h1 := h.on hbl
  have b2 : w2.heap[v]? = some (.cells #[V, O] 43 (0, 0)) := (hg.block _ h1.lt (fun e => h1.neV e.symm rfl)).trans h1.blk
  refine ⟨b2, ⟨by simpa using heap_set 0 V' b2, ?_, ?_, fun g hg' hO => ?_, fun g hg' => ?_, h.no, h.hv⟩, ?_, fun k a hk hne => ?_⟩
  · refine own_keep (by simpa using own') fun g hg' => ?_
    obtain ⟨a, ht⟩ := own_ty own' hg'
    exact Below.heap_setCell _ _ _ _ (ty_ne ht b2 (by decide))
  · refine own_keep h1.off fun g hg' => ?_
    exact (Below.heap_setCell _ _ _ _ (h1.neO hg')).trans (hg.block _ (h1.off.lt g hg').2 (fun e => h.ap g e.symm hg'))
  · rcases hnew g hg' with e | e
    · exact h.ap g e hO
    · have := (h.off.lt g hO).2; omega
  · rcases hnew g hg' with e | e
    · exact h.nv g e
    · omega
  · exact (((Below.refl B wr).alloc hB o).grown hg (by omega) (fun k hk => h.nv k hk)).setCell (p := ⟨v, 0, none⟩) h.hv _
  · have hk1 := hbl.block k (lt_of_heap hk)
    refine (Below.heap_setCell _ _ _ _ hne).trans ((hg.block _ (lt_of_heap (hk1.trans hk)) fun e => ?_).trans hk1)
    obtain ⟨a2, ht⟩ := own_ty h1.row e.symm
    exact ty_ne ht (hk1.trans hk) (by decide) rfl
theorem Vw.pushO (h : Vw wr B v V O xs os) (hB : B ≤ wr.heap.size) (own' : w2.ownsRow 0 3 1 V' (os.length + 1) (ints os ++ [.int .i64 y])) (hg : (wr.alloc o).grownBy w2 O.ownBlock)
    (hnew : ∀ g, V'.ownBlock = some g → O.ownBlock = some g ∨ (wr.alloc o).heap.size ≤ g) :
    w2.heap[v]? = some (.cells #[V, O] 43 (0, 0)) ∧ Vw (w2.setCell ⟨v, 1, none⟩ V') B v V V' xs (os ++ [y]) ∧ Below B wr (w2.setCell ⟨v, 1, none⟩ V') ∧ (∀ k a, wr.heap[k]? = some (.cells a 43 (0, 0)) → k ≠ v → (w2.setCell ⟨v, 1, none⟩ V').heap[k]? = wr.heap[k]?) := by
  have hbl : Below wr.heap.size wr (wr.alloc o) := (Below.refl _ _).alloc (Nat.le_refl _) o
  have hsz := hbl.size
  have s2 := hg.size
  have h1 := h.on hbl
  have b2 : w2.heap[v]? = some (.cells #[V, O] 43 (0, 0)) := (hg.block _ h1.lt (fun e => h1.neO e.symm rfl)).trans h1.blk
  refine ⟨b2, ⟨by simpa using heap_set 1 V' b2, ?_, ?_, fun g hV hg' => ?_, h.nv, fun g hg' => ?_, h.hv⟩, ?_, fun k a hk hne => ?_⟩
  · refine own_keep h1.row fun g hg' => ?_
    exact (Below.heap_setCell _ _ _ _ (h1.neV hg')).trans (hg.block _ (h1.row.lt g hg').2 (fun e => h.ap g hg' e.symm))
  · refine own_keep (by simpa using own') fun g hg' => ?_
    obtain ⟨a, ht⟩ := own_ty own' hg'
    exact Below.heap_setCell _ _ _ _ (ty_ne ht b2 (by decide))
  · rcases hnew g hg' with e | e
    · exact h.ap g hV e
    · have := (h.row.lt g hV).2; omega
  · rcases hnew g hg' with e | e
    · exact h.no g e
    · omega
  · exact (((Below.refl B wr).alloc hB o).grown hg (by omega) (fun k hk => h.no k hk)).setCell (p := ⟨v, 1, none⟩) h.hv _
  · have hk1 := hbl.block k (lt_of_heap hk)
    refine (Below.heap_setCell _ _ _ _ hne).trans ((hg.block _ (lt_of_heap (hk1.trans hk)) fun e => ?_).trans hk1)
    obtain ⟨a2, ht⟩ := own_ty h1.off e.symm
    exact ty_ne ht (hk1.trans hk) (by decide) rfl
theorem Vw.cells (h : wr.heap[v]? = some (.cells #[V, O] 43 (0, 0))) : wr.cell? ⟨v, 0, none⟩ = some V ∧ wr.cell? ⟨v, 1, none⟩ = some O ∧ wr.frozen? ⟨v, 0, none⟩ = false ∧ wr.frozen? ⟨v, 1, none⟩ = false := by
  refine ⟨by simp [World.cell?, h], by simp [World.cell?, h], by simp [World.frozen?, h], by simp [World.frozen?, h]⟩
end
theorem int_cell (w : World) (y : Int) (t : TypeId) : ∀ j u, [Value.int .i64 y][j]? = some u → (w.alloc (.cells #[.int .i64 y] t)).cell? ((⟨w.heap.size, 0, none⟩ : Addr).add j) = some u := U.one_cell _ _ _
theorem results_cell1 {fn : Func} {p : Tmp} {ty : TypeId} (h : fn.results = #[.cell p ty]) (tmps : Array Value) (P : Program) (w : World) :
    (results fn tmps).run P w = ((asAddr (tmps.getD p undef)).run P w).andThen fun a w₁ => (loadVar ty a).run P w₁ := by
  simp only [results, h]
  simp [Sem.run_bind, Result.andThen]
/-- A call hands back a view: two new rows. -/
def RetV (s : ByteArray) (w : World) (e : Ending) (w' : World) : Prop :=
  ∃ V O, e = .returned (.agg #[V, O]) ∧ w'.ownsRow 0 3 1 V (syms s).length (ints (syms s)) ∧ w'.ownsRow 0 3 1 O (bdsTo s (cnt s + 1)).length (ints (bdsTo s (cnt s + 1))) ∧ Below w.heap.size w w'
set_option maxHeartbeats 1000000 in
set_option maxRecDepth 100000 in
theorem of_any (s : ByteArray) (w : World) (hs : s.size ≤ 1000000) (hT : U.Tb w) : Calls Tryd.prog 25 #[.string s] w (RetV s w) := by
  obtain ⟨i0, hi, hz0, hz1, hz2⟩ := info_parts U.Tryd.info3
  have HT := Lib.hid hT
  clear hT
  go_enter Tryd.func25, Tryd.ntmps25
  go_wp2
  have HB0 := Lib.hid (show Below w.heap.size w ((w.alloc (Obj.cells #[Value.slice none 0 0, Value.slice none 0 0] 43)).alloc (Obj.cells #[Value.slice none 0 0, Value.slice none 0 0] 43)) from ((Below.refl _ _).alloc (Nat.le_refl _) _).alloc (by simp) _)
  have HV0 := Lib.hid (show Vw ((w.alloc (Obj.cells #[Value.slice none 0 0, Value.slice none 0 0] 43)).alloc (Obj.cells #[Value.slice none 0 0, Value.slice none 0 0] 43)) w.heap.size (w.heap.size + 1) (.slice none 0 0) (.slice none 0 0) [] [] from
    ⟨by have := heap_new (w.alloc (Obj.cells #[Value.slice none 0 0, Value.slice none 0 0] 43)) (Obj.cells #[Value.slice none 0 0, Value.slice none 0 0] 43); simpa using this, World.ownsRow_nil _ _ _ _, World.ownsRow_nil _ _ _ _, fun g hg => by simp [Value.ownBlock] at hg, fun g hg => by simp [Value.ownBlock] at hg, fun g hg => by simp [Value.ownBlock] at hg, by omega⟩)
  have HR0 := Lib.hid (show ((w.alloc (Obj.cells #[Value.slice none 0 0, Value.slice none 0 0] 43)).alloc (Obj.cells #[Value.slice none 0 0, Value.slice none 0 0] 43)).heap[w.heap.size]? = some (.cells #[Value.slice none 0 0, Value.slice none 0 0] 43 (0, 0)) by
    rw [((Below.refl _ (w.alloc (Obj.cells #[Value.slice none 0 0, Value.slice none 0 0] 43))).alloc (Nat.le_refl _) (Obj.cells #[Value.slice none 0 0, Value.slice none 0 0] 43)).block _ (by simp)]
    exact heap_new _ _)
  go_loopw [4] (fun t wr => ∃ (k : Nat) (V O : Value), t = .int .i64 (bd s k) ∧ (∀ c, c < k → bd s c < s.size) ∧ k ≤ bd s k ∧ Vw wr w.heap.size (w.heap.size + 1) V O (symsTo s k) (bdsTo s k) ∧ wr.heap[w.heap.size]? = some (.cells #[.slice none 0 0, .slice none 0 0] 43 (0, 0)) ∧ Below w.heap.size w wr) (fun t _ => s.size - (intOf t).toNat)
  case atStart => exact ⟨0, _, _, rfl, fun c h => by omega, Nat.le_refl _, HV0.out, HR0.out, HB0.out⟩
  case round =>
    obtain ⟨k, V, O, rfl, hc, hkb, hV, hr, hb⟩ := hrel
    clear HB0 HV0 HR0
    have HC := Lib.hid hc
    have HR := Lib.hid hr
    have HV := Lib.hid hV
    obtain ⟨A, ca, rfl, _⟩ := own_see hV.row
    obtain ⟨A', ca', rfl, _⟩ := own_see hV.off
    rw [symsTo_length] at HV
    rw [bdsTo_length] at HV
    have hle := bd_le s k
    have hbs := hb.size
    clear hc hr hV
    by_cases hlt : bd s k < s.size
    · have HAT := Lib.hid (U.at_any s (bd s k) wr (HT.out.below hb).1)
      have e2 : U.wdI s (bd s k : Int) = wd s (bd s k) := by unfold U.wdI; rw [if_neg (by omega)]; rfl
      have e1 : U.syI s (bd s k : Int) = sy s (bd s k) := by unfold U.syI; rw [if_neg (by omega)]; rfl
      rw [e1, e2] at HAT
      clear e1 e2
      have hp := wd_pos hlt
      have hw4 := wd_le s (bd s k)
      have hf := wd_fit hle
      have HK := Lib.hid (show ∀ c, c < k + 1 → bd s c < s.size from fun c h => by
        rcases Nat.lt_or_ge c k with h1 | h1
        · exact HC.out c h1
        · obtain rfl : c = k := by omega
          exact hlt)
      have HBD := Lib.hid (show bd s (k + 1) = bd s k + wd s (bd s k) from rfl)
      have HS := Lib.hid (symsTo_succ s k)
      have HO := Lib.hid (bdsTo_succ s k)
      have HL1 := Lib.hid (symsTo_length s k)
      have HL2 := Lib.hid (bdsTo_length s k)
      generalize hy : sy s (bd s k) = y at *
      generalize hv1 : wd s (bd s k) = v1 at *
      generalize hpp : bd s k = q at *
      clear hy hv1 hpp
      generalize symsTo s k = xs at *
      generalize bdsTo s k = os at *
      go_wp2_with fail
      refine HAT.out.mono ?_
      rintro e w1 ⟨rfl, hb1⟩
      have HV1 := Lib.hid (HV.out.on hb1)
      have hb01 := bel_trans hb hb1
      have HR1 := Lib.hid ((hb1.block _ (lt_of_heap HR.out)).trans HR.out)
      obtain ⟨p0, p1, p2, p3⟩ := Vw.cells HV1.out.blk
      have hs1 := hb01.size
      go_wp2_with (at_builtin; refine wpList_append_at rfl (.tmp 18) (.tmp 20) 22 rfl 3 i0 (.int .i64 0) 8 Tryd.underlying22 hi hz0 hz1 hz2 rfl _ xs.length (ints xs) rfl (own_below HV1.out.row ((Below.refl _ _).alloc (Nat.le_refl _) _)) ⟨w1.heap.size, 0, none⟩ 1 1 [.int .i64 y] rfl rfl (int_cell _ _ _) ?c2 ?c3 ?c4 ?_)
      case c2 => intro u hu; simp at hu; subst hu; rfl
      case c3 => have := HL1.out; unfold maxLen; omega
      case c4 => have := HL1.out; omega
      intro V' w2 hown' hgrow hnew
      obtain ⟨r1, r2, r3, r4⟩ := HV1.out.pushV (by omega) (y := y) hown' hgrow (fun g hg => (hnew g hg).imp id (fun h => by simpa using h))
      obtain ⟨A2, ca2, rfl, _⟩ := own_see hown'
      have HV2 := Lib.hid r2
      have HR2 := Lib.hid ((r4 _ _ HR1.out (by omega)).trans HR1.out)
      have hb02 := hb01.trans r3
      obtain ⟨m0, m1, m2, m3⟩ := Vw.cells r1
      obtain ⟨n0, n1, n2, n3⟩ := Vw.cells r2.blk
      have hs2 := hb02.size
      clear r1 r2 r3 r4 hown' hgrow hnew
      go_wp2_with (at_builtin; refine wpList_append_at rfl (.tmp 24) (.tmp 26) 22 rfl 3 i0 (.int .i64 0) 8 Tryd.underlying22 hi hz0 hz1 hz2 rfl _ os.length (ints os) rfl (own_below HV2.out.off ((Below.refl _ _).alloc (Nat.le_refl _) _)) ⟨w2.heap.size, 0, none⟩ 1 1 [.int .i64 (q : Int)] rfl rfl ?c1 ?c2 ?c3 ?c4 ?_)
      case c1 => have := int_cell (w2.setCell ⟨w.heap.size + 1, 0, none⟩ (.slice A2 (xs.length + 1) ca2)) (q : Int) 3; simpa [World.setCell] using this
      case c2 => intro u hu; simp at hu; subst hu; rfl
      case c3 => have := HL2.out; unfold maxLen; omega
      case c4 => have := HL2.out; omega
      intro O' w4 hown' hgrow hnew
      obtain ⟨r1, r2, r3, r4⟩ := HV2.out.pushO (by omega) (y := (q : Int)) hown' hgrow (fun g hg => (hnew g hg).imp id (fun h => by simpa [World.setCell] using h))
      obtain ⟨A4, ca4, rfl, _⟩ := own_see hown'
      have HV4 := Lib.hid r2
      have HR4 := Lib.hid ((r4 _ _ HR2.out (by omega)).trans HR2.out)
      have hb04 := hb02.trans r3
      obtain ⟨k0, k1, k2, k3⟩ := Vw.cells r1
      clear r1 r2 r3 r4 hown' hgrow hnew
      go_wp2_with fail
      go_roundw
      case rel => exact ⟨k + 1, _, _, by rw [HBD.out]; go_num, HK.out, by rw [HBD.out]; omega, by rw [HS.out, HO.out]; exact HV4.out, HR4.out, hb04⟩
      case measure => simp [intOf]; omega
    · have hpe : bd s k = s.size := by omega
      obtain rfl := cnt_uniq hpe HC.out
      have HO := Lib.hid (bdsTo_succ s (cnt s))
      rw [hpe] at HO
      have HL2 := Lib.hid (bdsTo_length s (cnt s))
      have hc1 : cnt s ≤ 1000000 := by omega
      obtain ⟨p0, p1, p2, p3⟩ := Vw.cells HV.out.blk
      have HSY := Lib.hid (show syms s = symsTo s (cnt s) from rfl)
      generalize bd s (cnt s) = q at *
      generalize hos : bdsTo s (cnt s) = os at *
      clear hos
      go_wp2_with (at_builtin; refine wpList_append_at rfl (.tmp 33) (.tmp 36) 22 rfl 3 i0 (.int .i64 0) 8 Tryd.underlying22 hi hz0 hz1 hz2 rfl _ os.length (ints os) rfl (own_below HV.out.off ((Below.refl _ _).alloc (Nat.le_refl _) _)) ⟨wr.heap.size, 0, none⟩ 1 1 [.int .i64 (s.size : Int)] rfl rfl (int_cell _ _ _) ?c2 ?c3 ?c4 ?_)
      case c2 => intro u hu; simp at hu; subst hu; rfl
      case c3 => have := HL2.out; unfold maxLen; omega
      case c4 => have := HL2.out; omega
      intro O' w4 hown' hgrow hnew
      obtain ⟨r1, r2, r3, r4⟩ := HV.out.pushO (by omega) (y := (s.size : Int)) hown' hgrow (fun g hg => (hnew g hg).imp id (fun h => by simpa using h))
      obtain ⟨A4, ca4, rfl, _⟩ := own_see hown'
      have HV4 := Lib.hid r2
      have hr4 := (r4 _ _ HR.out (by omega)).trans HR.out
      have hb04 := hb.trans r3
      obtain ⟨k0, k1, k2, k3⟩ := Vw.cells r1
      obtain ⟨n0, n1, n2, n3⟩ := Vw.cells r2.blk
      obtain ⟨t0, t1, t2, t3⟩ := Vw.cells hr4
      clear r1 r2 r3 r4 hown' hgrow hnew
      go_wp2_with fail
      have hkeep : ∀ (U : Value) (n : Nat) (xs : List Value), (w4.setCell ⟨w.heap.size + 1, 1, none⟩ (.slice A4 (os.length + 1) ca4)).ownsRow 0 3 1 U n xs → (((w4.setCell ⟨w.heap.size + 1, 1, none⟩ (.slice A4 (os.length + 1) ca4)).setCell ⟨w.heap.size, 0, none⟩ (.slice A (cnt s) ca)).setCell ⟨w.heap.size, 1, none⟩ (.slice A4 (os.length + 1) ca4)).ownsRow 0 3 1 U n xs := fun U n xs hU => by
        refine own_keep hU fun g hg => ?_
        obtain ⟨a, ht⟩ := own_ty hU hg
        have hne := ty_ne ht hr4 (by decide)
        exact (Below.heap_setCell _ _ _ _ hne).trans (Below.heap_setCell _ _ _ _ hne)
      refine bodyPost_ret (v := .agg #[.slice A (cnt s) ca, .slice A4 (os.length + 1) ca4]) ?_ rfl ⟨_, _, rfl, ?_, ?_, ?_⟩
      · rw [results_cell1 rfl]; go_simp
      · have := hkeep _ _ _ HV4.out.row
        rw [HSY.out]
        exact this
      · have := hkeep _ _ _ HV4.out.off
        rw [HO.out]
        exact this
      · exact (hb04.setCell (p := ⟨w.heap.size, 0, none⟩) (Nat.le_refl _) _).setCell (p := ⟨w.heap.size, 1, none⟩) (Nat.le_refl _) _
set_option maxHeartbeats 400000 in
set_option maxRecDepth 100000 in
theorem view_bu {w : World} {F : Nat → Prop} {b mx : Nat} {s : Bs} {p : Nat} (h : Bu w F b mx s p) (hT : U.Tb w) (hs : s.length ≤ 1000000) : Calls Tryd.prog 23 #[ptr b] w (RetV (ba s) w) := by
  have hb := (Below.refl w.heap.size w).alloc (Nat.le_refl _) (.cells #[.slice none 0 0, .slice none 0 0] 43)
  have HT := Lib.hid (btext_bu (h.on hb))
  have HO := Lib.hid (fun W (hb : Below w.heap.size w W) => of_any (ba s) W hs (hT.below hb))
  have HB := Lib.hid hb
  have hr := heap_new w (.cells #[.slice none 0 0, .slice none 0 0] 43)
  have HR := Lib.hid hr
  clear hb h hT hr
  go_enter Tryd.func23, Tryd.ntmps23
  go_wp2_with fail
  refine HT.out.mono ?_
  rintro e w1 ⟨rfl, hb1⟩
  have hb01 := bel_trans HB.out hb1
  go_wp2_with fail
  refine (HO.out _ hb01).mono ?_
  rintro e w2 ⟨V, O, rfl, h1, h2, hb2⟩
  have hb02 := bel_trans hb01 hb2
  have hr2 := (hb2.block _ (by have := hb1.size; simp at this; omega)).trans ((hb1.block _ (by simp)).trans HR.out)
  obtain ⟨t0, t1, t2, t3⟩ := Vw.cells hr2
  obtain ⟨A, ca, rfl, _⟩ := own_see h1
  obtain ⟨A', ca', rfl, _⟩ := own_see h2
  have hkeep : ∀ (U : Value) (n : Nat) (xs : List Value), w2.ownsRow 0 3 1 U n xs → ((w2.setCell ⟨w.heap.size, 0, none⟩ (.slice A (syms (ba s)).length ca)).setCell ⟨w.heap.size, 1, none⟩ (.slice A' (bdsTo (ba s) (cnt (ba s) + 1)).length ca')).ownsRow 0 3 1 U n xs := fun U n xs hU => by
    refine own_keep hU fun g hg => ?_
    obtain ⟨a, ht⟩ := own_ty hU hg
    have hne := ty_ne ht hr2 (by decide)
    exact (Below.heap_setCell _ _ _ _ hne).trans (Below.heap_setCell _ _ _ _ hne)
  have K1 := Lib.hid (hkeep _ _ _ h1)
  have K2 := Lib.hid (hkeep _ _ _ h2)
  clear hkeep h1 h2
  go_wp2_with fail
  refine bodyPost_ret (v := .agg #[.slice A (syms (ba s)).length ca, .slice A' (bdsTo (ba s) (cnt (ba s) + 1)).length ca']) ?_ rfl ⟨_, _, rfl, K1.out, K2.out, ?_⟩
  · rw [results_cell1 rfl]; go_simp
  · exact (hb02.setCell (p := ⟨w.heap.size, 0, none⟩) (Nat.le_refl _) _).setCell (p := ⟨w.heap.size, 1, none⟩) (Nat.le_refl _) _
set_option maxHeartbeats 400000 in
set_option maxRecDepth 100000 in
theorem view_nil (w : World) : Calls Tryd.prog 23 #[.pointer none] w fun e w' => e = .returned (.agg #[.slice none 0 0, .slice none 0 0]) ∧ Below w.heap.size w w' := by
  go_enter Tryd.func23, Tryd.ntmps23
  go_wp2_with fail
  refine bodyPost_ret (v := .agg #[.slice none 0 0, .slice none 0 0]) ?_ rfl ⟨rfl, ?_⟩
  · rw [results_cell1 rfl]; go_simp
  · (repeat' (first | exact Below.refl _ _ | refine Below.drew ?_ | refine Below.alloc ?_ (by simp <;> omega) _ | refine Below.setCell ?_ (by simp) _))
end Go.Proofs.YtdpjcbljeklhmaaDoor
