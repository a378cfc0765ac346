/-
  What scant and mend answer and leave: of some chunks the empty ones go, and scant neighbours become one.
-/
import Derived.Test.YtdpjcbljeklhmaaDoorB10
namespace Go.Proofs.YtdpjcbljeklhmaaDoor
open Go.RowKit ObGap

/-- The whole buffer, wherever it stands. -/
def Bu0 (w : World) (F : Nat → Prop) (b mx : Nat) (s : Bs) (p : Nat) : Prop :=
  ∃ V qs U, Bx w F b mx V (qs.map Q.c) U (ends (txs qs)) p ∧ Chs w F mx qs ∧ (∀ k, F k → k < w.heap.size) ∧ (txs qs).flatten = s ∧ Snd mx (txs qs) ∧ s.length ≤ 1048576
theorem Bu.any {w : World} {F : Nat → Prop} {b mx : Nat} {s : Bs} {p : Nat} (h : Bu w F b mx s p) : Bu0 w F b mx s p := by
  obtain ⟨V, qs, U, h1, h2, h3, h4, h5, h6, _⟩ := h
  exact ⟨V, qs, U, h1, h2, h3, h4, h5, h6⟩
/-- The place stored. -/
theorem Bu0.place {w : World} {F : Nat → Prop} {b mx : Nat} {s : Bs} {p q : Nat} (h : Bu0 w F b mx s p) (hq : q ≤ s.length) : Bu (w.setCell ⟨b, 3, none⟩ (.int .i64 (q : Int))) F b mx s q := by
  obtain ⟨V, qs, U, h1, h2, h3, h4, h5, h6⟩ := h
  exact ⟨V, qs, U, h1.put3 q, h2.setb h1.blk 3 _, fun k hk => by have := h3 k hk; simpa [World.setCell] using this, h4, h5, h6, hq⟩
/-- What an edit leaves, wherever it stands. -/
def Edt0 (F : Nat → Prop) (b mx : Nat) (s : Bs) (p : Nat) (w : World) (v : Value) (e : Ending) (w' : World) : Prop :=
  e = .returned v ∧ Bu0 w' (Fn F w w') b mx s p ∧ Gs F (Fn F w w') w w'
theorem Cnt.edt0 {F : Nat → Prop} {b mx : Nat} {V : Value} {qs : List Q} {p : Nat} {w a : World} {e : Ending} {w' : World} {s : Bs} (h : Cnt (Fn F w a) b mx V qs p a e w') (hg : Gs F (Fn F w a) w a) (hF : ∀ k, F k → k < w.heap.size) (hs : (txs qs).flatten = s) (hsnd : Snd mx (txs qs)) (hl : s.length ≤ 1048576) : Edt0 F b mx s p w (.tuple #[]) e w' := by
  obtain ⟨U', rfl, hX, hC, hG⟩ := h
  have hm : ∀ k, Fn (Fn F w a) a w' k → Fn F w w' k := fun k hk => hk.trans hg.size hG.size
  refine ⟨rfl, ⟨V, qs, U', hX.mono hm, hC.mono hm, fun k hk => hk.lt hF (Nat.le_trans hg.size hG.size), hs, hsnd, hl⟩, (hg.trans hG).to fun k hk => ?_⟩
  rcases hk with h | h
  · exact .inl (.inl (.inl h))
  · exact .inr h.1
theorem scS_below {w W : World} {b : Nat} {v : Value} (h : W.cell? ⟨b, 0, none⟩ = some v ∧ Below w.heap.size w W) : Below w.heap.size w W := h.2
theorem ScS.mk {w W : World} {b : Nat} {v : Value} (h : ∀ W, Below w.heap.size w W → W.cell? ⟨b, 0, none⟩ = some v) (hb : Below w.heap.size w W) : W.cell? ⟨b, 0, none⟩ = some v ∧ Below w.heap.size w W := ⟨h W hb, hb⟩
set_option maxHeartbeats 1000000 in
theorem scant_any {w : World} {F : Nat → Prop} {b mx : Nat} {V U : Value} {cs E : List Nat} {p : Nat} (h : Bx w F b mx V cs U E p) {c g c2 g2 : Nat} {s s2 : Bs} {q q2 : Nat} (hk : Chk w c g mx s q) (hk2 : Chk w c2 g2 mx s2 q2) :
    Calls Tryd.prog 76 #[ptr b, ptr c, ptr c2] w fun e w' => e = .returned (.bool (decide (2 * (s.length + s2.length) ≤ mx))) ∧ Below w.heap.size w w' := by
  have HX := Lib.hid h
  have HK := Lib.hid hk
  have HK2 := Lib.hid hk2
  have l1 := hk.len
  have l2 := hk2.len
  obtain ⟨c0, _, _, _, _⟩ := h.cells
  have HC0 := Lib.hid (fun W (hb : Below w.heap.size w W) => (h.on hb).cells.1)
  have w1 : IntKind.i64.wrap ((s.length : Int) + (s2.length : Int)) = (s.length : Int) + (s2.length : Int) := IntWalk.i64_in _ (by omega)
  have w2 : IntKind.i64.wrap (2 * ((s.length : Int) + (s2.length : Int))) = 2 * ((s.length : Int) + (s2.length : Int)) := IntWalk.i64_in _ (by omega)
  obtain ⟨v, hv⟩ : ∃ v, v = decide (2 * (s.length + s2.length) ≤ mx) := ⟨_, rfl⟩
  rw [← hv]
  have HV := Lib.hid (show decide (2 * ((s.length : Int) + (s2.length : Int)) ≤ (mx : Int)) = v by rw [hv]; apply decide_eq_decide.2; omega)
  have HL1 := Lib.hid (fun W (hb : Below w.heap.size w W) => len_chk (hk.on hb))
  have HL2 := Lib.hid (fun W (hb : Below w.heap.size w W) => len_chk (hk2.on hb))
  clear h hk hk2 hv
  go_enter Tryd.func76, Tryd.ntmps76
  go_wp2_with fail
  go_region_held3 (fun W => W.cell? ⟨b, 0, none⟩ = some (.int .i64 (mx : Int)) ∧ Below w.heap.size w W) (first | exact ⟨c0, (Below.refl _ _).drew⟩ | exact ScS.mk HC0.out (bel_trans (scS_below (by assumption)) (by assumption))) (first
    | (go_at_call 66; with_reducible refine (HL1.out _ (scS_below (by assumption))).mono ?_; rintro e w3 ⟨rfl, hb3⟩)
    | (go_at_call 66; with_reducible refine (HL2.out _ (scS_below (by assumption))).mono ?_; rintro e w3 ⟨rfl, hb3⟩))
  all_goals (
    go_wp2_with fail
    go_ret
    exact ⟨ret_bool HV.out, scS_below (by assumption)⟩)
theorem ins_end {mx : Nat} {k t : Bs} (h : 2 * (k.length + t.length) ≤ mx) : insE mx k (k.length : Int) t = 0 ∧ insS mx k (k.length : Int) t = k ++ t := by
  have ho : out k (k.length : Int) = false := out_not (by omega) (by omega)
  refine ⟨insE_in ho (by omega), ?_⟩
  rw [insS_in ho (by omega), Int.toNat_natCast, List.take_of_length_le (Nat.le_refl _), List.drop_of_length_le (Nat.le_refl _), List.append_nil]
/-- What a round of mend keeps: K of the chunks ahead, R of those to come. -/
structure Mnd (w : World) (F : Nat → Prop) (b mx : Nat) (V : Value) (cs : List Nat) (U : Value) (E : List Nat) (p : Nat) (A K R B : List Q) (v : Value) (wr : World) : Prop where
  hX : Bx wr F b mx V cs U E p
  hC : Chs wr F mx (A ++ (K ++ (R ++ B)))
  hG : Gs F F w wr
  hO : wr.ownsRow w.heap.size 81 1 v K.length (ptrs (K.map Q.c))
  hn : K = [] → v = .slice none 0 0
  hF : ∀ k, F k → k < w.heap.size
section
variable {w wr w1 w2 w3 : World} {F : Nat → Prop} {b mx : Nat} {V U : Value} {cs E : List Nat} {p : Nat} {A K R B : List Q} {v : Value} {c g kc kg : Nat} {t kt : Bs}
theorem Mnd.on (h : Mnd w F b mx V cs U E p A K R B v wr) (hb : Below wr.heap.size wr w1) : Mnd w F b mx V cs U E p A K R B v w1 :=
  ⟨h.hX.on hb, h.hC.on hb, h.hG.below_right hb, own_keep h.hO fun k hk => hb.block _ (h.hO.lt k hk).2, h.hn, h.hF⟩
theorem Mnd.at_ (h : Mnd w F b mx V cs U E p A K (⟨c, g, t⟩ :: R) B v wr) : F c ∧ F g ∧ ∃ q, Chk wr c g mx t q := h.hC.1 ⟨c, g, t⟩ (by simp)
theorem Mnd.last (h : Mnd w F b mx V cs U E p A (K ++ [⟨kc, kg, kt⟩]) R B v wr) : F kc ∧ F kg ∧ ∃ q, Chk wr kc kg mx kt q := h.hC.1 ⟨kc, kg, kt⟩ (by simp)
/-- An empty one goes. -/
theorem Mnd.skip (h : Mnd w F b mx V cs U E p A K (⟨c, g, t⟩ :: R) B v wr) : Mnd w F b mx V cs U E p A K R B v wr :=
  ⟨h.hX, h.hC.sub (by simp), h.hG, h.hO, h.hn, h.hF⟩
/-- One more is kept. -/
theorem Mnd.keep {v' : Value} {o : Obj} (h : Mnd w F b mx V cs U E p A K (⟨c, g, t⟩ :: R) B v wr) (hb : Below wr.heap.size wr w1)
    (own' : w2.ownsRow w.heap.size 81 1 v' (K.length + 1) (ptrs (K.map Q.c) ++ [ptr c])) (hg : (w1.alloc o).grownBy w2 v.ownBlock) : Mnd w F b mx V cs U E p A (K ++ [⟨c, g, t⟩]) R B v' w2 := by
  have h1 := h.on (hb.alloc (by exact hb.size) o)
  have hne : ∀ k, v.ownBlock = some k → ∃ a, (w1.alloc o).heap[k]? = some (.cells a 81 (0, 0)) := fun k hk => own_ty h1.hO hk
  refine ⟨h1.hX.keep (hg.block _ h1.hX.lt fun e => ?_) (fun k hk => hg.block _ (h1.hX.row.lt k hk).2 fun e => ?_) (fun k hk => hg.block _ (h1.hX.en.lt k hk).2 fun e => ?_), ?_, ?_, by simpa using own', by simp, h.hF⟩
  · obtain ⟨a, ha⟩ := hne _ e.symm
    exact ty_ne h1.hX.blk ha (by decide) rfl
  · have := (h1.hO.lt k e.symm).1
    have := h.hF k (h.hX.fv k hk)
    omega
  · obtain ⟨a, ha⟩ := hne _ e.symm
    obtain ⟨a2, ha2⟩ := own_ty h1.hX.en hk
    exact ty_ne ha2 ha (by decide) rfl
  · have := h1.hC.grown hg (t := 81) hne (by decide) (by decide)
    simpa using this
  · have h2 := h1.hG
    exact ⟨hg.os.trans h2.os, hg.tape.trans h2.tape, hg.output.trans h2.output, Nat.le_trans h2.size hg.size, fun k hk hn => (hg.block k (by have := h2.size; omega) (fun e => by have := (h1.hO.lt k e.symm).1; omega)).trans (h2.block k hk hn), h2.more⟩
/-- Two scant ones become one. -/
theorem Mnd.merge (h : Mnd w F b mx V cs U E p A (K ++ [⟨kc, kg, kt⟩]) (⟨c, g, t⟩ :: R) B v wr) (hx : Ex kc kg wr w1) {q : Nat} (hk : Chk w1 kc kg mx (kt ++ t) q) : Mnd w F b mx V cs U E p A (K ++ [⟨kc, kg, kt ++ t⟩]) R B v w1 := by
  obtain ⟨f1, f2, q0, hk0⟩ := h.last
  obtain ⟨a1, t1⟩ := hk0.tc
  obtain ⟨a2, t2⟩ := hk0.tg
  have hC : Chs wr F mx ((A ++ K) ++ ⟨kc, kg, kt⟩ :: (⟨c, g, t⟩ :: R ++ B)) := by have := h.hC; simpa using this
  have hC1 := hC.set hx hk
  refine ⟨h.hX.past hk0 hx, ?_, h.hG.trans (Gs.ex hx f1 f2), ?_, by simp, h.hF⟩
  · refine hC1.sub ?_
    simp
  · have ho := h.hO
    have e1 : (K ++ [Q.mk kc kg kt]).length = (K ++ [Q.mk kc kg (kt ++ t)]).length := by simp
    have e2 : (K ++ [Q.mk kc kg kt]).map Q.c = (K ++ [Q.mk kc kg (kt ++ t)]).map Q.c := by simp
    rw [e1, e2] at ho
    refine own_keep ho fun k hk' => ?_
    obtain ⟨a, ha⟩ := own_ty ho hk'
    exact hx.block _ (ho.lt k hk').2 (ty_ne ha t1 (by decide)) (ty_ne ha t2 (by decide))
end
theorem snoc_q (K : List Q) : K = [] ∨ ∃ K0 c g t, K = K0 ++ [⟨c, g, t⟩] := by
  rcases List.eq_nil_or_concat K with h | ⟨A, ⟨c, g, t⟩, h⟩
  · exact .inl h
  · exact .inr ⟨A, c, g, t, by simpa using h⟩
theorem merge_all {w w2 W w5 : World} {F : Nat → Prop} {b mx : Nat} {V U : Value} {cs E : List Nat} {p : Nat} {A K R B : List Q} {v : Value} {c g kc kg q : Nat} {t kt : Bs} (h : Mnd w F b mx V cs U E p A (K ++ [⟨kc, kg, kt⟩]) (⟨c, g, t⟩ :: R) B v w2) (hb : Below w2.heap.size w2 W) (hx : Ex kc kg W w5) (hk : Chk w5 kc kg mx (kt ++ t) q) : Mnd w F b mx V cs U E p A (K ++ [⟨kc, kg, kt ++ t⟩]) R B v w5 := (h.on hb).merge hx hk
theorem last_cell {w2 W w5 : World} {kc kg mx q rk n1 : Nat} {kt : Bs} {x : Value} (hk : Chk w2 kc kg mx kt q) (hb : Below w2.heap.size w2 W) (hx : Ex kc kg W w5) (hr : rk < w2.heap.size) (ht : ∃ a, w2.heap[rk]? = some (.cells a 81 (0, 0))) (hm : w2.cell? ⟨rk, n1, none⟩ = some x) : w5.cell? ⟨rk, n1, none⟩ = some x := by
  obtain ⟨a1, t1⟩ := hk.tc
  obtain ⟨a2, t2⟩ := hk.tg
  obtain ⟨a, ha⟩ := ht
  rw [World.cell?_of_block (w := W) (hx.block _ (Nat.lt_of_lt_of_le hr hb.size) (ty_ne ha t1 (by decide)) (ty_ne ha t2 (by decide)))]
  exact (hb.cell hr).trans hm
theorem mnd_take {m : Nat} {R : List Bs} {j : Nat} (h : j < R.length) : mnd m (R.take (j + 1)) = keep1 m (mnd m (R.take j)) R[j] := by
  rw [List.take_succ_eq_append_getElem h, mnd_snoc]
/-- The chunks between two places of an own row. -/
theorem own_mid {w : World} {t e : TypeId} {V : Value} {xs : List Value} {i j : Nat} (ht : Tryd.prog.underlying t = some (.slice e)) (he : Tryd.prog.elem t = e) (hs : (Tryd.prog.info? e).map (·.size) = some 1) (h : w.ownsRow 0 e 1 V xs.length xs) (hi : i < j) (hj : j ≤ xs.length) :
    ∃ r c, (∀ w, (Instr.sliceAt t V (some (.int .i64 (i : Int))) (some (.int .i64 (j : Int))) none).run Tryd.prog w = .ok (.slice (some ⟨r, i, none⟩) (j - i) c) w) ∧ V.ownBlock = some r := by
  have ht2 : Tryd.prog.underlying t = some (.slice (Tryd.prog.elem t)) := by rw [he]; exact ht
  rcases h.2 with ⟨rfl, h0⟩ | ⟨g, cap, cur, rfl, hb, hgg, h1, h2, h3, h4⟩
  · omega
  · refine ⟨g, cap - i, fun w => ?_, rfl⟩
    rw [run_sliceAt_slice w t _ _ _ _ ht2, run_slice_lh w t _ _ _ ht2 .i64 .i64 (i : Int) (j : Int) (by omega) (by omega) (by omega), he, run_size hs]
    simp only [Result.andThen, sliced, Int.toNat_natCast, Option.map_some, add_at, Nat.mul_one, Nat.zero_add]
    rw [if_neg (by omega)]
set_option maxHeartbeats 4000000 in
set_option maxRecDepth 100000 in
theorem mend_bx {w : World} {F : Nat → Prop} {b mx : Nat} {V U : Value} {A R B : List Q} {E : List Nat} {p lo hi : Nat} (h : Bx w F b mx V ((A ++ (R ++ B)).map Q.c) U E p) (hC : Chs w F mx (A ++ (R ++ B))) (hlo : A.length = lo) (hhi : lo + R.length = hi) (hR : R ≠ []) (hiE : lo ≤ E.length) (hE : E.take lo = (ends (txs A)).take lo) (hF : ∀ k, F k → k < w.heap.size) (htx : (txs A ++ (txs R ++ txs B)).flatten.length ≤ 1048576) (hsnd : Snd mx (txs A ++ (mnd mx (txs R) ++ txs B))) :
    Calls Tryd.prog 62 #[ptr b, .int .i64 (lo : Int), .int .i64 (hi : Int)] w (Edt0 F b mx (txs A ++ (txs R ++ txs B)).flatten p w (.tuple #[])) := by
  obtain ⟨y, hy, y1, y2, y3⟩ := info63x
  have hRl : 0 < R.length := by cases R with | nil => exact absurd rfl hR | cons _ _ => simp
  have hcl : (A ++ (R ++ B)).length ≤ 2097152 := by simpa using h.cl
  have hcl2 : A.length + R.length ≤ 2097152 := by simp at hcl; omega
  obtain ⟨r, ca, hs1, hr⟩ := own_mid Tryd.underlying67 (by kernel_rfl) info63s (show w.ownsRow 0 81 1 V (ptrs ((A ++ (R ++ B)).map Q.c)).length (ptrs ((A ++ (R ++ B)).map Q.c)) by simpa using h.row) (i := lo) (j := hi) (by omega) (by simp; omega)
  have hd : hi - lo = R.length := by omega
  rw [hd] at hs1
  have HM0 := Lib.hid (show Mnd w F b mx V ((A ++ (R ++ B)).map Q.c) U E p A [] R B (.slice none 0 0) w from ⟨h, by simpa using hC, Gs.refl _ _, World.ownsRow_nil _ _ _ _, fun _ => rfl, hF⟩)
  obtain ⟨c0, c1, c2, c3, cf⟩ := h.cells
  have HCS := Lib.hid (show ∀ j (hj : j < R.length), ((A ++ (R ++ B)).map Q.c)[lo + j]? = some R[j].c from fun j hj => by
    rw [List.map_append, List.getElem?_append_right (by simp; omega)]
    simp only [List.length_map, hlo, Nat.add_sub_cancel_left]
    rw [List.map_append, List.getElem?_append_left (by simpa using hj)]
    simp [hj])
  have HSN := Lib.hid hsnd
  have HE := Lib.hid hE
  generalize hcs : (A ++ (R ++ B)).map Q.c = cs at *
  have HCQ := Lib.hid hcs
  clear h hC hE hsnd cf hcs hd
  go_enter Tryd.func62, Tryd.ntmps62
  go_wp2_with (with_reducible refine wpList_slice_run rfl 67 (.tmp 13) (some (.tmp 14)) (some (.tmp 15)) none rfl _ (hs1 _) ?_)
  go_loopw [6, 18] (fun v s18 wr => ∃ (j : Nat) (K : List Q), s18 = .int .i64 (j : Int) ∧ j ≤ R.length ∧ txs K = mnd mx ((txs R).take j) ∧ K.length ≤ j ∧ Mnd w F b mx V cs U E p A K (R.drop j) B v wr) (fun _ s18 _ => R.length - (intOf s18).toNat)
  case atStart => exact ⟨0, [], rfl, by omega, by simp [mnd], by simp, by simpa using HM0.out⟩
  case round =>
    obtain ⟨j, K, rfl, hj, hK, hKl, hM⟩ := hrel
    have HM := Lib.hid hM
    have HK := Lib.hid hK
    clear hM hK
    by_cases hjn : j < R.length
    · have d1 : decide (j < R.length) = true := by simp [hjn]
      have i1 : (j : Int) < (R.length : Int) := by omega
      have hdr : R.drop j = R[j] :: R.drop (j + 1) := List.drop_eq_getElem_cons hjn
      have HM1 := HM.out
      rw [hdr] at HM1
      have m3 : wr.cell? ⟨r, lo + j, none⟩ = some (ptr R[j].c) := by
        have := HM.out.hX.row.cells hr (lo + j) (ptr R[j].c) (by rw [List.getElem?_map, HCS.out j hjn]; rfl)
        rwa [add_at, Nat.zero_add] at this
      have HT := Lib.hid (mnd_take (m := mx) (R := txs R) (j := j) (by simpa using hjn))
      have hRj : (txs R)[j]'(by simpa using hjn) = R[j].s := by simp
      rw [hRj] at HT
      generalize R[j] = x at *
      obtain ⟨xc, xg, xs⟩ := x
      simp only at *
      have HM2 := Lib.hid HM1
      obtain ⟨fx1, fx2, qx, hkx⟩ := HM1.at_
      have HKX := Lib.hid hkx
      have hxl := hkx.len
      clear HM1 hdr hkx hRj
      rcases snoc_q K with hKn | ⟨K0, kc, kg, kt, hKn⟩
      · subst hKn
        have hv := HM2.out.hn rfl
        subst hv
        have HL := Lib.hid (len_chk HKX.out)
        by_cases hx0 : xs.length = 0
        · have d2 : decide (0 < xs.length) = false := decide_eq_false (by omega)
          have d3 : ¬ 0 < xs.length := by omega
          clear hj
          go_wp2_with fail
          refine HL.out.mono ?_
          rintro e w2 ⟨rfl, hb2⟩
          go_wp2_with fail
          go_roundw
          case rel =>
            refine ⟨j + 1, [], by go_num, by omega, ?_, by simp, HM2.out.skip.on hb2⟩
            rw [HT.out, ← HK.out]
            simp [keep1_nil, hx0]
          case measure => simp [intOf]; omega
        · have d2 : decide (0 < xs.length) = true := decide_eq_true (by omega)
          go_wp2_with fail
          refine HL.out.mono ?_
          rintro e w2 ⟨rfl, hb2⟩
          have HOW := Lib.hid (fun o => (HM2.out.on (hb2.alloc (by exact hb2.size) o)).hO)
          have HB2 := Lib.hid hb2
          clear hb2
          go_wp2_with (at_builtin; refine wpList_append_own _ rfl _ _ 67 rfl w.heap.size 81 y (.pointer none) 1 8 Tryd.underlying67 hy y1 y2 y3 rfl (by omega) _ 0 [] rfl (HOW.out _) ⟨w2.heap.size, 0, none⟩ 1 1 [ptr xc] rfl rfl (one_cell63 _ _ _) (ones63 _) ?c3 ?c4 ?c5 ?_)
          case c3 => unfold maxLen; omega
          case c4 => omega
          case c5 => have := HM2.out.hG.size; have := HB2.out.size; simp; omega
          intro v' w3 hown' hgrow _
          have R1 := Lib.hid (HM2.out.keep HB2.out (by simpa using hown') hgrow)
          clear hown' hgrow
          go_wp2_with fail
          go_roundw
          case rel =>
            refine ⟨j + 1, [] ++ [⟨xc, xg, xs⟩], by go_num, by omega, ?_, by simp, R1.out⟩
            rw [HT.out, ← HK.out]
            simp [keep1_nil, hx0]
          case measure => simp [intOf]; omega
      · have HKN := Lib.hid hKn
        have hKp : 0 < K.length := by rw [hKn]; simp
        have hM3 := HM2.out
        rw [hKn] at hM3
        obtain ⟨fk1, fk2, qk, hkk⟩ := hM3.last
        have HKK := Lib.hid hkk
        have hkl := hkk.len
        have HM3 := Lib.hid hM3
        obtain ⟨Ak, capk, rfl, o1, o2, o3, o4⟩ := own_see HM2.out.hO
        rcases o4 with ⟨_, _, o5⟩ | ⟨rk, rfl, o5, o6, _, o7⟩
        · omega
        obtain ⟨n1, hn1⟩ : ∃ n1, K.length = n1 + 1 := ⟨K.length - 1, by omega⟩
        have m4 : wr.cell? ⟨rk, n1, none⟩ = some (ptr kc) := o7 n1 (ptr kc) (by
          have h0 : K0.length = n1 := by rw [hKn] at hn1; simpa using hn1
          rw [hKn]; simp [← h0])
        have wn : IntKind.i64.wrap ((K.length : Int) - 1) = (n1 : Int) := (IntWalk.i64_in _ (by omega)).trans (by omega)
        have en : (K.length : Int) - 1 = (n1 : Int) := by omega
        have wn2 : IntKind.i64.wrap (n1 : Int) = (n1 : Int) := IntWalk.i64_in _ (by omega)
        have i2 : (n1 : Int) < (K.length : Int) := by omega
        have i3 : (0 : Int) ≤ (n1 : Int) := by omega
        have HN1 := Lib.hid hn1
        clear hn1
        have d4 : decide (0 < K.length) = true := decide_eq_true hKp
        have HSC := Lib.hid (scant_any HM2.out.hX HKK.out HKX.out)
        clear hM3 hkk o7 o3 hKn
        by_cases hsc : 2 * (kt.length + xs.length) ≤ mx
        · have hdc : decide (2 * (kt.length + xs.length) ≤ mx) = true := decide_eq_true hsc
          rw [hdc] at HSC
          clear hdc
          go_wp2_with fail
          refine HSC.out.mono ?_
          rintro e w2 ⟨rfl, hb2⟩
          have HM4 := Lib.hid (HM3.out.on hb2)
          have HB2 := Lib.hid hb2
          have m5 : w2.cell? ⟨rk, n1, none⟩ = some (ptr kc) := (hb2.cell o6).trans m4
          have o62 : rk < w2.heap.size := Nat.lt_of_lt_of_le o6 hb2.size
          have HC4 := Lib.hid (fun W (hb : Below w2.heap.size w2 W) => (hb.cell o62).trans m5)
          have HL1 := Lib.hid (fun W (hb : Below w2.heap.size w2 W) => len_chk ((HKK.out.on HB2.out).on hb))
          have HL2 := Lib.hid (fun W (hb : Below w2.heap.size w2 W) => text_chk ((HKX.out.on HB2.out).on hb))
          have HL3 := Lib.hid (fun W (hb : Below w2.heap.size w2 W) => insert_chk ((HKK.out.on HB2.out).on hb) (kt.length : Int) xs)
          rw [(ins_end hsc).1, (ins_end hsc).2] at HL3
          have HTK := Lib.hid (HKK.out.on HB2.out)
          have HRK := Lib.hid (own_ty HM4.out.hO (g := rk) rfl)
          clear hb2
          go_wp2_with fail
          go_region_held3 (fun W => W.cell? ⟨rk, n1, none⟩ = some (ptr kc)) (first | exact m5 | exact HC4.out _ (by assumption) | exact hlast) (first
            | (go_at_call 66; first
                | (with_reducible refine (HL1.out _ (Below.refl _ _).drew).mono ?_; rintro e w3 ⟨rfl, hb3⟩; have hB3 := undrew hb3; clear hb3)
                | (with_reducible refine (HL1.out _ (by assumption)).mono ?_; rintro e w3 ⟨rfl, hb3⟩; have hB3 := bel_trans (by assumption) hb3; clear hb3))
            | (go_at_call 52; first
                | (with_reducible refine (HL2.out _ (Below.refl _ _).drew).mono ?_; rintro e w4 ⟨rfl, hb4⟩; have hB4 := undrew hb4; clear hb4)
                | (with_reducible refine (HL2.out _ (by assumption)).mono ?_; rintro e w4 ⟨rfl, hb4⟩; have hB4 := bel_trans (by assumption) hb4; clear hb4))
            | (go_at_call 59; with_reducible refine (HL3.out _ (by assumption)).mono ?_; rintro e w5 ⟨rfl, hk5, hx5⟩
               have hME := merge_all HM4.out (by assumption) hx5 hk5
               have hlast := last_cell HTK.out (by assumption) hx5 o62 HRK.out m5
               have HME := Lib.hid hME
               clear hME hk5 hx5))
          all_goals (
            clear hj
            go_wp2_with fail
            go_roundw
            case rel =>
              refine ⟨j + 1, K0 ++ [⟨kc, kg, kt ++ xs⟩], by go_num, by omega, ?_, ?_, HME.out⟩
              · rw [HT.out, ← HK.out, HKN.out]
                simp only [txs, List.map_append, List.map_cons, List.map_nil]
                rw [keep1_last, if_pos hsc]
              · have := HKN.out; rw [this] at hKl; simp at hKl ⊢; omega
            case measure => simp [intOf]; omega)
        · have hdc : decide (2 * (kt.length + xs.length) ≤ mx) = false := decide_eq_false hsc
          rw [hdc] at HSC
          clear hdc
          by_cases hx0 : xs.length = 0
          · have d2 : decide (0 < xs.length) = false := decide_eq_false (by omega)
            have d3 : ¬ 0 < xs.length := by omega
            go_wp2_with fail
            refine HSC.out.mono ?_
            rintro e w1 ⟨rfl, hb1⟩
            have HB1 := Lib.hid hb1
            clear hb1
            go_wp2_with fail
            refine (len_chk (HKX.out.on HB1.out)).mono ?_
            rintro e w2 ⟨rfl, hb2⟩
            have HB2 := Lib.hid (bel_trans HB1.out hb2)
            clear hb2
            go_wp2_with fail
            go_roundw
            case rel =>
              refine ⟨j + 1, K, by go_num, by omega, ?_, by omega, HM2.out.skip.on HB2.out⟩
              rw [HT.out, ← HK.out, HKN.out]
              simp only [txs, List.map_append, List.map_cons, List.map_nil]
              rw [keep1_last, if_neg hsc, if_pos hx0]
            case measure => simp [intOf]; omega
          · have d2 : decide (0 < xs.length) = true := decide_eq_true (by omega)
            go_wp2_with fail
            refine HSC.out.mono ?_
            rintro e w1 ⟨rfl, hb1⟩
            have HB1 := Lib.hid hb1
            clear hb1
            go_wp2_with fail
            refine (len_chk (HKX.out.on HB1.out)).mono ?_
            rintro e w2 ⟨rfl, hb2'⟩
            have hb2 := bel_trans HB1.out hb2'
            clear hb2'
            have HOW := Lib.hid (fun o => (HM2.out.on (hb2.alloc (by exact hb2.size) o)).hO)
            have HB2 := Lib.hid hb2
            clear hb2
            go_wp2_with (at_builtin; refine wpList_append_own _ rfl _ _ 67 rfl w.heap.size 81 y (.pointer none) 1 8 Tryd.underlying67 hy y1 y2 y3 rfl (by omega) _ K.length (ptrs (K.map Q.c)) rfl (HOW.out _) ⟨w2.heap.size, 0, none⟩ 1 1 [ptr xc] rfl rfl (one_cell63 _ _ _) (ones63 _) ?c3 ?c4 ?c5 ?_)
            case c3 => unfold maxLen; omega
            case c4 => omega
            case c5 => have := HM2.out.hG.size; have := HB2.out.size; simp; omega
            intro v' w3 hown' hgrow _
            have R1 := Lib.hid (HM2.out.keep HB2.out (by rw [ptrs, List.map_map]; exact hown') hgrow)
            clear hown' hgrow
            go_wp2_with fail
            go_roundw
            case rel =>
              refine ⟨j + 1, K ++ [⟨xc, xg, xs⟩], by go_num, by omega, ?_, by simp; omega, R1.out⟩
              rw [HT.out, ← HK.out, HKN.out]
              simp only [txs, List.map_append, List.map_cons, List.map_nil]
              rw [keep1_last, if_neg hsc, if_neg hx0]
            case measure => simp [intOf]; omega
    · obtain rfl : j = R.length := by omega
      have d1 : decide (R.length < R.length) = false := decide_eq_false (by omega)
      obtain ⟨Ak, capk, rfl, o1, o2, o3, o4⟩ := own_see HM.out.hO
      have hN := HM.out.hn
      have HRP := Lib.hid (rep_own (cs := cs) (vs := K.map Q.c) (i := lo) (j := hi) (by simp) HM.out.hX.row HM.out.hO (fun r' hr' => hF _ (HM.out.hX.fv r' hr')) (fun hnil => by
        have := hN (List.map_eq_nil_iff.1 hnil)
        injection this with e1 _ e2
        exact ⟨e1, e2⟩) (by omega) (by rw [← HCQ.out]; simp; omega) (by rw [← HCQ.out, List.length_map]; exact hcl) (by simp; omega))
      obtain ⟨q0, q1, q2, q3, qf⟩ := HM.out.hX.cells
      have qf1 := qf 1
      clear o3 o4 hN qf q0 q2 q3
      go_wp2_with fail
      refine HRP.out.mono ?_
      rintro e w4 ⟨V', rfl, hO4, hg4, hn4⟩
      have q14 : w4.cell? ⟨b, 1, none⟩ = some V ∧ w4.frozen? ⟨b, 1, none⟩ = false := by
        have e := hg4.block _ HM.out.hX.lt (fun e => HM.out.hX.neV e.symm rfl)
        refine ⟨(World.cell?_of_block e).trans q1, ?_⟩
        simp only [World.frozen?, e] at qf1 ⊢; exact qf1
      obtain ⟨q141, q142⟩ := q14
      obtain ⟨A4, l4, c4, rfl⟩ := own_any hO4
      have hL : cs.take lo ++ (K.map Q.c ++ cs.drop hi) = (A ++ (K ++ B)).map Q.c := by
        rw [← HCQ.out]
        have e1 : ((A ++ (R ++ B)).map Q.c).take lo = A.map Q.c := by rw [List.map_append]; exact List.take_left' (by simpa using hlo)
        have e2 : ((A ++ (R ++ B)).map Q.c).drop hi = B.map Q.c := by
          rw [show (A ++ (R ++ B)).map Q.c = (A.map Q.c ++ R.map Q.c) ++ B.map Q.c by simp]
          exact List.drop_left' (by simp; omega)
        rw [e1, e2]; simp
      rw [hL] at hO4
      have HTXN := Lib.hid (show txs (A ++ (K ++ B)) = txs A ++ (mnd mx (txs R) ++ txs B) by
        have := HK.out
        rw [List.take_of_length_le (by simp)] at this
        simp only [txs, List.map_append] at this ⊢
        rw [this])
      have HFL := Lib.hid (show (txs A ++ (mnd mx (txs R) ++ txs B)).flatten = (txs A ++ (txs R ++ txs B)).flatten by
        simp only [List.flatten_append, mnd_flat])
      have HPR := Lib.hid (put_repl (w := w) (w3 := wr) (K := A ++ (R ++ B)) (A := A) (N := K) (B := B) (by rw [HCQ.out]; exact HM.out.hX.mono fun k hk => .inl hk) (by have := HM.out.hC; rw [List.drop_of_length_le (Nat.le_refl _), List.nil_append] at this; exact this.mono fun k hk => .inl hk) (HM.out.hG.to fun k hk => hk.imp id And.left) hO4 hg4 hn4 (by simp at hcl ⊢; omega))
      have HCB := Lib.hid (count_bx HPR.out.1 HPR.out.2.1 lo (by simp; omega) hiE (by
        rw [HE.out]
        refine ends_same ?_ (by simp; omega) (by simp; omega)
        rw [HTXN.out, List.take_of_length_le (by simp; omega), List.take_left' (by simpa using hlo)]) (by rw [HTXN.out, HFL.out]; exact htx))
      clear hO4 hg4 hn4 hL
      go_wp2_with fail
      refine HCB.out.mono ?_
      intro e w6 hcn
      have hd := Cnt.edt0 (s := (txs A ++ (txs R ++ txs B)).flatten) hcn HPR.out.2.2 hF (by rw [HTXN.out]; exact HFL.out) (by rw [HTXN.out]; exact HSN.out) htx
      obtain ⟨rfl, hd1, hd2⟩ := hd
      have HD := Lib.hid (And.intro hd1 hd2)
      clear hcn hd1 hd2
      go_wp2_with fail
      go_end0
      exact ⟨rfl, HD.out.1, HD.out.2⟩
end Go.Proofs.YtdpjcbljeklhmaaDoor
