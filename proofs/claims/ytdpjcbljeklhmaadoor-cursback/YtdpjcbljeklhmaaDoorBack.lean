/-
  The statement on cursors that go forth and back (CursBack) answers true for every text, chunk and pieces. Condition: the two tables of unicode/utf8 lie as their text lays them.
-/
import Derived.Test.YtdpjcbljeklhmaaDoorC7
import Derived.Laws.AppendOwnNone
namespace Go.Proofs.YtdpjcbljeklhmaaDoor
open Go.RowKit ObGap ObUtf

/-- A buffer with that text and two cursors of it, made since w and ahead of B. -/
def Sd (w : World) (B : Nat) (s : Bs) (b c k1 n1 d k2 n2 : Nat) (wr : World) : Prop :=
  ∃ F mx p, Bu wr F b mx s p ∧ (∀ k, F k → w.heap.size ≤ k ∧ k < B) ∧ (¬ F c ∧ ¬ F d ∧ c ≠ d ∧ w.heap.size ≤ c ∧ w.heap.size ≤ d ∧ c < B ∧ d < B ∧ B ≤ wr.heap.size) ∧ Cu wr c b k1 n1 ∧ Cu wr d b k2 n2 ∧ Below w.heap.size w wr
section
variable {w wr w' : World} {B : Nat} {s : Bs} {b c k1 n1 d k2 n2 : Nat}
theorem Sd.onB (h : Sd w B s b c k1 n1 d k2 n2 wr) (hb : Below B wr w') : Sd w B s b c k1 n1 d k2 n2 w' := by
  obtain ⟨F, mx, p, h1, h2, ⟨e1, e2, e3, e4, e5, e6, e7, e8⟩, h4, h5, h6⟩ := h
  refine ⟨F, mx, p, ?_, h2, ⟨e1, e2, e3, e4, e5, e6, e7, Nat.le_trans e8 hb.size⟩, (hb.block _ e6).trans h4, (hb.block _ e7).trans h5, h6.trans (hb.mono ?_)⟩
  · exact h1.past (G := fun k => B ≤ k) (G' := fun k => B ≤ k) ⟨hb.os, hb.tape, hb.output, hb.size, fun k _ hn => hb.block k (Nat.lt_of_not_le hn), fun _ h => .inl h⟩ (fun k hk hB => by have := (h2 k hk).2; omega)
  · omega
theorem Sd.size (h : Sd w B s b c k1 n1 d k2 n2 wr) : B ≤ wr.heap.size ∧ w.heap.size ≤ B ∧ c < B ∧ d < B := by
  obtain ⟨F, mx, p, h1, h2, ⟨e1, e2, e3, e4, e5, e6, e7, e8⟩, h4, h5, h6⟩ := h
  exact ⟨e8, by omega, e6, e7⟩
theorem Sd.on (h : Sd w B s b c k1 n1 d k2 n2 wr) (hb : Below wr.heap.size wr w') : Sd w B s b c k1 n1 d k2 n2 w' := h.onB (hb.mono h.size.1)
theorem Sd.below (h : Sd w B s b c k1 n1 d k2 n2 wr) : Below w.heap.size w wr := by
  obtain ⟨F, mx, p, h1, h2, h3, h4, h5, h6⟩ := h; exact h6
theorem Sd.swap (h : Sd w B s b c k1 n1 d k2 n2 wr) : Sd w B s b d k2 n2 c k1 n1 wr := by
  obtain ⟨F, mx, p, h1, h2, ⟨e1, e2, e3, e4, e5, e6, e7, e8⟩, h4, h5, h6⟩ := h
  exact ⟨F, mx, p, h1, h2, ⟨e2, e1, fun e => e3 e.symm, e5, e4, e7, e6, e8⟩, h5, h4, h6⟩
theorem Sd.ex {k n : Nat} (h : Sd w B s b c k1 n1 d k2 n2 wr) (hc : Cu w' c b k n) (hx : Ex c c wr w') : Sd w B s b c k n d k2 n2 w' := by
  obtain ⟨F, mx, p, h1, h2, ⟨e1, e2, e3, e4, e5, e6, e7, e8⟩, h4, h5, h6⟩ := h
  exact ⟨F, mx, p, h1.pastc hx e1, h2, ⟨e1, e2, e3, e4, e5, e6, e7, Nat.le_trans e8 hx.size⟩, hc, (hx.block _ h5.lt (fun e => e3 e.symm) (fun e => e3 e.symm)).trans h5, h6.trans (hx.below h6.size e4 e4)⟩
theorem sd_new (hT : U.Tb w) (h : Sc w s b c k1 n1 wr) (k : Nat) (hk : U.isBI (ba s) (k : Int) = true) :
    Calls Tryd.prog 12 #[ptr b, .int .i64 (k : Int)] wr fun e w' => e = .returned (.tuple #[ptr wr.heap.size, .int .i64 0]) ∧ Sd w w'.heap.size s b c k1 n1 wr.heap.size k 0 w' := by
  have hT' := hT.below h.below
  obtain ⟨F, mx, p, h1, h2, h3, h4, h5, h6⟩ := h
  refine (new_ok h1 hT' k hk).mono ?_
  rintro e w' ⟨rfl, hc, hb⟩
  have hs := hb.size
  have hlt := hc.lt
  exact ⟨rfl, F, mx, p, h1.on hb, fun k hk => ⟨h2 k hk, by have := h1.hF k hk; omega⟩, ⟨h3, fun hF => Nat.lt_irrefl _ (h1.hF _ hF), fun e => by have := h5.lt; omega, h4, h6.size, by have := h5.lt; omega, hlt, Nat.le_refl _⟩, h5.on hb, hc, bel_trans h6 hb⟩
theorem sd_next (hT : U.Tb w) (h : Sd w B s b c k1 n1 d k2 n2 wr) (hat : k1 < s.length) (hn : n1 ≤ 1099511627776) :
    Calls Tryd.prog 16 #[ptr c] wr fun e w' => e = .returned (.tuple #[.int .i64 (sy (ba s) k1), .bool true]) ∧ Sd w B s b c (k1 + wd (ba s) k1) (n1 + 1) d k2 n2 w' ∧ Ex c c wr w' := by
  have hT' := hT.below h.below
  have h' := h
  obtain ⟨F, mx, p, h1, h2, h3, h4, h5, h6⟩ := h
  refine (next_some h1 h4 hT' hat hn).mono ?_
  rintro e w' ⟨rfl, hc, hx⟩
  exact ⟨rfl, h'.ex hc hx, hx⟩
theorem sd_next_end (h : Sd w B s b c k1 n1 d k2 n2 wr) (hat : s.length ≤ k1) : Calls Tryd.prog 16 #[ptr c] wr fun e w' => e = .returned (.tuple #[.int .i64 0, .bool false]) ∧ Below wr.heap.size wr w' := by
  obtain ⟨F, mx, p, h1, h2, h3, h4, h5, h6⟩ := h
  exact next_none h1 h4 hat
theorem sd_prev (hT : U.Tb w) (h : Sd w B s b c k1 n1 d k2 n2 wr) (h0 : 0 < k1) (hat : k1 ≤ s.length) (hI : IsB (ba s) k1) (hn : n1 ≤ 1099511627776) :
    Calls Tryd.prog 18 #[ptr c] wr fun e w' => e = .returned (.tuple #[.int .i64 (sy (ba s) (k1 - U.pw (ba s) k1)), .bool true]) ∧ Sd w B s b c (k1 - U.pw (ba s) k1) (n1 + 1) d k2 n2 w' ∧ Ex c c wr w' := by
  have hT' := hT.below h.below
  have h' := h
  obtain ⟨F, mx, p, h1, h2, h3, h4, h5, h6⟩ := h
  refine (prev_some h1 h4 hT' h0 hat hI hn).mono ?_
  rintro e w' ⟨rfl, hc, hx⟩
  exact ⟨rfl, h'.ex hc hx, hx⟩
theorem sd_prev_end (h : Sd w B s b c k1 n1 d k2 n2 wr) (hat : k1 = 0) : Calls Tryd.prog 18 #[ptr c] wr fun e w' => e = .returned (.tuple #[.int .i64 0, .bool false]) ∧ Below wr.heap.size wr w' := by
  obtain ⟨F, mx, p, h1, h2, h3, h4, h5, h6⟩ := h
  exact prev_none h1 h4 hat
theorem sd_place (h : Sd w B s b c k1 n1 d k2 n2 wr) : Calls Tryd.prog 20 #[ptr c] wr fun e w' => e = .returned (.int .i64 (k1 : Int)) ∧ wr = w' := by
  obtain ⟨F, mx, p, h1, h2, h3, h4, h5, h6⟩ := h; exact place_cu h4
theorem sd_fetched (h : Sd w B s b c k1 n1 d k2 n2 wr) : Calls Tryd.prog 21 #[ptr c] wr fun e w' => e = .returned (.int .i64 (n1 : Int)) ∧ wr = w' := by
  obtain ⟨F, mx, p, h1, h2, h3, h4, h5, h6⟩ := h; exact fetched_cu h4
/-- A row made since B stays where a block ahead of B turns. -/
theorem own_ex {e : TypeId} {v : Value} {n : Nat} {xs : List Value} (h : wr.ownsRow B e 1 v n xs) (hx : Ex c c wr w') (hc : c < B) : w'.ownsRow B e 1 v n xs :=
  own_keep h fun g hg => hx.block _ (h.lt g hg).2 (by have := (h.lt g hg).1; omega) (by have := (h.lt g hg).1; omega)
end
/-- From one boundary to the next, and back. -/
theorem pw_bd {s : ByteArray} {i : Nat} (h : i < cnt s) : bd s (i + 1) - U.pw s (bd s (i + 1)) = bd s i := by
  have h1 := cnt_lt s h
  have h2 := wd_pos h1
  have e : bd s (i + 1) = bd s i + wd s (bd s i) := rfl
  rw [U.pw_spec (j := bd s i) (n := bd s (i + 1)) ⟨i, rfl⟩ (by omega) e.symm]
  omega
/-- A slice of a call's own, as the source of an append: nil, or a row with its cells. -/
def Src (w : World) (A : Option Addr) (c : Nat) (zs : List Int) : Prop :=
  (A = none ∧ zs = [] ∧ c = 0) ∨ ∃ g, A = some ⟨g, 0, none⟩ ∧ g < w.heap.size ∧ ∀ j u, (ints zs)[j]? = some u → w.cell? ((⟨g, 0, none⟩ : Addr).add j) = some u
theorem own_src {w : World} {base : Nat} {v : Value} {zs : List Int} (h : w.ownsRow base 3 1 v zs.length (ints zs)) : ∃ A c, v = .slice A zs.length c ∧ Src w A c zs := by
  have h0 := h
  rcases h.2 with ⟨hv, h1⟩ | ⟨g, cap, cur, hv, _, hg, _⟩
  · exact ⟨none, 0, by rw [hv, h1], Or.inl ⟨rfl, List.eq_nil_of_length_eq_zero h1, rfl⟩⟩
  · subst hv
    exact ⟨_, cap, rfl, Or.inr ⟨g, rfl, lt_of_heap hg, h0.cells rfl⟩⟩
theorem Src.below {w w' : World} {A : Option Addr} {c : Nat} {zs : List Int} (h : Src w A c zs) (hb : Below w.heap.size w w') : Src w' A c zs := by
  rcases h with h | ⟨g, e, hg, hc⟩
  · exact Or.inl h
  · refine Or.inr ⟨g, e, Nat.lt_of_lt_of_le hg hb.size, fun j u hu => (hb.cell (p := (⟨g, 0, none⟩ : Addr).add j) ?_).trans (hc j u hu)⟩
    unfold Addr.add; split <;> exact hg
/-- One append of such a source to a slice of the call's own. -/
theorem wpList_append_src {w : World} {ops : Array Oper} {rest : List Oper} {o : Oper} {a : Act} {Q : Exit → Act → World → Prop} (hgd : o.guard = none) (s x : Operand)
    (ho : o.op = .call { callee := .builtin .append, args := #[s, x], argTypes := #[22, 22] }) (base : Nat) (v : Value) (xs zs : List Int) (hs : a.eval s = v)
    (hown : w.ownsRow base 3 1 v xs.length (ints xs)) (A : Option Addr) (c : Nat) (hx : a.eval x = .slice A zs.length c) (hsrc : Src w A c zs)
    (hlen : xs.length + zs.length ≤ 1000000) (hbase : base ≤ w.heap.size)
    (h : ∀ v' w', w'.ownsRow base 3 1 v' (xs ++ zs).length (ints (xs ++ zs)) → w.grownBy w' v.ownBlock → wpList Tryd.prog ops Q rest (a.put o.dst v') w') : wpList Tryd.prog ops Q (o :: rest) a w := by
  obtain ⟨i0, hi, hz0, hz1, hz2⟩ := info_parts U.Tryd.info3
  rcases hsrc with ⟨rfl, rfl, rfl⟩ | ⟨g, rfl, _, hc⟩
  · refine wpList_append_own_none hgd s x 22 ho base 3 i0 1 Tryd.underlying22 hi v _ _ hs hown hx ?_
    exact h v w (by simpa using hown) (World.grownBy.refl w _)
  · refine wpList_append_own w hgd s x 22 ho base 3 i0 (.int .i64 0) 1 8 Tryd.underlying22 hi hz0 hz1 hz2 rfl (by decide) v _ _ hs hown ⟨g, 0, none⟩ zs.length c (ints zs) hx (by simp) hc
      (fun u hu => by obtain ⟨z, _, rfl⟩ := List.mem_map.1 hu; rfl) (by unfold maxLen; omega) (by omega) hbase ?_
    intro v' w' h1 h2 _
    exact h v' w' (by simpa using h1) h2
theorem syms_drop {s : ByteArray} {i : Nat} (h : i < cnt s) : (syms s).drop i = sy s (bd s i) :: (syms s).drop (i + 1) := by
  have hl : i < (syms s).length := by unfold syms; rw [symsTo_length]; exact h
  have hg : (syms s)[i]? = some (sy s (bd s i)) := by unfold syms symsTo; simp [h]
  rw [List.getElem?_eq_getElem hl] at hg
  rw [List.drop_eq_getElem_cons hl, Option.some.inj hg]
set_option maxHeartbeats 4000000 in
set_option maxRecDepth 100000 in
theorem back_walk (s : Bs) (chunk : Int) (A : Option Addr) (n cap : Nat) (f : Nat → Int) (w : World) (hT : U.Tb w) (hcell : U.Cells w w.heap.size A n f) :
    Calls Tryd.prog 5 #[str s, .int .i64 chunk, .slice A n cap] w fun e w' => e = .returned (.bool true) ∧ Below w.heap.size w w' := by
  obtain ⟨i0, hi, hz0, hz1, hz2⟩ := info_parts U.Tryd.info3
  have HT := Lib.hid hT
  have HC := Lib.hid hcell
  clear hT hcell
  have hlen : (s.take 60).length ≤ 60 := by simp; omega
  go_enter Tryd.func5, Tryd.ntmps5
  go_wp2_with fail
  refine (lcut_any s 60 w).mono ?_
  rintro e w2 ⟨rfl, rfl⟩
  generalize s.take 60 = t at *
  have HB := Lib.hid (buf_any t chunk A n cap f w HC.out (by omega))
  go_wp2_with fail
  refine HB.out.mono ?_
  rintro e w2 ⟨rfl, h2⟩
  have HN := Lib.hid (bt_new HT.out h2 0 (U.isBI_true (IsB.zero _)))
  clear h2 HB HC
  generalize hbb : w.heap.size = b at *
  have hbb' := Lib.hid hbb
  clear hbb
  go_wp2_with fail
  refine HN.out.mono ?_
  rintro e w3 ⟨rfl, h3⟩
  have HN2 := Lib.hid (sd_new HT.out h3 t.length (U.isBI_true (IsB.size (ba t))))
  clear h3 HN
  generalize w2.heap.size = c at *
  go_wp2_with fail
  refine HN2.out.mono ?_
  rintro e w4 ⟨rfl, h4⟩
  have H4 := Lib.hid h4
  clear h4 HN2
  generalize w3.heap.size = d at *
  generalize hB1 : w4.heap.size = B at *
  have hce := cnt_end (ba t)
  have hcl := cnt_le (ba t)
  rw [ba_size] at hce hcl
  have HCE := Lib.hid hce
  clear hce
  go_wp2_with fail
  go_loopw [12, 14] (fun l s14 wr => ∃ i : Nat, s14 = .int .i64 (i : Int) ∧ i ≤ cnt (ba t) ∧ wr.ownsRow B 3 1 l i (ints (symsTo (ba t) i)) ∧ Sd w B t b c (bd (ba t) i) (3 * i) d t.length 0 wr) (fun _ s14 _ => 100 - (intOf s14).toNat)
  case atStart => exact ⟨0, rfl, by omega, World.ownsRow_nil _ _ _ _, H4.out⟩
  case round =>
    obtain ⟨i, rfl, hic, hO, hS⟩ := hrel
    have HO := Lib.hid hO
    have HS := Lib.hid hS
    have hsz := hS.size
    clear hO hS H4
    have d1 : decide (i ≤ t.length) = true := by simp; omega
    by_cases hi1 : i < cnt (ba t)
    · have hlt := cnt_lt (ba t) hi1
      rw [ba_size] at hlt
      have HN := Lib.hid (sd_next HT.out HS.out hlt (by omega))
      have hp := wd_pos (s := ba t) (i := bd (ba t) i) hlt
      have hle1 := bd_le (ba t) (i + 1)
      rw [ba_size] at hle1
      have HE := Lib.hid (show bd (ba t) i + wd (ba t) (bd (ba t) i) = bd (ba t) (i + 1) from rfl)
      have h01 : 0 < bd (ba t) (i + 1) := by have := HE.out; omega
      have HPW := Lib.hid (pw_bd hi1)
      have HSY := Lib.hid (symsTo_succ (ba t) i)
      have HI1 := Lib.hid (show IsB (ba t) (bd (ba t) (i + 1)) from ⟨_, rfl⟩)
      go_wp2_with fail
      refine HN.out.mono ?_
      rintro e w5 ⟨rfl, h5, x5⟩
      have HO5 := Lib.hid (own_ex HO.out x5 hsz.2.2.1)
      rw [HE.out] at h5
      have HP := sd_prev HT.out h5 h01 hle1 HI1.out (by omega)
      rw [HPW.out] at HP
      have HP := Lib.hid HP
      clear h5 x5 HN
      go_wp2_with fail
      refine HP.out.mono ?_
      rintro e w6 ⟨rfl, h6, x6⟩
      have HO6 := Lib.hid (own_ex HO5.out x6 hsz.2.2.1)
      have HN := sd_next HT.out h6 hlt (by omega)
      rw [HE.out] at HN
      have HN := Lib.hid HN
      clear h6 x6 HP
      go_wp2_with fail
      refine HN.out.mono ?_
      rintro e w7 ⟨rfl, h7, x7⟩
      have HO7 := Lib.hid (own_ex HO6.out x7 hsz.2.2.1)
      have H7 := Lib.hid h7
      have hsz7 := h7.size.1
      clear h7 x7 HN HO5 HO6
      generalize hyy : sy (ba t) (bd (ba t) i) = y at *
      go_wp2_with (at_builtin; refine wpList_append_own _ rfl _ _ 22 rfl B 3 i0 (.int .i64 0) 1 8 Tryd.underlying22 hi hz0 hz1 hz2 rfl (by decide) _ _ _ rfl (HO7.out.alloc _) ⟨w7.heap.size, 0, none⟩ 1 1 [.int .i64 y] rfl rfl ?c1 ?c2 ?c3 ?c4 ?c5 ?_)
      case c1 => exact U.one_cell _ _ _
      case c2 => intro u hu; simp at hu; subst hu; rfl
      case c3 => unfold maxLen; omega
      case c4 => omega
      case c5 => simp; omega
      intro v' w8 hown' hgrow _
      have hb8 : Below B w7 w8 := ((Below.refl B w7).alloc hsz7 _).grown hgrow (by simp; omega) (fun k hk => (HO7.out.lt k hk).1)
      have H8 := Lib.hid (H7.out.onB hb8)
      have HO8 := Lib.hid hown'
      clear hown' hgrow hb8
      go_wp2_with fail
      go_roundw
      case rel => exact ⟨i + 1, by go_num, by omega, by rw [HSY.out]; simpa using HO8.out, by rw [show 3 * (i + 1) = 3 * i + 1 + 1 + 1 by omega]; exact H8.out⟩
      case measure => simp [intOf]; omega
    · obtain rfl : i = cnt (ba t) := by omega
      rw [HCE.out] at HS
      have HN := Lib.hid (sd_next_end HS.out (Nat.le_refl _))
      go_wp2_with fail
      refine HN.out.mono ?_
      rintro e w5 ⟨rfl, hb5⟩
      have HO5 := Lib.hid (own_below HO.out hb5)
      have H5 := Lib.hid (HS.out.on hb5).swap
      clear HN HO HS hb5
      go_wp2_with fail
      have HSL := Lib.hid (show (syms (ba t)).length = cnt (ba t) from symsTo_length _ _)
      go_loopw [13, 19] (fun m s19 wr => ∃ i : Nat, s19 = .int .i64 (i : Int) ∧ i ≤ cnt (ba t) ∧ wr.ownsRow B 3 1 m i (ints ((syms (ba t)).drop (cnt (ba t) - i))) ∧ wr.ownsRow B 3 1 u12 (cnt (ba t)) (ints (syms (ba t))) ∧ Sd w B t b d (bd (ba t) (cnt (ba t) - i)) i c t.length (3 * cnt (ba t)) wr) (fun _ s19 _ => 100 - (intOf s19).toNat)
      case atStart =>
        refine ⟨0, rfl, by omega, ?_, HO5.out, by rw [Nat.sub_zero, HCE.out]; exact H5.out⟩
        rw [Nat.sub_zero, List.drop_of_length_le (by rw [HSL.out]; omega)]
        exact World.ownsRow_nil _ _ _ _
      case round =>
        obtain ⟨i, rfl, hic, hM, hL, hS⟩ := hrel
        have HM := Lib.hid hM
        have HL := Lib.hid hL
        have HS := Lib.hid hS
        have hsz := hS.size
        clear hM hL hS H5 HO5
        have d1 : decide (i ≤ t.length) = true := by simp; omega
        by_cases hi1 : i < cnt (ba t)
        · obtain ⟨j, hj⟩ : ∃ j, j = cnt (ba t) - (i + 1) := ⟨_, rfl⟩
          have hj1 : cnt (ba t) - i = j + 1 := by omega
          have hjc : j < cnt (ba t) := by omega
          rw [hj1] at HM HS
          have hlt := cnt_lt (ba t) hjc
          have hp := wd_pos (s := ba t) (i := bd (ba t) j) hlt
          have hle1 := bd_le (ba t) (j + 1)
          rw [ba_size] at hle1
          have h01 : 0 < bd (ba t) (j + 1) := by have : bd (ba t) (j + 1) = bd (ba t) j + wd (ba t) (bd (ba t) j) := rfl; omega
          have HP := sd_prev HT.out HS.out h01 hle1 ⟨_, rfl⟩ (by omega)
          rw [pw_bd hjc] at HP
          have HP := Lib.hid HP
          have HD := Lib.hid (syms_drop hjc)
          have HJ := Lib.hid hj
          have hzl : ((syms (ba t)).drop (j + 1)).length = i := by rw [List.length_drop, HSL.out]; omega
          generalize (syms (ba t)).drop (j + 1) = zs at *
          generalize sy (ba t) (bd (ba t) j) = y at *
          have HM := Lib.hid (show wr.ownsRow B 3 1 u13 zs.length (ints zs) by rw [hzl]; exact HM.out)
          clear hj hj1 hlt hp
          go_wp2_with fail
          refine HP.out.mono ?_
          rintro e w6 ⟨rfl, h6, x6⟩
          have H6 := Lib.hid h6
          have HM6 := Lib.hid (own_ex HM.out x6 hsz.2.2.1)
          have HL6 := Lib.hid (own_ex HL.out x6 hsz.2.2.1)
          have hsz6 := h6.size.1
          obtain ⟨A6, c6, rfl, hsrc⟩ := own_src HM6.out
          have HSRC := Lib.hid hsrc
          clear h6 x6 HP HM hsrc
          rw [hzl]
          go_wp2_with (at_builtin; refine wpList_append_src rfl (.tmp 99) (.tmp 100) rfl B _ [y] zs rfl ?c1 A6 c6 ?c2 (HSRC.out.below ((Below.refl _ _).alloc (Nat.le_refl _) _)) ?c3 ?c4 ?_)
          case c1 => exact World.ownsRow_lit w6 #[.int .i64 y] 1 hsz6 (by unfold maxLen; omega) rfl
          case c2 => rw [hzl]; rfl
          case c3 => simp; omega
          case c4 => simp; omega
          intro v' w7 hown' hgrow
          have hb7 : Below w6.heap.size w6 w7 := ((Below.refl _ w6).alloc (Nat.le_refl _) _).grown hgrow (by simp) (fun k hk => by
            have hk' : some w6.heap.size = some k := hk
            simp at hk'; omega)
          have H7 := Lib.hid (H6.out.on hb7)
          have HL7 := Lib.hid (own_below HL6.out hb7)
          have HM7 := Lib.hid hown'
          clear hown' hgrow hb7 HSRC HM6 HL6 H6
          go_wp2_with fail
          go_roundw
          case rel =>
            refine ⟨i + 1, by go_num, by omega, ?_, HL7.out, ?_⟩
            · rw [← HJ.out, HD.out]
              exact HM7.out
            · rw [← HJ.out]; exact H7.out
          case measure => simp [intOf]; omega
        · obtain rfl : i = cnt (ba t) := by omega
          rw [Nat.sub_self] at HM HS
          rw [List.drop_zero] at HM
          have HP := Lib.hid (sd_prev_end HS.out rfl)
          go_wp2_with fail
          refine HP.out.mono ?_
          rintro e w6 ⟨rfl, hb6⟩
          have H6 := Lib.hid (HS.out.on hb6)
          have HM6 := Lib.hid (own_below HM.out hb6)
          have HL6 := Lib.hid (own_below HL.out hb6)
          clear HP HM HL HS hb6
          obtain ⟨A1, c1, rfl, k1⟩ := own_cells (zs := syms (ba t)) (by rw [HSL.out]; exact HM6.out)
          obtain ⟨A2, c2, rfl, k2⟩ := own_cells (zs := syms (ba t)) (by rw [HSL.out]; exact HL6.out)
          have HE := Lib.hid (U.eq_same A2 A1 (syms (ba t)).length c2 c1 _ _ _ w6 k2 k1 (by rw [HSL.out]; omega) (fun j _ => rfl))
          rw [HSL.out] at HE
          rw [HSL.out]
          clear k1 k2 HM6 HL6
          have hcn : cnt (ba t) ≤ 60 := by omega
          have w3c : IntKind.i64.wrap (3 * ((cnt (ba t) : Nat) : Int)) = ((3 * cnt (ba t) : Nat) : Int) := by rw [show 3 * ((cnt (ba t) : Nat) : Int) = ((3 * cnt (ba t) : Nat) : Int) by omega]; exact IntWalk.i64_in _ (by omega)
          generalize hcc : cnt (ba t) = cc at *
          go_wp2_with fail
          refine HE.out.mono ?_
          rintro e w7 ⟨rfl, hb7⟩
          have H7 := Lib.hid (H6.out.on hb7)
          go_wp2_with fail
          refine (sd_place H7.out.swap).mono ?_
          rintro e w8 ⟨rfl, rfl⟩
          go_wp2_with fail
          refine (sd_place H7.out).mono ?_
          rintro e w8 ⟨rfl, rfl⟩
          go_wp2_with fail
          refine (sd_fetched H7.out.swap).mono ?_
          rintro e w8 ⟨rfl, rfl⟩
          go_wp2_with fail
          refine (sd_fetched H7.out).mono ?_
          rintro e w8 ⟨rfl, rfl⟩
          go_wp2_with fail
          refine (wakes_any _ (HT.out.below H7.out.below)).mono ?_
          rintro e w9 ⟨rfl, hb9⟩
          go_wp2_with fail
          go_ret
          exact ⟨rfl, bel_trans H7.out.below hb9⟩
end Go.Proofs.YtdpjcbljeklhmaaDoor
