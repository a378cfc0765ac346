/-
  What Clone of a buffer answers: another buffer with the same text and place, in blocks of its own.
-/
import Derived.Test.YtlobaokeagpefaaB14
namespace Go.Proofs.Ytlobaokeagpefaa
open Go.RowKit ObGap

theorem nil46 (w : World) (A : Option Addr) (n c : Nat) : (binOp .eql 46 (.slice A n c) (.slice none 0 0)).run Try.prog w = .ok (.bool A.isNone) w := Lib.run_eql_slice_nil (P := Try.prog) w 46 3 A n c 0 0 Try.underlying46
/-- What slices.Clone of numbers answers. -/
def ClI (E : List Nat) (w : World) (e : Ending) (w' : World) : Prop := ∃ v, e = .returned v ∧ w'.ownsRow w.heap.size 3 1 v E.length (nums E) ∧ Below w.heap.size w w'
set_option maxHeartbeats 400000 in
theorem sclone_ints {w : World} {U : Value} {E : List Nat} (h : w.ownsRow 0 3 1 U E.length (nums E)) (hE : E.length ≤ 2097152) : Calls Try.prog 41 #[U] w (ClI E w) := by
  obtain ⟨i0, hq, hz0, hz1, hz2⟩ := info3x
  have HH := Lib.hid h
  rcases h.2 with ⟨rfl, h0⟩ | ⟨g, cap, cur, rfl, hbg, hg, hnc, hcm, hcs, htake⟩
  · have hnn := nil46 w none 0 0
    have hE0 : E = [] := List.eq_nil_of_length_eq_zero h0
    subst hE0
    clear h
    go_enter Try.func41, Try.ntmps41
    go_wp2_with fail
    go_ret
    exact ⟨_, rfl, World.ownsRow_nil _ _ _ _, Below.refl _ _⟩
  · have hnn := nil46 w (some ⟨g, 0, none⟩) E.length cap
    have HC := Lib.hid (show ∀ j u, (nums E)[j]? = some u → (w.alloc (.cells #[] 3)).cell? ((⟨g, 0, none⟩ : Addr).add j) = some u from fun j u hj => by
      rw [add_at, Nat.zero_add, World.cell?_of_block (w := w) (Below.heap_alloc _ _ _ (lt_of_heap hg))]
      have := HH.out.cells (g := g) rfl j u hj
      rwa [add_at, Nat.zero_add] at this)
    have HO := Lib.hid (World.ownsRow_made (base := w.heap.size) (e := 3) (size := 1) w #[] 0 (Nat.le_refl _) (by simp) (by simp))
    have HL := Lib.hid (show 0 + E.length ≤ maxLen ∧ (0 + E.length) * 8 ≤ 140737488355328 by unfold maxLen; omega)
    have HN := Lib.hid (show ∀ u ∈ nums E, u.oneCell' = true from fun u hu => by obtain ⟨c, _, rfl⟩ := List.mem_map.1 hu; rfl)
    clear h hg hcs htake hnc hcm
    go_enter Try.func41, Try.ntmps41
    go_wp2_with (at_builtin; refine wpList_append_own _ rfl _ _ 46 rfl w.heap.size 3 i0 (.int .i64 0) 1 8 Try.underlying46 hq hz0 hz1 hz2 rfl (by omega) _ 0 [] rfl HO.out ⟨g, 0, none⟩ E.length cap (nums E) rfl (by simp) HC.out HN.out HL.out.1 HL.out.2 (by simp) ?_)
    intro v' w6 hown' hgrow _
    have hb : Below w.heap.size w w6 := ((Below.refl _ w).alloc (Nat.le_refl _) (.cells #[] 3)).grown hgrow (by simp) (fun k hk => by
      simp only [Value.ownBlock, Option.some.injEq] at hk; omega)
    have HR := Lib.hid (And.intro hown' hb)
    clear hown' hgrow hb
    go_wp2_with fail
    go_ret
    exact ⟨v', rfl, by have := HR.out.1; simpa using this, HR.out.2⟩
theorem Fil.to {w : World} {g : Nat} {t : TypeId} {n j : Nat} {xs ys : List Value} (h : Fil w g t n j xs) (e : xs.take j = ys.take j) : Fil w g t n j ys := by
  obtain ⟨L, h1, h2, h3⟩ := h
  exact ⟨L, h1, h2, h3.trans e⟩
theorem Fil.keep {w w' : World} {g : Nat} {t : TypeId} {n j : Nat} {xs : List Value} (h : Fil w g t n j xs) (e : w'.heap[g]? = w.heap[g]?) : Fil w' g t n j xs := by
  obtain ⟨L, h1, h2, h3⟩ := h
  exact ⟨L, e.trans h1, h2, h3⟩
section
variable {w : World} {F : Nat → Prop} {b mx : Nat} {s : Bs} {p : Nat}
/-- What Clone leaves of a round to the next. -/
def Cln (w : World) (mx n j : Nat) (T : List Bs) (N : List Q) (wr : World) : Prop :=
  Fil wr w.heap.size 63 n j (ptrs (N.map Q.c)) ∧ Chs wr (New w wr) mx N ∧ N.length = j ∧ txs N = T.take j ∧ Below w.heap.size w wr
theorem Cln.push {wr w2 : World} {n j c g q : Nat} {T : List Bs} {N : List Q} {x : Bs} (h : Cln w mx n j T N wr) (hj : j < n) (hT : T[j]? = some x) (hb : Below wr.heap.size wr w2) (hk : Chk w2 c g mx x q) (hc : wr.heap.size ≤ c) (hg : wr.heap.size ≤ g) :
    Cln w mx n (j + 1) T (N ++ [⟨c, g, x⟩]) (w2.setCell ⟨w.heap.size, j, none⟩ (ptr c)) := by
  obtain ⟨h1, h2, h3, h4, h5⟩ := h
  have s1 := h5.size
  have s2 := hb.size
  have sz : (w2.setCell ⟨w.heap.size, j, none⟩ (ptr c)).heap.size = w2.heap.size := by simp [World.setCell]
  obtain ⟨L, l1, l2, l3⟩ := h1
  have lw := lt_of_heap l1
  have l1' : w2.heap[w.heap.size]? = some (.cells L.toArray 63 (0, 0)) := (hb.block _ lw).trans l1
  have hlt := hk.lt
  have hjT : j < T.length := (List.getElem?_eq_some_iff.1 hT).1
  have hC2 : Chs w2 (New w (w2.setCell ⟨w.heap.size, j, none⟩ (ptr c))) mx (N ++ [⟨c, g, x⟩]) := by
    refine Chs.snoc ((h2.on hb).mono fun k hk => ⟨hk.1, by have := hk.2; omega⟩) hk ⟨by omega, by omega⟩ ⟨by omega, by omega⟩ fun y hy => ?_
    obtain ⟨a1, a2, _⟩ := h2.1 y hy
    have := a1.2; have := a2.2
    exact ⟨by omega, by omega⟩
  refine ⟨?_, ?_, by simp; omega, ?_, ((h5.trans (hb.mono s1)).setCell (p := ⟨w.heap.size, j, none⟩) (Nat.le_refl _) _)⟩
  · have h0 : Fil w2 w.heap.size 63 n j (ptrs ((N ++ [⟨c, g, x⟩] : List Q).map Q.c)) := ⟨L, l1', l2, by
      rw [l3, ptrs, ptrs, List.map_append, List.map_append, List.take_append_of_le_length (by simp; omega)]⟩
    exact h0.set hj (by subst h3; simp)
  · refine ⟨fun y hy => ?_, hC2.2⟩
    obtain ⟨a1, a2, p1, a3⟩ := hC2.1 y hy
    obtain ⟨b1, t1⟩ := a3.tc
    obtain ⟨b2, t2⟩ := a3.tg
    exact ⟨a1, a2, p1, a3.keep (Below.heap_setCell _ _ _ _ (ty_ne t1 l1' (by decide))) (Below.heap_setCell _ _ _ _ (ty_ne t2 l1' (by decide)))⟩
  · rw [txs, List.map_append, List.take_succ_eq_append_getElem hjT]
    rw [List.getElem?_eq_getElem hjT] at hT
    injection hT with hT
    rw [hT]
    exact congrArg (· ++ [x]) h4
/-- The clone made. -/
theorem Cln.made {wr w3 : World} {n : Nat} {T : List Bs} {N : List Q} {U : Value} (h : Cln w mx n n T N wr) (hn : T.length = n) (hb : Below wr.heap.size wr w3) (hU : w3.ownsRow wr.heap.size 3 1 U (ends T).length (nums (ends T))) (h4 : 4 ≤ mx) (h5 : mx ≤ 4096) (hcl : n ≤ 2097152) (hs : T.flatten = s) (hsn : Snd mx T) (hsl : s.length ≤ 1048576) (hp : p ≤ s.length) :
    Bu (w3.alloc (.cells #[.int .i64 (mx : Int), .slice (some ⟨w.heap.size, 0, none⟩) n n, U, .int .i64 (p : Int)] 60)) (New w (w3.alloc (.cells #[.int .i64 (mx : Int), .slice (some ⟨w.heap.size, 0, none⟩) n n, U, .int .i64 (p : Int)] 60))) w3.heap.size mx s p := by
  obtain ⟨a1, a2, a3, a4, a5⟩ := h
  have s1 := a5.size
  have s2 := hb.size
  generalize ho : Obj.cells #[.int .i64 (mx : Int), .slice (some ⟨w.heap.size, 0, none⟩) n n, U, .int .i64 (p : Int)] 60 = o
  have hba : Below w3.heap.size w3 (w3.alloc o) := (Below.refl _ _).alloc (Nat.le_refl _) o
  have sz : (w3.alloc o).heap.size = w3.heap.size + 1 := by simp
  have hNT : txs N = T := by rw [a4, List.take_of_length_le (by omega)]
  have hf := (a1.on hb).on hba
  have hrow := hf.own (B := 0) (by simp; omega) hcl (Nat.zero_le _)
  have hlw : w.heap.size < wr.heap.size := by obtain ⟨L, l1, _⟩ := a1; exact lt_of_heap l1
  have hml : (N.map Q.c).length = n := by rw [List.length_map]; exact a3
  refine ⟨.slice (some ⟨w.heap.size, 0, none⟩) n n, N, U, ⟨by rw [heap_new, ← ho], by rw [hml]; exact hrow, ?_, ⟨by omega, by omega⟩, fun g hg => ?_, fun g hg => ?_, h4, h5, by rw [hml]; exact hcl, by rw [hNT, ends_len]; omega⟩, ?_, fun k hk => hk.2, by rw [hNT]; exact hs, by rw [hNT]; exact hsn, hsl, hp⟩
  · rw [hNT]; exact own_keep (ownb0 hU) fun g hg => hba.block _ (hU.lt g hg).2
  · simp only [Value.ownBlock, Option.some.injEq] at hg
    subst hg
    exact ⟨Nat.le_refl _, by omega⟩
  · have := hU.lt g hg
    exact ⟨by omega, by omega⟩
  · exact (((a2.on hb).on hba)).mono fun k hk => ⟨hk.1, by have := hk.2; omega⟩
/-- What Clone answers. -/
def Clb (mx : Nat) (s : Bs) (p : Nat) (w : World) (e : Ending) (w' : World) : Prop := ∃ d, e = .returned (ptr d) ∧ w.heap.size ≤ d ∧ Bu w' (New w w') d mx s p ∧ Below w.heap.size w w'
set_option maxHeartbeats 4000000 in
set_option maxRecDepth 100000 in
theorem bclone_bu (h : Bu w F b mx s p) : Calls Try.prog 25 #[ptr b] w (Clb mx s p w) := by
  obtain ⟨V, qs, U, hX, hC, hF, hs, hsnd, hsl, hp⟩ := h
  have HX := Lib.hid hX
  have HC := Lib.hid hC
  have hcl : qs.length ≤ 2097152 := by simpa using hX.cl
  have h4 := hX.h4
  have h5 := hX.h5
  obtain ⟨c0, c1, c2, c3, _⟩ := hX.cells
  obtain ⟨Av, cv, rfl, k1, k2, k3, k4⟩ := own_see hX.row
  have HK4 := Lib.hid k4
  have HSN := Lib.hid (And.intro hs hsnd)
  rw [List.length_map] at *
  have hmk := fun W => make58 qs.length W hcl
  have HXA := Lib.hid (fun o => HX.out.on ((Below.refl _ w).alloc (Nat.le_refl _) o))
  have c1a := fun o => (HXA.out o).cells.2.1
  clear hX hC hs hsnd k3 k4
  go_enter Try.func25, Try.ntmps25
  go_wp2_with fail
  have HF0 := Lib.hid (show Cln w mx qs.length 0 (txs qs) [] (w.alloc (.cells (Array.replicate qs.length (.pointer none)) 63)) from ⟨Fil.new w 63 qs.length (.pointer none) _, Chs.nil _ _ _, rfl, by simp, (Below.refl _ w).alloc (Nat.le_refl _) _⟩)
  generalize w.alloc (.cells (Array.replicate qs.length (.pointer none)) 63) = w0 at *
  go_loopw [19] (fun s19 wr => ∃ (j : Nat) (N : List Q), s19 = .int .i64 (j : Int) ∧ j ≤ qs.length ∧ Cln w mx qs.length j (txs qs) N wr) (fun s19 _ => qs.length - (intOf s19).toNat)
  case atStart => exact ⟨0, [], rfl, Nat.zero_le _, HF0.out⟩
  case round =>
    obtain ⟨j, N, rfl, hj, hcn⟩ := hrel
    have HCN := Lib.hid hcn
    have hb := hcn.2.2.2.2
    have HB := Lib.hid hb
    by_cases hjn : j < qs.length
    · have d1 : decide (j < qs.length) = true := decide_eq_true hjn
      have i1 : (j : Int) < (qs.length : Int) := by omega
      obtain ⟨r, rfl, k5, k6⟩ : ∃ r, Av = some ⟨r, 0, none⟩ ∧ r < w.heap.size ∧ ∀ i x, (ptrs (qs.map Q.c))[i]? = some x → w.cell? ⟨r, i, none⟩ = some x := by
        rcases HK4.out with ⟨_, _, k5⟩ | ⟨r, e, _, k5, _, k6⟩
        · simp at k5; omega
        · exact ⟨r, e, k5, k6⟩
      have m3 : wr.cell? ⟨r, j, none⟩ = some (ptr qs[j].c) := (hb.cell k5).trans (k6 j (ptr qs[j].c) (by simp [hjn]))
      obtain ⟨_, _, q0, hk⟩ := (HC.out.on hb).1 qs[j] (List.getElem_mem hjn)
      have HV := Lib.hid (show (txs qs)[j]? = some qs[j].s by simp [hjn])
      generalize qs[j] = x at *
      obtain ⟨xc, xg, xs⟩ := x
      simp only at *
      have HL := Lib.hid (clone_chk hk)
      clear hk k6 hcn hb
      go_wp2_with fail
      refine HL.out.mono ?_
      rintro e w2 ⟨⟨d, g2, rfl, hk2, hd1, hd2⟩, hb2⟩
      have HP := Lib.hid (HCN.out.push hjn HV.out hb2 hk2 hd1 hd2)
      obtain ⟨⟨v0, q1⟩, q2, q3⟩ := (HCN.out.1.on hb2).cell j hjn
      clear hb2 hk2
      go_wp2_with fail
      go_roundw
      case rel => exact ⟨j + 1, _, by go_num, by omega, HP.out⟩
      case measure => simp [intOf]; omega
    · obtain rfl : j = qs.length := by omega
      have d1 : decide (qs.length < qs.length) = false := decide_eq_false (by omega)
      have HS := Lib.hid (show ∀ W, Below wr.heap.size wr W → W.cell? ⟨b, 0, none⟩ = some (.int .i64 (mx : Int)) ∧ W.cell? ⟨b, 2, none⟩ = some U ∧ W.cell? ⟨b, 3, none⟩ = some (.int .i64 (p : Int)) from fun W hW => by
        have := ((HX.out.on HB.out).on hW).cells
        exact ⟨this.1, this.2.2.1, this.2.2.2.1⟩)
      have HCI := Lib.hid (sclone_ints (w := wr.drew) (U := U) (E := ends (txs qs)) (HX.out.on HB.out).en (by rw [ends_len]; simpa using hcl))
      clear hcn hb
      go_wp2_with fail
      go_region_held3 (fun W => W.cell? ⟨b, 0, none⟩ = some (.int .i64 (mx : Int)) ∧ W.cell? ⟨b, 2, none⟩ = some U ∧ W.cell? ⟨b, 3, none⟩ = some (.int .i64 (p : Int))) (first | exact HS.out _ (Below.refl _ _).drew | exact HS.out _ (undrew hb3) | exact HS.out _ ((undrew hb3).alloc hb3.size _)) (first
        | (go_at_call 41; (with_reducible refine HCI.out.mono ?_); rintro e w3 ⟨U3, rfl, hU3, hb3⟩; obtain ⟨A3, l3, e3, rfl⟩ := own_any hU3))
      all_goals (
        have hm := HCN.out.made (s := s) (p := p) (by simp) (undrew hb3) hU3 h4 h5 hcl HSN.out.1 HSN.out.2 hsl hp
        have hbl : Below w.heap.size w w3 := bel_trans HB.out (undrew hb3)
        have HM := Lib.hid hm
        have HBL := Lib.hid hbl
        clear hm hbl hU3 hb3
        go_wp2_with fail
        go_ret
        exact ⟨_, rfl, HBL.out.size, HM.out, HBL.out.alloc HBL.out.size _⟩)
end
end Go.Proofs.Ytlobaokeagpefaa
