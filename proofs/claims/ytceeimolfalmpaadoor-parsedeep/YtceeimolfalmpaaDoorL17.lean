/-
  What Tokens answers: a text's words, or its first fault. Conditions: the text has at most 100000 bytes; the two tables of unicode/utf8 lie as their text lays them.
-/
import Derived.Test.YtceeimolfalmpaaDoorLG
namespace Go.Proofs.YtceeimolfalmpaaDoor
open Go.RowKit ObUtf ObSets ObLex

theorem esc_place {s : ByteArray} {i : Nat} {x : Int} {n : Nat} (h : esc s i = .one x n) : 1 ≤ n := by have := esc_one_wd h; omega
theorem braces_next {s : ByteArray} {i : Nat} {k a b : Int} {j : Nat} (h : braces s i = .ok (k, a, b, j)) : i < j := by
  revert h
  unfold braces
  dsimp only
  intro h
  have fin : ∀ {x : Int × Int × Int × Nat}, i < x.2.2.2 → (Except.ok x : Res _) = .ok (k, a, b, j) → i < j := fun hx e => by injection e with e; subst e; exact hx
  by_cases h1 : bt s (i + 1) = 126
  · rw [if_pos h1] at h
    by_cases h2 : dg s (i + 2) = 0 ∨ bt s (i + 2 + dg s (i + 2)) ≠ 125
    · rw [if_pos h2] at h; cases h
    · rw [if_neg h2] at h
      by_cases h3 : 255 < num s (i + 2)
      · rw [if_pos h3] at h; cases h
      · rw [if_neg h3] at h; exact fin (by dsimp only; omega) h
  · rw [if_neg h1] at h
    by_cases h2 : dg s (i + 1) = 0
    · rw [if_pos h2] at h; cases h
    · rw [if_neg h2] at h
      by_cases h3 : bt s (i + 1 + dg s (i + 1)) = 44
      · rw [if_pos h3] at h
        by_cases h4 : bt s (i + 1 + dg s (i + 1) + 1 + dg s (i + 1 + dg s (i + 1) + 1)) ≠ 125
        · rw [if_pos h4] at h; cases h
        · rw [if_neg h4] at h
          by_cases h5 : 255 < num s (i + 1)
          · rw [if_pos h5] at h; cases h
          · rw [if_neg h5] at h
            by_cases h6 : dg s (i + 1 + dg s (i + 1) + 1) = 0
            · rw [if_pos h6] at h; exact fin (by dsimp only; omega) h
            · rw [if_neg h6] at h
              by_cases h7 : 255 < num s (i + 1 + dg s (i + 1) + 1) ∨ num s (i + 1 + dg s (i + 1) + 1) < num s (i + 1)
              · rw [if_pos h7] at h; cases h
              · rw [if_neg h7] at h; exact fin (by dsimp only; omega) h
      · rw [if_neg h3] at h
        by_cases h4 : bt s (i + 1 + dg s (i + 1)) = 125
        · rw [if_pos h4] at h
          by_cases h5 : 255 < num s (i + 1)
          · rw [if_pos h5] at h; cases h
          · rw [if_neg h5] at h; exact fin (by dsimp only; omega) h
        · rw [if_neg h4] at h; cases h
theorem cls_next {s : ByteArray} {i : Nat} {l : List R} {j : Nat} (h : cls s i = .ok (l, j)) : i < j := by
  revert h
  unfold cls
  cases hc : cend s (i + 1) with
  | none => intro h; cases h
  | some to =>
    have := cend_some hc
    dsimp only
    generalize (if bt s (i + 1) = 94 then i + 2 else i + 1) = f
    intro h
    by_cases ht : to = f
    · rw [if_pos ht] at h; cases h
    · rw [if_neg ht] at h
      cases hr : items s to f with
      | error e => rw [hr] at h; cases h
      | ok m => rw [hr] at h; injection h with h; injection h with _ h; omega
theorem word_next {s : ByteArray} {i : Nat} {t : T} {j : Nat} (hi : i < s.size) (h : word s i = .ok (t, j)) : i < j ∧ t.at_ = (i : Int) := by
  have hw := wd_pos hi
  have fin : ∀ {x : T × Nat}, (i < x.2 ∧ x.1.at_ = (i : Int)) → (Except.ok x : Res _) = .ok (t, j) → i < j ∧ t.at_ = (i : Int) := fun hx e => by injection e with e; subst e; exact hx
  revert h
  unfold word
  dsimp only
  intro h
  by_cases h1 : bt s i = 92
  · rw [if_pos h1] at h
    cases he : esc s i with
    | bad e => rw [he] at h; cases h
    | one x n => rw [he] at h; have := esc_place he; exact fin ⟨by dsimp only; omega, rfl⟩ h
    | many l => rw [he] at h; exact fin ⟨by dsimp only; omega, rfl⟩ h
  · rw [if_neg h1] at h
    by_cases h2 : bt s i = 91
    · rw [if_pos h2] at h
      cases hc : cls s i with
      | error f => rw [hc] at h; cases h
      | ok y => obtain ⟨l, q⟩ := y; rw [hc] at h; exact fin ⟨cls_next hc, rfl⟩ h
    · rw [if_neg h2] at h
      by_cases h3 : bt s i = 123
      · rw [if_pos h3] at h
        cases hb : braces s i with
        | error f => rw [hb] at h; cases h
        | ok y => obtain ⟨k, a, b, q⟩ := y; rw [hb] at h; exact fin ⟨braces_next hb, rfl⟩ h
      · rw [if_neg h3] at h
        by_cases h4 : bt s i = 93 ∨ bt s i = 125
        · rw [if_pos h4] at h; cases h
        · rw [if_neg h4] at h
          revert h
          repeat' split
          all_goals exact fin ⟨by dsimp only; omega, rfl⟩
theorem toks_bad {s : ByteArray} {i : Nat} {f : F} (h : i < s.size) (hw : word s i = .error f) : toks s i = .error f := by rw [toks, dif_pos h, hw]
theorem toks_ok {s : ByteArray} {i : Nat} {t : T} {j : Nat} (h : i < s.size) (hw : word s i = .ok (t, j)) : toks s i = pre [t] (toks s j) := by
  rw [toks, dif_pos h, hw]
  dsimp only
  rw [dif_pos (word_next h hw).1]
  cases toks s j <;> rfl
theorem toks_end {s : ByteArray} {i : Nat} (h : s.size ≤ i) : toks s i = .ok [] := by rw [toks, dif_neg (by omega)]
section
variable {w : World} {c : Nat} {s : ByteArray} {i : Nat}
theorem way_any (h : Rd w c s i) : Calls Tryd.prog (ch (bt s i)) #[ptr c] w (RetW (word s i) c s w) := by
  unfold word ch
  dsimp only
  by_cases h92 : bt s i = 92
  · rw [if_pos h92, if_pos h92]
    cases he : esc s i with
    | bad e => exact escape_bad h h92 he
    | one x n => exact escape_one h h92 he
    | many l => exact escape_many h h92 he
  · rw [if_neg h92, if_neg h92]
    by_cases h91 : bt s i = 91
    · rw [if_pos h91, if_pos h91]
      have := class_any h h91
      cases hc : cls s i with
      | error f => rw [hc] at this; exact this
      | ok y => obtain ⟨l, j⟩ := y; rw [hc] at this; exact this
    · rw [if_neg h91, if_neg h91]
      by_cases h123 : bt s i = 123
      · rw [if_pos h123, if_pos h123]
        have := braces_any h h123
        cases hc : braces s i with
        | error f => rw [hc] at this; exact this
        | ok y => obtain ⟨k, a, b, j⟩ := y; rw [hc] at this; exact this
      · rw [if_neg h123, if_neg h123]
        by_cases hs : bt s i = 93 ∨ bt s i = 125
        · rw [if_neg (by omega), if_neg (by omega), if_neg (by omega), if_neg (by omega), if_pos hs, if_pos hs]
          exact stray_any h
        · rw [if_neg hs, if_neg hs]
          by_cases h46 : bt s i = 46
          · rw [if_neg (by omega), if_neg (by omega), if_neg (by omega), if_pos h46, if_pos h46]
            exact dot_any h h46
          · rw [if_neg h46, if_neg h46]
            by_cases h40 : bt s i = 40
            · rw [if_pos h40, if_pos h40]
              by_cases hp : bt s (i + 1) = 63 ∧ bt s (i + 2) = 58
              · rw [if_pos hp]; exact open_plain h h40 hp
              · rw [if_neg hp]; exact open_group h h40 hp
            · rw [if_neg h40, if_neg h40]
              by_cases h41 : bt s i = 41
              · rw [if_pos (by omega), if_pos h41]; exact mark_any h h41 (by omega)
              · rw [if_neg h41]
                by_cases h124 : bt s i = 124
                · rw [if_pos (by omega), if_pos h124]; exact mark_any h h124 (by omega)
                · rw [if_neg h124]
                  by_cases h94 : bt s i = 94
                  · rw [if_pos (by omega), if_pos h94]; exact mark_any h h94 (by omega)
                  · rw [if_neg h94]
                    by_cases h36 : bt s i = 36
                    · rw [if_pos (by omega), if_pos h36]; exact mark_any h h36 (by omega)
                    · rw [if_neg h36, if_neg (by omega)]
                      by_cases h42 : bt s i = 42
                      · rw [if_pos (by omega), if_pos h42]; exact repeat_any h h42 (by omega)
                      · rw [if_neg h42]
                        by_cases h43 : bt s i = 43
                        · rw [if_pos (by omega), if_pos h43]; exact repeat_any h h43 (by omega)
                        · rw [if_neg h43]
                          by_cases h63 : bt s i = 63
                          · rw [if_pos (by omega), if_pos h63]; exact repeat_any h h63 (by omega)
                          · rw [if_neg h63, if_neg (by omega)]; exact plain_any h
end
/-- A call of a function that has a body: it is entered. -/
theorem run_enter {P : Program} {f : FuncId} {fn : Func} (hf : P.funcs[f]? = some fn) (hname : (fn.name == "runtime.NumGoroutine") = false) (hb : fn.body.isNone = false) (args : Array Value) (w : World) : (callFunc f args).run P w = .ok (.enter f args) w := by
  have h1 : fn.name ≠ "runtime.NumGoroutine" := by simpa using hname
  have h2 : fn.body ≠ none := fun e => by rw [e] at hb; cases hb
  simp [callFunc, hf, h1, h2]
theorem ch_cases (b : Nat) : ch b = 17 ∨ ch b = 18 ∨ ch b = 19 ∨ ch b = 20 ∨ ch b = 21 ∨ ch b = 22 ∨ ch b = 23 ∨ ch b = 24 ∨ ch b = 25 := by
  unfold ch
  repeat' split
  all_goals omega
theorem enter_any (b : Nat) (args : Array Value) (W : World) : (callFunc (ch b) args).run Tryd.prog W = .ok (.enter (ch b) args) W := by
  rcases ch_cases b with e | e | e | e | e | e | e | e | e <;> rw [e]
  · exact run_enter Tryd.func17 (by kernel_rfl) (by kernel_rfl) args W
  · exact run_enter Tryd.func18 (by kernel_rfl) (by kernel_rfl) args W
  · exact run_enter Tryd.func19 (by kernel_rfl) (by kernel_rfl) args W
  · exact run_enter Tryd.func20 (by kernel_rfl) (by kernel_rfl) args W
  · exact run_enter Tryd.func21 (by kernel_rfl) (by kernel_rfl) args W
  · exact run_enter Tryd.func22 (by kernel_rfl) (by kernel_rfl) args W
  · exact run_enter Tryd.func23 (by kernel_rfl) (by kernel_rfl) args W
  · exact run_enter Tryd.func24 (by kernel_rfl) (by kernel_rfl) args W
  · exact run_enter Tryd.func25 (by kernel_rfl) (by kernel_rfl) args W
theorem five_cells (w : World) (a b d x f : Value) (t : TypeId) : ∀ j u, [a, b, d, x, f][j]? = some u → (w.alloc (.cells #[a, b, d, x, f] t)).cell? ((⟨w.heap.size, 0, none⟩ : Addr).add j) = some u := by
  intro j u hu
  have h := heap_new w (.cells #[a, b, d, x, f] t)
  have he : (⟨w.heap.size, 0, none⟩ : Addr).add j = ⟨w.heap.size, 0 + j, none⟩ := by unfold Addr.add; split <;> simp_all
  rw [he, Nat.zero_add]
  obtain ⟨⟨h0, h1, h2, h3, h4⟩, _⟩ := blk5 h
  rcases j with _ | _ | _ | _ | _ | j
  · simp at hu; rw [← hu]; exact h0
  · simp at hu; rw [← hu]; exact h1
  · simp at hu; rw [← hu]; exact h2
  · simp at hu; rw [← hu]; exact h3
  · simp at hu; rw [← hu]; exact h4
  · simp at hu
theorem S.Ow.grown {W w' : World} {B : Nat} {v : Value} {l : List R} {row : Option Nat} (h : S.Ow W B v l) (hg : W.grownBy w' row) (hr : ∀ r, row = some r → ∃ cur, W.heap[r]? = some (.cells cur 50 (0, 0))) : S.Ow w' B v l := by
  refine ⟨h.1, ?_⟩
  rcases h.2 with h2 | ⟨g, cap, cur, hv, hbg, hgg, rest⟩
  · exact .inl h2
  · refine .inr ⟨g, cap, cur, hv, hbg, (hg.block g (lt_of_heap hgg) fun e => ?_).trans hgg, rest⟩
    obtain ⟨cur', h38⟩ := hr g e.symm
    rw [hgg] at h38
    injection h38 with h38
    injection h38 with _ h38
    exact absurd h38 (by decide)
theorem own_row38 {W : World} {B : Nat} {v : Value} {n : Nat} {xs : List Value} (h : W.ownsRow B 50 5 v n xs) : ∀ r, v.ownBlock = some r → ∃ cur, W.heap[r]? = some (.cells cur 50 (0, 0)) := by
  intro r hr
  rcases h.2 with ⟨hv, _⟩ | ⟨g, cap, cur, hv, hbg, hgg, rest⟩
  · rw [hv] at hr; cases hr
  · rw [hv] at hr; injection hr with hr; subst hr; exact ⟨cur, hgg⟩
theorem Tk.push {W w3 : World} {B : Nat} {v v' : Value} {L : List (T × Value)} {t : T} {u : Value} (hown : W.ownsRow B 50 5 v L.length (cellsT L)) (hsets : ∀ p ∈ L, S.Ow W B p.2 p.1.set) (hnew : S.Ow W B u t.set)
    (hown' : w3.ownsRow B 50 5 v' (L.length + 1) (cellsT L ++ [.int .i64 t.kind, .int .i64 t.at_, u, .int .i64 t.mn, .int .i64 t.mx])) (hg : W.grownBy w3 v.ownBlock) : Tk w3 B v' (L.map Prod.fst ++ [t]) := by
  refine ⟨L ++ [(t, u)], by simp, ?_, fun p hp => ?_⟩
  · rw [cellsT_append, List.length_append]
    exact hown'
  · rw [List.mem_append] at hp
    rcases hp with hp | hp
    · exact (hsets p hp).grown hg (own_row38 hown)
    · simp at hp; subst hp; exact hnew.grown hg (own_row38 hown)
theorem Tk.shape {w : World} {B : Nat} {v : Value} {l : List T} (h : Tk w B v l) : ∃ A k, v = .slice A l.length k := by
  obtain ⟨L, rfl, h2, _⟩ := h
  rw [List.length_map]
  rcases h2.2 with ⟨hv, hn⟩ | ⟨g, cap, cur, hv, _⟩
  · exact ⟨none, 0, by rw [hv, hn]⟩
  · exact ⟨_, cap, hv⟩
theorem ones5 (a b d e : Int) (A : Option Addr) (n k : Nat) : ∀ u ∈ [Value.int .i64 a, Value.int .i64 b, .slice A n k, .int .i64 d, .int .i64 e], u.oneCell' = true := by
  intro u hu
  simp at hu
  rcases hu with rfl | rfl | rfl | rfl | rfl <;> rfl
/-- What is handed back for a text's words. -/
def RetT (r : Res (List T)) (w : World) (e : Ending) (w' : World) : Prop :=
  match r with
  | .error (er, a) => e = .returned (.tuple #[nls, fv er (a : Int)]) ∧ Below w.heap.size w w' ∧ (er = 4 ∨ er = 5 ∨ er = 7)
  | .ok l => ∃ A k, e = .returned (.tuple #[.slice A l.length k, fv 0 0]) ∧ Tk w' w.heap.size (.slice A l.length k) l ∧ Below w.heap.size w w'
set_option maxHeartbeats 2000000 in
set_option maxRecDepth 100000 in
theorem tokens_any (s : ByteArray) (w : World) (hT : U.Tb w) (hs : s.size ≤ 100000) : Calls Tryd.prog 10 #[.string s] w (RetT (toks s 0) w) := by
  obtain ⟨i0, hi0, hz0, hz1, hz2⟩ := info_parts info38
  have hT2 := hT.2
  have hb0 := (Below.refl w.heap.size w).alloc (Nat.le_refl _) fo
  have hR0 : Rd ((w.alloc fo).alloc (.cells #[.string s, .int .i64 0] 48)) (w.heap.size + 1) s 0 := by
    refine ⟨?_, by omega, (hT.below hb0).below ((Below.refl _ _).alloc (Nat.le_refl _) _), Nat.zero_le _, hs⟩
    have := heap_new (w.alloc fo) (.cells #[.string s, .int .i64 0] 48)
    simpa using this
  have HR0 := Lib.hid hR0
  have HF0 := Lib.hid (keepL (heap_new w fo) ((Below.refl _ _).alloc (Nat.le_refl _) (.cells #[.string s, .int .i64 0] 48)))
  have HB0 := Lib.hid (hb0.alloc (by simp) (.cells #[.string s, .int .i64 0] 48))
  obtain ⟨r, hr⟩ : ∃ r, r = toks s 0 := ⟨_, rfl⟩
  rw [← hr]
  have HRES := Lib.hid hr
  clear hr hR0 hb0 hT
  go_enter Tryd.func10, Tryd.ntmps10
  go_wp2_with fail
  go_loopw [5] (fun v wr => ∃ (i : Nat) (l : List T), Hid (Tk wr (w.heap.size + 2) v l) ∧ Hid (Rd wr (w.heap.size + 1) s i) ∧ Hid (r = pre l (toks s i)) ∧ Hid (wr.heap[w.heap.size]? = some fo) ∧ Hid (Below w.heap.size w wr) ∧ Hid (l.length ≤ i) ∧ Hid (wr.cell? ⟨w.heap.size + 1, 1, none⟩ = some (.int .i64 (i : Int)))) (fun _ wr => s.size + 1 - (intOf ((wr.cell? ⟨w.heap.size + 1, 1, none⟩).getD (.int .i64 0))).toNat)
  case atStart => exact ⟨0, [], Tk.nil _ _, HR0.out, by rw [pre_nil]; exact HRES.out, HF0.out, HB0.out, Nat.zero_le _, HR0.out.cells.2.1⟩
  case round =>
    obtain ⟨i, l, HK, HR, HI, HF, HB, HL, HU⟩ := hrel
    have u1 := HU.out
    have hm : s.size + 1 - (intOf ((wr.cell? ⟨w.heap.size + 1, 1, none⟩).getD (.int .i64 0))).toNat = s.size + 1 - i := by rw [u1]; rfl
    rw [hm]
    clear hm
    have hle := HR.out.2.2.2.1
    have hcl := HR.out.lt
    by_cases hi : i < s.size
    · have d1 : decide (i < s.size) = true := decide_eq_true hi
      obtain ⟨f, hf⟩ : ∃ f, f = ch (bt s i) := ⟨_, rfl⟩
      have HCH := Lib.hid (choose_any HR.out hi hf)
      have HEN := Lib.hid (enter_any (bt s i))
      have HWY := Lib.hid (fun W (hb : Below wr.heap.size wr W) => way_any (HR.out.on hb))
      rw [← hf] at HWY HEN
      clear hf
      cases hw : word s i with
      | error y =>
        obtain ⟨er, a⟩ := y
        rw [hw] at HWY
        have hrr : r = .error (er, a) := by rw [HI.out, toks_bad hi hw]; rfl
        subst hrr
        clear HI hw HRES
        go_wp2_with fail
        refine HCH.out.mono ?_
        rintro e w1 ⟨rfl, hb1⟩
        go_wp2_with fail
        rw [HEN.out]
        refine Calls.mono (HWY.out _ hb1) ?_
        rintro e w2 ⟨rfl, hx2, hee⟩
        have en : (er != 0) = true := by simp; omega
        have hF2 := keepB (keepL HF.out hb1) hx2 (by omega)
        have s1 : w.heap.size < w2.heap.size := lt_of_heap hF2
        obtain ⟨q0, q1, q2, q3⟩ := blk2 hF2
        have hb2 : Below w.heap.size w w2 := HB.out.trans ((hb1.mono (by omega)).trans (hx2.below (by have := hb1.size; omega) (by omega)))
        go_wp2_with fail
        go_region
        all_goals (
          go_wp2_with fail
          refine bodyPost_ret (v := .tuple #[nls, fv er (a : Int)]) ?_ rfl ⟨rfl, ?_, hee⟩
          · rw [results_tc rfl]; go_simp
          · repeat' (first | with_reducible exact hb2 | with_reducible refine Below.drew ?_ | refine Below.alloc ?_ (by simp <;> omega) _ | refine Below.setCell ?_ (by simp) _))
      | ok y =>
        obtain ⟨t, j⟩ := y
        rw [hw] at HWY
        have hij := (word_next hi hw).1
        have hat := (word_next hi hw).2
        have HI2 := Lib.hid (show r = pre (l ++ [t]) (toks s j) by rw [HI.out, toks_ok hi hw, pre_pre])
        clear HI hw HRES
        go_wp2_with fail
        refine HCH.out.mono ?_
        rintro e w1 ⟨rfl, hb1⟩
        go_wp2_with fail
        rw [HEN.out]
        refine Calls.mono (HWY.out _ hb1) ?_
        rintro e w2 ⟨A, k, rfl, ho2, hR2, hx2⟩
        have hF2 := keepB (keepL HF.out hb1) hx2 (by omega)
        have s1 : w.heap.size < w2.heap.size := lt_of_heap hF2
        obtain ⟨kd, at_, l0, mn, mx⟩ := t
        obtain rfl : at_ = (i : Int) := hat
        dsimp only at ho2
        have hb12 := hb1.size
        obtain ⟨L, hL, hown, hsets⟩ := HK.out
        have hLl := HL.out
        rw [← hL] at hLl
        simp only [List.length_map] at hLl
        have hx02 : Ex (w.heap.size + 1) wr w2 := Ex.after hb1 hx2
        have o1 := ((own_ex hown hx02 (by omega)).alloc (.cells #[.int .i64 kd, .int .i64 (i : Int), .slice A l0.length k, .int .i64 mn, .int .i64 mx] 50)).alloc fo
        have HOWN := Lib.hid (o1.alloc (.cells #[.int .i64 kd, .int .i64 (i : Int), .slice A l0.length k, .int .i64 mn, .int .i64 mx] 50))
        have HSETS := Lib.hid (fun p hp => ((((hsets p hp).ex hx02 (by omega)).new (.cells #[.int .i64 kd, .int .i64 (i : Int), .slice A l0.length k, .int .i64 mn, .int .i64 mx] 50)).new fo).new (.cells #[.int .i64 kd, .int .i64 (i : Int), .slice A l0.length k, .int .i64 mn, .int .i64 mx] 50))
        have HNEW := Lib.hid ((((ho2.less (show w.heap.size + 2 ≤ w1.heap.size by omega)).new (.cells #[.int .i64 kd, .int .i64 (i : Int), .slice A l0.length k, .int .i64 mn, .int .i64 mx] 50)).new fo).new (.cells #[.int .i64 kd, .int .i64 (i : Int), .slice A l0.length k, .int .i64 mn, .int .i64 mx] 50))
        have hcell := five_cells ((w2.alloc (.cells #[.int .i64 kd, .int .i64 (i : Int), .slice A l0.length k, .int .i64 mn, .int .i64 mx] 50)).alloc fo) (.int .i64 kd) (.int .i64 (i : Int)) (.slice A l0.length k) (.int .i64 mn) (.int .i64 mx) 50
        rw [show ((w2.alloc (.cells #[.int .i64 kd, .int .i64 (i : Int), .slice A l0.length k, .int .i64 mn, .int .i64 mx] 50)).alloc fo).heap.size = w2.heap.size + 1 + 1 by simp] at hcell
        have HCELL := Lib.hid hcell
        have HF2 := Lib.hid hF2; have HR2 := Lib.hid hR2; have HX2 := Lib.hid hx2
        have hx2s := hx2.size
        have HLE := Lib.hid hL
        clear hown hsets o1 hcell hF2 hR2 hx2 ho2 hL
        generalize hn : l0.length = n at *
        go_wp2_with (at_builtin; refine wpList_append_own _ rfl _ _ 38 rfl (w.heap.size + 2) 50 i0 (.agg #[.int .i64 0, .int .i64 0, .slice none 0 0, .int .i64 0, .int .i64 0]) 5 56 Tryd.underlying38 hi0 hz0 hz1 hz2 rfl (by omega) _ _ _ rfl HOWN.out ⟨w2.heap.size + 1 + 1, 0, none⟩ 1 1 [.int .i64 kd, .int .i64 (i : Int), .slice A n k, .int .i64 mn, .int .i64 mx] rfl rfl HCELL.out (ones5 _ _ _ _ _ _ _) ?c3 ?c4 ?c5 ?_)
        case c3 => unfold maxLen; omega
        case c4 => omega
        case c5 => simp; omega
        intro v' w3 hown' hgrow _
        have htk := Tk.push (t := ⟨kd, (i : Int), l0, mn, mx⟩) HOWN.out HSETS.out HNEW.out hown' hgrow
        rw [HLE.out] at htk
        have hbg := below_grown hgrow (B := w.heap.size + 2) (by simp; omega) (fun k hk => (HOWN.out.lt k hk).1)
        have ba : Below w2.heap.size w2 (((w2.alloc (.cells #[.int .i64 kd, .int .i64 (i : Int), .slice A n k, .int .i64 mn, .int .i64 mx] 50)).alloc fo).alloc (.cells #[.int .i64 kd, .int .i64 (i : Int), .slice A n k, .int .i64 mn, .int .i64 mx] 50)) := (((Below.refl w2.heap.size w2).alloc (Nat.le_refl _) _).alloc (by simp) _).alloc (by simp; omega) _
        have HR3 := Lib.hid ((HR2.out.on ba).upto hbg (by omega))
        have HF3 := Lib.hid (keepN (keepL HF2.out ba) hbg (by omega))
        have hb2 : Below w.heap.size w w2 := HB.out.trans ((hb1.mono (by omega)).trans (HX2.out.below (by omega) (by omega)))
        have HB3 := Lib.hid ((hb2.trans (ba.mono (by omega))).trans (hbg.mono (by omega)))
        have HTK := Lib.hid htk
        have HL3 := Lib.hid (show (l ++ [(⟨kd, (i : Int), l0, mn, mx⟩ : T)]).length ≤ j by have := HL.out; simp; omega)
        have u3 := HR3.out.cells.2.1
        clear htk hbg ba hb2 hown' hgrow
        go_wp2_with fail
        go_roundw
        case rel => exact ⟨j, _, HTK.out, HR3.out, HI2.out, HF3.out, HB3.out, HL3.out, u3⟩
        case measure => rw [u3]; show s.size + 1 - j < s.size + 1 - i; omega
    · have d1 : decide (i < s.size) = false := decide_eq_false hi
      have hrr : r = .ok l := by rw [HI.out, toks_end (by omega)]; simp [pre]
      subst hrr
      obtain ⟨A, k, hv⟩ := HK.out.shape
      subst hv
      obtain ⟨q0, q1, q2, q3⟩ := blk2 HF.out
      have s1 : w.heap.size < wr.heap.size := lt_of_heap HF.out
      clear HI HRES
      have HK2 := Lib.hid ((HK.out.ex (Ex.one w.heap.size wr 0 (.int .i64 0)) (by omega)).ex (Ex.one w.heap.size (wr.setCell ⟨w.heap.size, 0, none⟩ (.int .i64 0)) 1 (.int .i64 0)) (by omega))
      generalize hn : l.length = n at *
      go_wp2_with fail
      refine bodyPost_ret (v := .tuple #[.slice A n k, fv 0 0]) ?_ rfl ⟨A, k, by rw [hn], ?_, ?_⟩
      · rw [results_tc rfl]; go_simp
      · rw [hn]; exact HK2.out.less (by omega)
      · exact (HB.out.setCell (p := ⟨w.heap.size, 0, none⟩) (Nat.le_refl _) _).setCell (p := ⟨w.heap.size, 1, none⟩) (Nat.le_refl _) _
end Go.Proofs.YtceeimolfalmpaaDoor
