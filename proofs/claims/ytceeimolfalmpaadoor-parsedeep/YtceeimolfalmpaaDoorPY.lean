/-
  What parse.wordsOf answers: the words that stand ahead of a text's first fault, and that fault. Conditions: the text has at most 100000 bytes; the two tables of unicode/utf8 lie as their text lays them.
  What the page's own Words answers: the words that stand ahead of a text's first fault, and that fault. Conditions: the text has at most 100000 bytes.
  Which kinds words have, and how many there are at most. No program, no conditions.
-/
import Derived.Test.YtceeimolfalmpaaDoorPZ
import Derived.Test.YtceeimolfalmpaaDoorR12
namespace Go.Proofs.YtceeimolfalmpaaDoor
open Go.RowKit ObUtf ObSets ObLex

/-- A text's fault, as Tokens hands it back. -/
def FlOf (r : Res (List T)) (x a : Int) : Prop :=
  match r with
  | .error (e, q) => x = e ∧ a = (q : Int) ∧ e ≠ 0
  | .ok _ => x = 0 ∧ a = 0
/-- Words and fault, side by side. -/
def WdOf (r : Res (List T)) (w' : World) (B : Nat) (v : Value) : Prop :=
  ∀ l, r = .ok l → ∃ A k, v = .slice A l.length k ∧ Tk w' B v l
theorem toks_un {r : Res (List T)} {w w' : World} {e : Ending} (h : RetT r w e w') : ∃ v x a, e = .returned (.tuple #[v, fv x a]) ∧ Below w.heap.size w w' ∧ FlOf r x a ∧ WdOf r w' w.heap.size v := by
  unfold RetT at h
  cases r with
  | error f =>
    obtain ⟨er, a⟩ := f
    obtain ⟨h1, h2, h3⟩ := h
    exact ⟨_, _, _, h1, h2, ⟨rfl, rfl, by omega⟩, fun l g => by cases g⟩
  | ok l =>
    obtain ⟨A, k, h1, h2, h3⟩ := h
    exact ⟨_, _, _, h1, h3, ⟨rfl, rfl⟩, fun m g => by injection g with g; subst g; exact ⟨A, k, rfl, h2⟩⟩
theorem wd_below {r : Res (List T)} {w w' : World} {B : Nat} {v : Value} (h : WdOf r w B v) (hb : Below w.heap.size w w') : WdOf r w' B v := fun l g => by
  obtain ⟨A, k, h1, h2⟩ := h l g
  exact ⟨A, k, h1, h2.below hb⟩
theorem wd_less {r : Res (List T)} {w : World} {B B' : Nat} {v : Value} (h : WdOf r w B v) (hb : B' ≤ B) : WdOf r w B' v := fun l g => by
  obtain ⟨A, k, h1, h2⟩ := h l g
  exact ⟨A, k, h1, h2.less hb⟩
theorem wd_set {r : Res (List T)} {w : World} {B g : Nat} {v : Value} (h : WdOf r w B v) (hg : g < B) (k : Nat) (u : Value) : WdOf r (w.setCell ⟨g, k, none⟩ u) B v := fun l e => by
  obtain ⟨A, k', h1, h2⟩ := h l e
  exact ⟨A, k', h1, h2.set1 hg k u⟩
/-- What wordsOf hands back. -/
def RetO (s : ByteArray) (w : World) (e : Ending) (w' : World) : Prop :=
  ∃ A l k x a, e = .returned (.tuple #[.slice A l.length k, fv x a]) ∧ Tk w' w.heap.size (.slice A l.length k) l ∧ Below w.heap.size w w' ∧ Ahead s l ∧ FlOf (toks s 0) x a
def szOf : Value → Nat
  | .string s => s.size
  | _ => 0
set_option maxHeartbeats 2000000 in
set_option maxRecDepth 100000 in
theorem words_any (s : ByteArray) (w : World) (hT : U.Tb w) (hs : s.size ≤ 100000) : Calls Tryd.prog 8 #[.string s] w (RetO s w) := by
  have HT := Lib.hid hT
  have HTOK := Lib.hid (fun (r : ByteArray) (W : World) (hr : r.size ≤ s.size) (hW : U.Tb W) => tokens_any r W hW (by omega))
  have HF0 := Lib.hid (heap_new w fo)
  have HB0 := Lib.hid ((Below.refl w.heap.size w).alloc (Nat.le_refl _) fo)
  clear hT
  go_enter Tryd.func8, Tryd.ntmps8
  go_wp2_with fail
  refine Calls.mono (HTOK.out s _ (Nat.le_refl _) (HT.out.below HB0.out)) ?_
  intro e w1 hret
  obtain ⟨v, x, a, rfl, hb, hf, hwd⟩ := toks_un hret
  clear hret
  have hF1 := keepL HF0.out hb
  have s1 : w.heap.size < w1.heap.size := lt_of_heap hF1
  have HF1 := Lib.hid hF1
  have HB1 := Lib.hid (HB0.out.trans (hb.mono (by simp)))
  have HFL := Lib.hid hf
  have HWD := Lib.hid (wd_less hwd (show w.heap.size + 1 ≤ (w.alloc fo).heap.size by simp))
  clear hf hwd hb hF1 HF0 HB0
  go_wp2_with fail
  go_loopw [0, 4, 6] (fun sv v p wr => ∃ (r : ByteArray) (x' a' : Int) (g : Nat), sv = .string r ∧ p = ptr g ∧ Hid (Chain s r) ∧ r.size ≤ s.size ∧ Hid (w1.heap.size < g) ∧ Hid (wr.heap[g]? = some (.cells #[.int .i64 x', .int .i64 a'] 28)) ∧ Hid (wr.heap[w.heap.size]? = some fo) ∧ Hid (wr.heap[w1.heap.size]? = some (.cells #[.int .i64 x, .int .i64 a] 28)) ∧ Hid (Below w.heap.size w wr) ∧ Hid (FlOf (toks r 0) x' a') ∧ Hid (WdOf (toks r 0) wr (w.heap.size + 1) v)) (fun sv _ _ _ => szOf sv)
  case atStart =>
    refine ⟨s, x, a, w1.heap.size + 1, rfl, rfl, .inl rfl, Nat.le_refl _, Nat.lt_succ_self _, ?_, ?_, ?_, ?_, HFL.out, ?_⟩
    · have := heap_new (w1.alloc (.cells #[.int .i64 x, .int .i64 a] 28)) (.cells #[.int .i64 x, .int .i64 a] 28)
      rw [show (w1.alloc (.cells #[.int .i64 x, .int .i64 a] 28)).heap.size = w1.heap.size + 1 by simp] at this
      exact this
    · exact keepL HF1.out (((Below.refl _ _).alloc (Nat.le_refl _) _).alloc (by simp) _)
    · exact keepL (heap_new w1 _) ((Below.refl _ _).alloc (Nat.le_refl _) _)
    · exact (HB1.out.alloc (by omega) _).alloc (by simp; omega) _
    · exact wd_below HWD.out (((Below.refl _ _).alloc (Nat.le_refl _) _).alloc (by simp) _)
  case round =>
    obtain ⟨r, x', a', g, rfl, rfl, HC, hrs, HG, HFG, HF, HFX, HB, HFR, HWR⟩ := hrel
    cases hr : toks r 0 with
    | ok l =>
      have h1 : x' = 0 ∧ a' = 0 := by have := HFR.out; rw [hr] at this; exact this
      obtain ⟨rfl, rfl⟩ := h1
      obtain ⟨Av, kv, hv, hk⟩ := HWR.out l hr
      subst hv
      have HA := Lib.hid (HC.out.fin hr)
      obtain ⟨q0, q1, q2, q3⟩ := blk2 HFG.out
      obtain ⟨p0, p1, p2, p3⟩ := blk2 HF.out
      obtain ⟨m0, m1, m2, m3⟩ := blk2 HFX.out
      have HK := Lib.hid hk
      clear HWR HFR HC hk
      have hs0 := lt_of_heap HF.out
      generalize hn : l.length = nl at *
      go_wp2_with fail
      go_region
      all_goals (
        go_wp2_with fail
        refine bodyPost_ret (v := .tuple #[.slice Av nl kv, fv x a]) ?_ rfl ⟨Av, l, kv, x, a, by rw [hn], ?_, ?_, HA.out, HFL.out⟩
        · rw [results_tc rfl]; go_simp
        · have hk := HK.out
          rw [hn]
          refine Tk.less (B := w.heap.size + 1) ?_ (by omega)
          repeat' (first | with_reducible exact hk | with_reducible refine Tk.drew1 ?_ | with_reducible refine Tk.set1 ?_ (by omega) _ _)
        · have hbw := HB.out
          repeat' (first | with_reducible exact hbw | with_reducible refine Below.drew ?_ | with_reducible refine Below.setCell ?_ ?_ _ | (simp; done) | (simp; omega)))
    | error f =>
      obtain ⟨er, q⟩ := f
      have h1 : x' = er ∧ a' = (q : Int) ∧ er ≠ 0 := by have := HFR.out; rw [hr] at this; exact this
      obtain ⟨rfl, rfl, hne⟩ := h1
      have en : (x' != 0) = true := by simpa using hne
      obtain ⟨q0, q1, q2, q3⟩ := blk2 HFG.out
      obtain ⟨hq, hstep⟩ := HC.out.step hr
      have hzq : (r.extract 0 q).size = q := (pre_extract r (q := q) (by omega)).2
      have HC2 := Lib.hid (hstep _ (pre_extract r (q := q) (by omega)).1 hzq)
      have s2 := lt_of_heap HFG.out
      have s3 := lt_of_heap HF.out
      have s4 := lt_of_heap HFX.out
      clear HC hstep HWR HFR hr
      go_wp2_with fail
      refine Calls.mono (HTOK.out (r.extract 0 q) wr (by omega) (HT.out.below (HB.out))) ?_
      intro e w2 hret
      obtain ⟨v2, x2, a2, rfl, hb2, hf2, hwd2⟩ := toks_un hret
      clear hret
      have HFL2 := Lib.hid hf2
      have HWD2 := Lib.hid hwd2
      have HF2 := Lib.hid (keepL HF.out hb2)
      have HFX2 := Lib.hid (keepL HFX.out hb2)
      have hFG2 := keepL HFG.out hb2
      have HB2 := Lib.hid (HB.out.trans (hb2.mono (by omega)))
      have hbs := hb2.size
      obtain ⟨n0, n1, n2, n3⟩ := blk2 hFG2
      have HFG2 := Lib.hid hFG2
      clear hf2 hwd2 hFG2 hb2 q0 q1 q2 q3 HF HFX HFG HB
      go_wp2_with fail
      go_roundw
      case rel =>
        have hG := HG.out
        have hlt : w2.heap.size = ((w2.setCell ⟨g, 0, none⟩ (.int .i64 x2)).setCell ⟨g, 1, none⟩ (.int .i64 a2)).heap.size := by simp
        have ks : ∀ {y : Nat} {o : Obj}, w2.heap[y]? = some o → y ≠ g → (((w2.setCell ⟨g, 0, none⟩ (.int .i64 x2)).setCell ⟨g, 1, none⟩ (.int .i64 a2)).alloc (.cells #[.int .i64 x2, .int .i64 a2] 28)).heap[y]? = some o := fun h1 h2 => keepL (keepB (keepB h1 (Ex.one g w2 0 _) h2) (Ex.one g _ 1 _) h2) ((Below.refl _ _).alloc (Nat.le_refl _) _)
        have hnew := heap_new ((w2.setCell ⟨g, 0, none⟩ (.int .i64 x2)).setCell ⟨g, 1, none⟩ (.int .i64 a2)) (.cells #[.int .i64 x2, .int .i64 a2] 28)
        rw [← hlt] at hnew
        refine ⟨r.extract 0 q, x2, a2, w2.heap.size, rfl, rfl, HC2.out, by omega, ?_, hnew, ks HF2.out (by omega), ks HFX2.out (by omega), ?_, HFL2.out, ?_⟩
        · show w1.heap.size < w2.heap.size
          omega
        · exact ((HB2.out.setCell (p := ⟨g, 0, none⟩) (show w.heap.size ≤ g by omega) _).setCell (p := ⟨g, 1, none⟩) (show w.heap.size ≤ g by omega) _).alloc (by simp; omega) _
        · exact wd_below (wd_less (wd_set (wd_set HWD2.out (by omega) 0 _) (by omega) 1 _) (by omega)) ((Below.refl _ _).alloc (Nat.le_refl _) _)
      case measure => show (r.extract 0 q).size < r.size; omega
end Go.Proofs.YtceeimolfalmpaaDoor

namespace Go.Proofs.YtceeimolfalmpaaDoor
open Go.RowKit ObUtf ObSets ObLex

theorem run_snoc {s : ByteArray} {t : T} {j : Nat} : ∀ {l : List T} {i p : Nat}, Run s i l p → p < s.size → word s p = .ok (t, j) → p < j → Run s i (l ++ [t]) j
  | [], i, p, h, hp, hw, hj => by
    have h : p = i := h
    subst h
    exact ⟨hp, j, hw, hj, rfl⟩
  | x :: l, i, p, h, hp, hw, hj => by
    obtain ⟨hi, k, hv, hik, hr⟩ := h
    exact ⟨hi, k, hv, hik, run_snoc hr hp hw hj⟩
end Go.Proofs.YtceeimolfalmpaaDoor

namespace ObLex
open ObUtf ObSets Go.Lib
open Go.Proofs.YtceeimolfalmpaaDoor (toks_bad toks_ok toks_end word_next)

theorem braces_kind {s : ByteArray} {i : Nat} {k a b : Int} {j : Nat} (h : braces s i = .ok (k, a, b, j)) : k = 6 ∨ k = 7 := by
  have key : ∀ {x a' b' : Int} {j' : Nat}, (Except.ok (x, a', b', j') : Res (Int × Int × Int × Nat)) = .ok (k, a, b, j) → x = k := fun g => by injection g with g; injection g
  revert h
  unfold braces
  dsimp only
  repeat' split
  all_goals (intro h; first | (have := key h; omega) | cases h)
theorem word_kind {s : ByteArray} {i : Nat} {t : T} {j : Nat} (h : word s i = .ok (t, j)) : 1 ≤ t.kind ∧ t.kind ≤ 9 := by
  have key : ∀ {x : T} {j' : Nat}, (Except.ok (x, j') : Res (T × Nat)) = .ok (t, j) → x = t := fun g => by injection g with g; injection g
  unfold word at h
  dsimp only at h
  by_cases h1 : bt s i = 92
  · rw [if_pos h1] at h
    cases he : esc s i with
    | bad e => rw [he] at h; cases h
    | one x n => rw [he] at h; have := key h; subst this; dsimp only; omega
    | many l => rw [he] at h; have := key h; subst this; dsimp only; omega
  · rw [if_neg h1] at h
    by_cases h2 : bt s i = 91
    · rw [if_pos h2] at h
      cases hc : cls s i with
      | error f => rw [hc] at h; cases h
      | ok y => obtain ⟨l, j'⟩ := y; rw [hc] at h; have := key h; subst this; dsimp only; omega
    · rw [if_neg h2] at h
      by_cases h3 : bt s i = 123
      · rw [if_pos h3] at h
        cases hc : braces s i with
        | error f => rw [hc] at h; cases h
        | ok y => obtain ⟨k, a, b, j'⟩ := y; rw [hc] at h; have := key h; have := braces_kind hc; subst t; dsimp only; omega
      · rw [if_neg h3] at h
        by_cases h4 : bt s i = 93 ∨ bt s i = 125
        · rw [if_pos h4] at h; cases h
        · rw [if_neg h4] at h
          revert h
          repeat' split
          all_goals (intro h; have := key h; subst this; dsimp only; omega)
theorem Run.kinds {s : ByteArray} : ∀ {l : List T} {i p : Nat}, Run s i l p → ∀ t ∈ l, 1 ≤ t.kind ∧ t.kind ≤ 9
  | [], i, p, h, t, ht => by cases ht
  | x :: l, i, p, h, t, ht => by
    obtain ⟨hi, j, hv, _, hr⟩ := h
    rcases List.mem_cons.1 ht with rfl | ht
    · exact word_kind hv
    · exact Run.kinds hr t ht
theorem Run.many {s : ByteArray} : ∀ {l : List T} {i p : Nat}, Run s i l p → i + l.length ≤ p
  | [], i, p, h => by have h : p = i := h; subst h; simp
  | x :: l, i, p, h => by
    obtain ⟨hi, j, hv, hij, hr⟩ := h
    have := Run.many hr
    simp
    omega
theorem toks_good : ∀ {s : ByteArray} (n i : Nat) (l : List T), s.size - i ≤ n → toks s i = .ok l → l.length ≤ s.size - i ∧ ∀ t ∈ l, 1 ≤ t.kind ∧ t.kind ≤ 9
  | s, n, i, l, hn, h => by
    rcases Nat.lt_or_ge i s.size with hi | hi
    · cases hv : word s i with
      | error g => rw [toks_bad hi hv] at h; cases h
      | ok p =>
        obtain ⟨x, j⟩ := p
        have hij := (word_next hi hv).1
        rw [toks_ok hi hv] at h
        cases n with
        | zero => omega
        | succ n =>
          cases hj : toks s j with
          | error g => rw [hj] at h; cases h
          | ok m =>
            rw [hj] at h
            have hl : [x] ++ m = l := by injection h
            subst hl
            obtain ⟨h1, h2⟩ := toks_good n j m (by omega) hj
            refine ⟨by simp; omega, fun t ht => ?_⟩
            rcases List.mem_cons.1 ht with rfl | ht
            · exact word_kind hv
            · exact h2 t ht
    · rw [toks_end hi] at h
      have hl : [] = l := by injection h
      subst hl
      exact ⟨Nat.zero_le _, fun t ht => by cases ht⟩
theorem Ahead.good {s : ByteArray} {l : List T} (h : Ahead s l) : l.length ≤ s.size ∧ ∀ t ∈ l, 1 ≤ t.kind ∧ t.kind ≤ 9 := by
  rcases h with h | ⟨e, q, p, _, h2, _, h4, _⟩
  · exact toks_good _ 0 l (Nat.le_refl _) h
  · have := h2.many
    exact ⟨by omega, h2.kinds⟩
end ObLex
