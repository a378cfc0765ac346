/-
  What parse.Parse answers. Conditions: the text has at most 1000 bytes; the two tables of unicode/utf8 lie as their text lays them.
-/
import Derived.Test.YtceeimolfalmpaaDoorPY
import Derived.Test.YtceeimolfalmpaaDoorQY
import Derived.Test.YtceeimolfalmpaaDoorE1
namespace Go.Proofs.YtceeimolfalmpaaDoor.T
open Go.RowKit ObUtf ObSets ObTree ObParse
open Go.Proofs.YtceeimolfalmpaaDoor (tv fv fo Tr Tk FlOf RetO words_any)

theorem wr_tr {w : World} {B : Nat} {A : Option Addr} {l : List ObLex.T} (h : Tr w A l) (hB : w.heap.size ≤ B) : Wr w B A l := fun j t ht => by
  have hne : l ≠ [] := fun e => by subst e; cases ht
  obtain ⟨b, off, e, hlt, hc⟩ := h hne
  obtain ⟨As, ks, c0, c1, c2, c3, c4, hr⟩ := hc j t ht
  refine ⟨b, off, As, ks, e, by omega, ⟨c0, c1, c2, c3, c4⟩, fun hn => ?_⟩
  obtain ⟨b', off', e', hb', hc'⟩ := hr hn
  exact ⟨b', off', e', by omega, hc'⟩
theorem wr_up {w : World} {B B' : Nat} {A : Option Addr} {l : List ObLex.T} (h : Wr w B A l) (hB : B ≤ B') : Wr w B' A l := fun j t ht => by
  obtain ⟨b, off, As, ks, e, hlt, hc, hr⟩ := h j t ht
  refine ⟨b, off, As, ks, e, by omega, hc, fun hn => ?_⟩
  obtain ⟨b', off', e', hb', hc'⟩ := hr hn
  exact ⟨b', off', e', by omega, hc'⟩
theorem blk1a {w : World} {r : Nat} {a : Value} {t : TypeId} (h : w.heap[r]? = some (.cells #[a] t (0, 0))) : w.cell? ⟨r, 0, none⟩ = some a ∧ w.frozen? ⟨r, 0, none⟩ = false := ⟨by simp [World.cell?, h], by simp [World.frozen?, h]⟩
theorem keep1 {w : World} {a q : Addr} {u v x : Value} (ha : w.cell? a = some u) (hq : w.cell? q = some x) (hne : a = q → x = v) : (w.setCell a v).cell? q = some x := by
  by_cases e : a = q
  · subst e
    rw [World.cell?_setCell_same _ _ _ ha, hne rfl]
  · rw [World.cell?_setCell_other _ _ _ _ e]; exact hq
theorem nk_ret {w : World} {B r0 r1 : Nat} {v : Value} {L : List Nd} (h : Nk w B v L) (h0 : w.heap[r0]? = some (.cells #[.slice none 0 0] 25)) (h1 : w.heap[r1]? = some fo) (hr : r0 ≠ r1) (l0 : r0 < B) (l1 : r1 < B) (u : Value) : Nk (((w.setCell ⟨r0, 0, none⟩ u).setCell ⟨r1, 0, none⟩ (.int .i64 0)).setCell ⟨r1, 1, none⟩ (.int .i64 0)) B v L := by
  obtain ⟨t0, _⟩ := blk1a h0
  obtain ⟨f0, f1, _, _⟩ := blk2 h1
  have n0 : ∀ k, (⟨r0, 0, none⟩ : Addr) ≠ ⟨r1, k, none⟩ := fun k e => hr (by injection e)
  have m0 := keep1 (v := u) t0 f0 (fun e => absurd e (n0 0))
  have m1 := keep1 (v := u) t0 f1 (fun e => absurd e (n0 1))
  have m2 := keep1 (v := .int .i64 0) m0 m1 (fun e => by injection e with _ e; cases e)
  have key : ∀ (q : Addr) (z : Int), w.cell? q = some (.int .i64 z) → (((w.setCell ⟨r0, 0, none⟩ u).setCell ⟨r1, 0, none⟩ (.int .i64 0)).setCell ⟨r1, 1, none⟩ (.int .i64 0)).cell? q = some (.int .i64 z) := fun q z hq => by
    have k0 := keep1 (v := u) t0 hq (fun e => by subst e; rw [t0] at hq; cases hq)
    have k1 := keep1 (v := .int .i64 0) m0 k0 (fun e => by subst e; rw [m0] at k0; injection k0 with k0; exact k0.symm)
    exact keep1 (v := .int .i64 0) m2 k1 (fun e => by subst e; rw [m2] at k1; injection k1 with k1; exact k1.symm)
  obtain ⟨M, e, hown, hs⟩ := h
  refine ⟨M, e, own_ex (own_ex (own_ex hown (Ex.one r0 w 0 u) l0) (Ex.one r1 _ 0 _) l1) (Ex.one r1 _ 1 _) l1, fun p hp => ?_⟩
  obtain ⟨As, ks, e2, hrg⟩ := hs p hp
  refine ⟨As, ks, e2, fun hn => ?_⟩
  obtain ⟨b, off, e3, hb, hc⟩ := hrg hn
  exact ⟨b, off, e3, hb, fun j r hj => ⟨key _ _ (hc j r hj).1, key _ _ (hc j r hj).2⟩⟩
abbrev tree0 : Value := .agg #[.slice none 0 0]
/-- What Parse hands back. -/
def RetPs (s : ByteArray) (w : World) (e : Ending) (w' : World) : Prop :=
  ∃ W x a, ObLex.Ahead s W ∧ FlOf (ObLex.toks s 0) x a ∧ Below w.heap.size w w' ∧
    match fin W with
    | .error (some (er, q)) => e = .returned (.tuple #[tree0, fv er q])
    | .error none => e = .returned (.tuple #[tree0, if x = 0 then fv 4 (s.size : Int) else fv x a])
    | .ok s' => if x = 0 then ∃ A c B, e = .returned (.tuple #[.agg #[.slice A s'.L.length c], fv 0 0]) ∧ w.heap.size ≤ B ∧ B ≤ w'.heap.size ∧ Nk w' B (.slice A s'.L.length c) s'.L else e = .returned (.tuple #[tree0, fv x a])
set_option maxHeartbeats 2000000 in
set_option maxRecDepth 100000 in
theorem parse_any (s : ByteArray) (w : World) (hT : U.Tb w) (hs : s.size ≤ 1000) : Calls Tryd.prog 5 #[.string s] w (RetPs s w) := by
  have HT := Lib.hid hT
  clear hT
  have HWO := Lib.hid (fun (W : World) (hW : U.Tb W) => words_any s W hW (by omega))
  go_enter Tryd.func5, Tryd.ntmps5
  go_wp2_with fail
  refine Calls.mono (HWO.out _ (HT.out.below (((Below.refl _ w).alloc (Nat.le_refl _) _).alloc (by simp) _))) ?_
  rintro e w1 ⟨A, l, k, x, a, rfl, hk, hb, ha, hf⟩
  have hb0 : Below w.heap.size w ((w.alloc (.cells #[.slice none 0 0] 25)).alloc fo) := ((Below.refl _ w).alloc (Nat.le_refl _) _).alloc (by simp) _
  have hT0 : w1.heap[w.heap.size]? = some (.cells #[.slice none 0 0] 25) := keepL (keepL (heap_new w _) ((Below.refl _ _).alloc (Nat.le_refl _) fo)) hb
  have hF0 : w1.heap[w.heap.size + 1]? = some fo := by
    have h1 := heap_new (w.alloc (.cells #[.slice none 0 0] 25)) fo
    rw [show (w.alloc (.cells #[.slice none 0 0] 25)).heap.size = w.heap.size + 1 by simp] at h1
    exact keepL h1 hb
  have hsz : w.heap.size + 2 ≤ w1.heap.size := by have := hb.size; simp at this; omega
  have hB1 : Below w.heap.size w w1 := hb0.trans (hb.mono (by simp; omega))
  have hgood := ha.good
  have hlen : l.length ≤ 1000 := by have := hgood.1; omega
  have HGOOD := Lib.hid hgood.2
  have HA := Lib.hid ha; have HFL := Lib.hid hf
  obtain ⟨W2, hW2⟩ : ∃ W2, W2 = (w1.alloc (.cells #[.int .i64 x, .int .i64 a] 28)).alloc (rdO A l.length k 0 (.slice none 0 0) (.int .i64 0) (.int .i64 0) (.int .i64 0) (.int .i64 0)) := ⟨_, rfl⟩
  have HSTT : Hid (Stt W2 (w1.heap.size + 1) A k l ⟨0, [], 0⟩ 0) := by
    refine Lib.hid ⟨⟨none, 0, ?_, ⟨Nk.nil _ _, fun g h => by cases h⟩, ?_, Nat.zero_le _⟩, Nat.zero_le _⟩
    · subst hW2
      have h1 := heap_new (w1.alloc (.cells #[.int .i64 x, .int .i64 a] 28)) (rdO A l.length k 0 (.slice none 0 0) (.int .i64 0) (.int .i64 0) (.int .i64 0) (.int .i64 0))
      rw [show (w1.alloc (.cells #[.int .i64 x, .int .i64 a] 28)).heap.size = w1.heap.size + 1 by simp] at h1
      exact h1
    · subst hW2
      exact wr_up ((wr_tr (Tk.reads hk) (Nat.le_refl _)).below (((Below.refl _ _).alloc (Nat.le_refl _) _).alloc (by simp) _)) (Nat.le_succ _)
  have HC2 : Hid (W2.heap[w1.heap.size]? = some (.cells #[.int .i64 x, .int .i64 a] 28)) := by
    subst hW2
    exact Lib.hid (keepL (heap_new w1 _) ((Below.refl _ _).alloc (Nat.le_refl _) _))
  have HB2 : Hid (Below w1.heap.size w1 W2) := by
    subst hW2
    exact Lib.hid (((Below.refl _ _).alloc (Nat.le_refl _) _).alloc (by simp) _)
  have HT1 := Lib.hid (keepL hT0 HB2.out)
  have HF1 := Lib.hid (keepL hF0 HB2.out)
  have HB1 := Lib.hid hB1
  generalize hn : l.length = n at *
  go_wp2_with fail
  rw [← hW2]
  refine Calls.mono (whole_any HSTT.out HGOOD.out (by omega)) ?_
  rintro e w2 ⟨rfl, hb2, hok, her⟩
  have HT2 := Lib.hid ((hb2.block _ (by omega)).trans HT1.out)
  have HF2 := Lib.hid ((hb2.block _ (by omega)).trans HF1.out)
  have HC3 := Lib.hid ((hb2.block _ (by omega)).trans HC2.out)
  have HBW := Lib.hid ((HB1.out.trans (HB2.out.mono (by omega))).trans (hb2.mono (by omega)))
  obtain ⟨t0, t1⟩ := blk1a HT2.out
  obtain ⟨f0, f1, f2, f3⟩ := blk2 HF2.out
  obtain ⟨g0, g1, g2, g3⟩ := blk2 HC3.out
  have hs1 := lt_of_heap HC3.out
  clear HSTT hW2 hb2 HC2 HT1 HF1 HB1 HB2 hT0 hF0 hk hb hb0 hgood HWO ha hf hB1
  cases hfin : fin l with
  | error er =>
    have hj := her er hfin
    clear hok her
    obtain ⟨A2, c2, n2, l2, o2, cp2, e2, f2', hl2, hn2, hblk, hnds, hwr, hsome, hnone⟩ := hj
    obtain ⟨⟨b0, b1, b2, b3, b4, b5, b6⟩, bf⟩ := blk7 hblk
    have HBLK := Lib.hid hblk
    clear hnds hwr hblk
    cases er with
    | some y =>
      obtain ⟨er, q⟩ := y
      obtain ⟨rfl, rfl, hne⟩ := hsome _ rfl
      have en : (e2 != 0) = true := by simpa using hne
      have HFIN := Lib.hid hfin
      clear hsome hnone hfin hl2
      go_wp2_with fail
      go_region
      all_goals (
        go_wp2_with fail
        refine bodyPost_ret (v := .tuple #[tree0, fv e2 f2']) ?_ rfl ⟨l, x, a, HA.out, HFL.out, ?_, ?_⟩
        · rw [results_cc rfl]; go_simp
        · repeat' (first | with_reducible exact HBW.out | with_reducible refine Below.drew ?_ | with_reducible refine Below.setCell ?_ ?_ _ | (simp; done) | (simp; omega))
        · rw [HFIN.out])
    | none =>
      obtain ⟨rfl, ho⟩ := hnone rfl
      have HFIN := Lib.hid hfin
      clear hsome hnone hfin hl2
      by_cases hx : x = 0
      · subst hx
        have ho1 : (0 : Int) < (o2 : Int) := by omega
        have ho2 : decide ((0 : Int) < (o2 : Int)) = true := decide_eq_true ho1
        go_wp2_with fail
        refine bodyPost_ret (v := .tuple #[tree0, fv 4 (s.size : Int)]) ?_ rfl ⟨l, 0, a, HA.out, HFL.out, ?_, ?_⟩
        · rw [results_cc rfl]; go_simp
        · repeat' (first | with_reducible exact HBW.out | with_reducible refine Below.drew ?_ | with_reducible refine Below.setCell ?_ ?_ _ | (simp; done) | (simp; omega))
        · rw [HFIN.out]; dsimp only; rw [if_pos rfl]
      · have en : (x != 0) = true := by simpa using hx
        go_wp2_with fail
        go_region
        all_goals (
          go_wp2_with fail
          refine bodyPost_ret (v := .tuple #[tree0, fv x a]) ?_ rfl ⟨l, x, a, HA.out, HFL.out, ?_, ?_⟩
          · rw [results_cc rfl]; go_simp
          · repeat' (first | with_reducible exact HBW.out | with_reducible refine Below.drew ?_ | with_reducible refine Below.setCell ?_ ?_ _ | (simp; done) | (simp; omega))
          · rw [HFIN.out]; dsimp only; rw [if_neg hx])
  | ok s' =>
    obtain ⟨⟨A2, c2, hblk, hnds, hwr, hk2⟩, hcap⟩ := hok s' hfin
    obtain ⟨⟨b0, b1, b2, b3, b4, b5, b6⟩, bf⟩ := blk7 hblk
    have b3z : w2.cell? ⟨w1.heap.size + 1, 3, none⟩ = some (.int .i64 0) := b3
    have HBLK := Lib.hid hblk
    have HNDS := Lib.hid hnds
    have HFIN := Lib.hid hfin
    clear hok her hwr hblk hnds hcap hfin b3 hk2
    by_cases hx : x = 0
    · subst hx
      go_wp2_with fail
      have hls := lt_of_heap HBLK.out
      have HNK := Lib.hid (nk_ret HNDS.out.1 HT2.out HF2.out (by omega) (by omega) (by omega) (.slice A2 s'.L.length c2))
      refine bodyPost_ret (v := .tuple #[.agg #[.slice A2 s'.L.length c2], fv 0 0]) ?_ rfl ⟨l, 0, a, HA.out, HFL.out, ?_, ?_⟩
      · rw [results_cc rfl]; go_simp
      · repeat' (first | with_reducible exact HBW.out | with_reducible refine Below.drew ?_ | with_reducible refine Below.setCell ?_ ?_ _ | (simp; done) | (simp; omega))
      · rw [HFIN.out]; dsimp only; rw [if_pos rfl]; exact ⟨A2, c2, w1.heap.size + 1, rfl, by omega, by simp; omega, HNK.out⟩
    · have en : (x != 0) = true := by simpa using hx
      go_wp2_with fail
      go_region
      all_goals (
        go_wp2_with fail
        refine bodyPost_ret (v := .tuple #[tree0, fv x a]) ?_ rfl ⟨l, x, a, HA.out, HFL.out, ?_, ?_⟩
        · rw [results_cc rfl]; go_simp
        · repeat' (first | with_reducible exact HBW.out | with_reducible refine Below.drew ?_ | with_reducible refine Below.setCell ?_ ?_ _ | (simp; done) | (simp; omega))
        · rw [HFIN.out]; dsimp only; rw [if_neg hx])
end Go.Proofs.YtceeimolfalmpaaDoor.T
