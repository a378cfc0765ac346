/-
  A reader that has stopped goes through a cat and an alt; the way into a group (parse). Conditions: as written.
  Groups: the way into one, what stands within, a group with a number (parse); what reads an alt within one more open group is told by its contract. Conditions: as written.
  A group with a number; reps one behind the other (cat), cats with bars between them (alt), each told by its parts' contracts (parse). Conditions: as written.
  Reps one behind the other (cat), cats with bars between them (alt), at every depth of groups: what the reader's alt answers and leaves (parse). Conditions: at most 1000 words of kinds 1 to 9.
  What the reader's alt answers and leaves, with any number of groups open (parse). Conditions: at most 1000 words, each of a kind from 1 to 9.
  All words of a pattern gone through (whole, parse). Conditions: at most 1000 words, each of a kind from 1 to 9.
-/
import Derived.Test.YtceeimolfalmpaaDoorQZ
import Derived.Test.YtceeimolfalmpaaDoorL17
namespace Go.Proofs.YtceeimolfalmpaaDoor.T
open Go.RowKit ObSets ObTree ObParse
open Go.Proofs.YtceeimolfalmpaaDoor (tv fv)

theorem ent103 (b : Nat) (W : World) : (callFunc 15 #[ptr b]).run Tryd.prog W = .ok (.enter 15 #[ptr b]) W := run_enter Tryd.func15 (by kernel_rfl) (by kernel_rfl) _ W
theorem ent104 (b : Nat) (W : World) : (callFunc 16 #[ptr b]).run Tryd.prog W = .ok (.enter 16 #[ptr b]) W := run_enter Tryd.func16 (by kernel_rfl) (by kernel_rfl) _ W
theorem ent140 (b : Nat) (W : World) : (callFunc 27 #[ptr b]).run Tryd.prog W = .ok (.enter 27 #[ptr b]) W := run_enter Tryd.func27 (by kernel_rfl) (by kernel_rfl) _ W
theorem ent141 (b : Nat) (W : World) : (callFunc 28 #[ptr b]).run Tryd.prog W = .ok (.enter 28 #[ptr b]) W := run_enter Tryd.func28 (by kernel_rfl) (by kernel_rfl) _ W
theorem ent177 (b : Nat) (W : World) : (callFunc 61 #[ptr b]).run Tryd.prog W = .ok (.enter 61 #[ptr b]) W := run_enter Tryd.func61 (by kernel_rfl) (by kernel_rfl) _ W
theorem ent178 (b : Nat) (W : World) : (callFunc 62 #[ptr b]).run Tryd.prog W = .ok (.enter 62 #[ptr b]) W := run_enter Tryd.func62 (by kernel_rfl) (by kernel_rfl) _ W
theorem ent179 (b : Nat) (W : World) : (callFunc 63 #[ptr b]).run Tryd.prog W = .ok (.enter 63 #[ptr b]) W := run_enter Tryd.func63 (by kernel_rfl) (by kernel_rfl) _ W
theorem ent180 (b : Nat) (W : World) : (callFunc 64 #[ptr b]).run Tryd.prog W = .ok (.enter 64 #[ptr b]) W := run_enter Tryd.func64 (by kernel_rfl) (by kernel_rfl) _ W
theorem ent181 (b : Nat) (W : World) : (callFunc 65 #[ptr b]).run Tryd.prog W = .ok (.enter 65 #[ptr b]) W := run_enter Tryd.func65 (by kernel_rfl) (by kernel_rfl) _ W
section
variable {w : World} {b : Nat} {Aw : Option Addr} {cw : Nat} {W : List ObLex.T} {s : St} {o : Nat} {er : Er} {m : Nat}
set_option maxHeartbeats 2000000 in
set_option maxRecDepth 100000 in
theorem jnk_cat (h : Jnk w b Aw cw W er m) (hm : m ≤ 40000) : Calls Tryd.prog 15 #[ptr b] w (RetJ b Aw cw W er (m + 1) w) := by
  have HK := Lib.hid (jnk_begins h)
  clear h
  go_enter Tryd.func15, Tryd.ntmps15
  go_wp2_with fail
  refine HK.out.mono ?_
  rintro e1 w1 ⟨rfl, hj1, hb1⟩
  have HK := Lib.hid (jnk_kind hj1)
  have HB := Lib.hid hb1
  clear hj1 hb1
  go_wp2_with fail
  refine HK.out.mono ?_
  rintro e2 w2 ⟨rfl, hj2, hb2⟩
  have HA := Lib.hid (jnk_add hj2 ⟨1, 0, 0, [], 0, 0, 0⟩ none 0 rfl hm)
  have HB := Lib.hid (HB.out.trans hb2)
  clear hj2 hb2
  go_wp2_with fail
  refine Calls.mono HA.out ?_
  rintro e3 w3 ⟨hb3, ⟨z, rfl⟩, hj3⟩
  have HJ := Lib.hid hj3
  have HB := Lib.hid (HB.out.trans hb3)
  clear hj3 hb3
  go_wp2_with fail
  go_ret
  exact ⟨HB.out, ⟨z, rfl⟩, HJ.out⟩
set_option maxHeartbeats 2000000 in
set_option maxRecDepth 100000 in
theorem jnk_row (h : Jnk w b Aw cw W er m) (hm : m ≤ 40000) : Calls Tryd.prog 14 #[ptr b, .int .i64 6, .func (.func 15) #[ptr b] #[], .func (.func 16) #[ptr b] #[]] w (RetJ b Aw cw W er (m + 1) w) := by
  have HK := Lib.hid (jnk_cat h hm)
  clear h
  go_enter Tryd.func14, Tryd.ntmps14
  go_wp2_with fail
  refine Calls.mono HK.out ?_
  rintro e1 w1 ⟨hb1, ⟨z, rfl⟩, hj1⟩
  have HM := Lib.hid (jnk_bar hj1)
  have HB := Lib.hid hb1
  clear hj1 hb1
  go_wp2_with fail
  go_loopw [9] (fun v wr => v = .int .i64 z ∧ wr = w1) (fun _ _ => 0)
  case atStart => exact ⟨rfl, rfl⟩
  case round =>
    obtain ⟨rfl, rfl⟩ := hrel
    go_wp2_with fail
    refine Calls.mono HM.out ?_
    rintro e2 w2 ⟨rfl, hj2, hb2⟩
    have HJ := Lib.hid hj2
    have HB := Lib.hid (HB.out.trans hb2)
    clear hj2 hb2
    go_wp2_with fail
    go_ret
    exact ⟨HB.out, ⟨z, rfl⟩, HJ.out⟩
set_option maxHeartbeats 2000000 in
set_option maxRecDepth 100000 in
theorem jnk_alt (h : Jnk w b Aw cw W er m) (hm : m ≤ 40000) : Calls Tryd.prog 11 #[ptr b] w (RetJ b Aw cw W er (m + 1) w) := by
  have HK := Lib.hid (jnk_row h hm)
  clear h
  go_enter Tryd.func11, Tryd.ntmps11
  go_wp2_with fail
  refine Calls.mono HK.out ?_
  rintro e1 w1 ⟨hb1, ⟨z, rfl⟩, hj1⟩
  have HJ := Lib.hid hj1
  have HB := Lib.hid hb1
  clear hj1 hb1
  go_wp2_with fail
  go_ret
  exact ⟨HB.out, ⟨z, rfl⟩, HJ.out⟩
theorem SttR.fail {t : ObLex.T} {why : Int} (h : SttR w b Aw cw W s o) (ht : W[s.k]? = some t) (hw : why ≠ 0) (hm : s.L.length ≤ m) :
    Calls Tryd.prog 12 #[ptr b, .int .i64 why] w fun e' w' => e' = .returned (.tuple #[]) ∧ Jnk w' b Aw cw W (some (why, t.at_)) m ∧ Below b w w' := by
  obtain ⟨A, c, h1, h2, h3, h4⟩ := h
  have hl := Nat.le_of_lt (lt_of_heap h1)
  refine (fail_any rfl h1 h3 ht).mono fun e' w' ⟨e, hb, hx⟩ => ?_
  have hbel := hx.below hl (Nat.le_refl _)
  exact ⟨e, ⟨A, c, _, _, o, s.caps, why, t.at_, rfl, hm, hb, h2.ex hx hl, h3.below hbel, fun q hq => by injection hq with hq; subst hq; exact ⟨rfl, rfl, hw⟩, fun hq => by cases hq⟩, hbel⟩
end
end Go.Proofs.YtceeimolfalmpaaDoor.T

namespace Go.Proofs.YtceeimolfalmpaaDoor.T
open Go.RowKit ObSets ObTree ObParse
open Go.Proofs.YtceeimolfalmpaaDoor (tv fv)

section
variable {w : World} {b : Nat} {Aw : Option Addr} {cw : Nat} {W : List ObLex.T} {s : St} {o : Nat} {er : Er} {m : Nat} {t : ObLex.T}
set_option maxHeartbeats 2000000 in
set_option maxRecDepth 100000 in
theorem enter_any (h : SttR w b Aw cw W s o) (ht : W[s.k]? = some t) (hW : W.length ≤ 1000) (ho : o ≤ 64) (hm : s.L.length ≤ m) :
    Calls Tryd.prog 71 #[ptr b] w fun e' w' => e' = .returned (.tuple #[]) ∧ Below b w w' ∧ (o = 64 → Jnk w' b Aw cw W (some (6, t.at_)) m) ∧ (o ≠ 64 → 99 < s.caps → Jnk w' b Aw cw W (some (7, t.at_)) m) ∧ (o ≠ 64 → s.caps ≤ 99 → Stt w' b Aw cw W (nxt s) (o + 1)) := by
  have HF6 := Lib.hid (h.fail ht (why := 6) (by decide) hm)
  have HF7 := Lib.hid (h.fail ht (why := 7) (by decide) hm)
  have HSP := Lib.hid h
  obtain ⟨A, c, h1, h2, h3, h4⟩ := h
  obtain ⟨⟨c0, c1, c2, c3, c4, c5, c6⟩, _⟩ := blk7 h1
  have HTA := Lib.hid (take_any rfl h1 h3 ht (by omega))
  have hl := Nat.le_of_lt (lt_of_heap h1)
  have hlt : s.k < W.length := (List.getElem?_eq_some_iff.1 ht).1
  have H2 := Lib.hid h2; have H3 := Lib.hid h3
  clear h1 h2 h3 h4 ht c0 c1 c2 c5 c6
  by_cases h64 : o = 64
  · subst h64
    go_enter Tryd.func71, Tryd.ntmps71
    go_wp2_with fail
    refine HF6.out.mono ?_
    rintro e1 w1 ⟨rfl, hj, hb⟩
    have HJ := Lib.hid hj; have HB := Lib.hid hb
    clear hj hb
    go_wp2_with fail
    refine bodyPost_end (results_none rfl _ _ _) rfl ?_
    exact ⟨rfl, HB.out, fun _ => HJ.out, fun h => absurd rfl h, fun h => absurd rfl h⟩
  · have e64 : ((o : Int) == 64) = false := beq_eq_false_iff_ne.2 (by omega)
    by_cases hc : 99 < s.caps
    · have d1 : decide (99 < s.caps) = true := decide_eq_true hc
      have d2 : decide ((99 : Int) < (s.caps : Int)) = true := decide_eq_true (by omega)
      go_enter Tryd.func71, Tryd.ntmps71
      go_wp2_with fail
      refine HF7.out.mono ?_
      rintro e1 w1 ⟨rfl, hj, hb⟩
      have HJ := Lib.hid hj; have HB := Lib.hid hb
      clear hj hb
      go_wp2_with fail
      refine bodyPost_end (results_none rfl _ _ _) rfl ?_
      exact ⟨rfl, HB.out, fun h => absurd h h64, fun _ _ => HJ.out, fun _ h => absurd hc (by omega)⟩
    · have d1 : decide (99 < s.caps) = false := decide_eq_false hc
      have d2 : decide ((99 : Int) < (s.caps : Int)) = false := decide_eq_false (by omega)
      have ew : IntKind.i64.wrap ((o : Int) + 1) = (o : Int) + 1 := IntWalk.i64_in _ (by omega)
      go_enter Tryd.func71, Tryd.ntmps71
      go_wp2_with fail
      refine HTA.out.mono ?_
      rintro e1 w1 ⟨As, ks, rfl, _, hb1, hx1⟩
      obtain ⟨⟨_, _, _, d3, _, _, _⟩, df⟩ := blk7 hb1
      have df3 := df 3
      have HB1 := Lib.hid hb1; have HX1 := Lib.hid hx1
      clear hb1 hx1 df c3 c4
      go_wp2_with fail
      refine bodyPost_end (results_none rfl _ _ _) rfl ?_
      have hx2 := HX1.out.setL 3 (.int .i64 ((o : Int) + 1))
      have hbel := hx2.below hl (Nat.le_refl _)
      refine ⟨rfl, hbel, fun h => absurd h h64, fun _ h => absurd h hc, fun _ _ => ⟨⟨A, c, ?_, H2.out.ex hx2 hl, H3.out.below hbel, ?_⟩, ?_⟩⟩
      · exact heap_set 3 (.int .i64 ((o : Int) + 1)) HB1.out
      · show s.k + 1 ≤ W.length; omega
      · show s.caps ≤ 99; omega
theorem Stt.done (h : Stt w b Aw cw W s (o + 1)) (hk : W.length ≤ s.k) (hm : s.L.length ≤ m) : Jnk w b Aw cw W none m := by
  obtain ⟨⟨A, c, h1, h2, h3, h4⟩, _⟩ := h
  have e : s.k = W.length := by omega
  rw [e] at h1
  exact ⟨A, c, _, _, o + 1, s.caps, 0, 0, rfl, hm, h1, h2, h3, ⟨fun q hq => (by cases hq), fun _ => ⟨rfl, Nat.succ_pos _⟩⟩⟩
/-- What stands between the word that opens a group and the one that closes it. -/
def inn (W : List ObLex.T) (al : St → PR) (o : Nat) (t : ObLex.T) (s : St) : PR :=
  if o = 64 then .error (some (6, t.at_)) else if 99 < s.caps then .error (some (7, t.at_)) else
  match al (nxt s) with
  | .error e => .error e
  | .ok (s', a) => if s'.k < W.length then .ok (nxt s', a) else .error none
set_option maxHeartbeats 4000000 in
set_option maxRecDepth 100000 in
theorem within_any {al : St → PR} (h : SttR w b Aw cw W s o) (ht : W[s.k]? = some t) (hW : W.length ≤ 1000) (ho : o ≤ 64) (hm : s.L.length ≤ m) (hmm : m ≤ 30000)
    (hA : o ≠ 64 → s.caps ≤ 99 → ∀ w, Stt w b Aw cw W (nxt s) (o + 1) → Calls Tryd.prog 11 #[ptr b] w (RetP b Aw cw W (o + 1) m (al (nxt s)) w))
    (hE : ∀ s' a, al (nxt s) = .ok (s', a) → s'.L.length ≤ m ∧ (s'.k < W.length → kd W s'.k = 4)) :
    Calls Tryd.prog 65 #[ptr b] w (RetP b Aw cw W o (m + 1) (inn W al o t s) w) := by
  obtain ⟨R, hR⟩ : ∃ R : PR, inn W al o t s = R := ⟨_, rfl⟩
  rw [hR]
  have HEN := Lib.hid (enter_any h ht hW ho hm)
  have HR := Lib.hid hR; have HA := Lib.hid hA; have HE := Lib.hid hE
  clear h hR hA hE
  -- where the reader stops at the way in
  have HJJ := Lib.hid (show ∀ (er : Er) w1, Jnk w1 b Aw cw W er m → Calls Tryd.prog 11 #[ptr b] w1 (RetJ b Aw cw W er (m + 1) w1) from fun er w1 h => jnk_alt h (by omega))
  have HJK := Lib.hid (show ∀ (er : Er) (m : Nat) w1, Jnk w1 b Aw cw W er m → Calls Tryd.prog 29 #[ptr b] w1 (fun e' w' => e' = .returned (.int .i64 0) ∧ Jnk w' b Aw cw W er m ∧ Below b w1 w') from fun er m w1 h => jnk_kind h)
  go_enter Tryd.func65, Tryd.ntmps65
  go_wp2_with fail
  refine HEN.out.mono ?_
  rintro e1 w1 ⟨rfl, hb1, h6, h7, hok⟩
  have HB1 := Lib.hid hb1
  clear hb1
  by_cases hbad : o = 64 ∨ 99 < s.caps
  · have hj : ∃ er, Jnk w1 b Aw cw W er m ∧ R = .error er := by
      by_cases h64 : o = 64
      · exact ⟨_, h6 h64, by rw [← HR.out]; unfold inn; rw [if_pos h64]⟩
      · have hc : 99 < s.caps := by omega
        exact ⟨_, h7 h64 hc, by rw [← HR.out]; unfold inn; rw [if_neg h64, if_pos hc]⟩
    obtain ⟨er, hj, hRe⟩ := hj
    have HRE := Lib.hid hRe
    have HC := Lib.hid (HJJ.out er w1 hj)
    clear h6 h7 hok hj hRe hbad
    go_wp2_with fail
    refine Calls.mono HC.out ?_
    rintro e2 w2 ⟨hb2, ⟨z, rfl⟩, hj2⟩
    have HC := Lib.hid (HJK.out er (m + 1) w2 hj2)
    have HB2 := Lib.hid (HB1.out.trans hb2)
    clear hb2 hj2
    go_wp2_with fail
    refine HC.out.mono ?_
    rintro e3 w3 ⟨rfl, hj3, hb3⟩
    have HJ := Lib.hid hj3
    have HB3 := Lib.hid (HB2.out.trans hb3)
    clear hb3 hj3
    go_wp2_with fail
    go_ret
    refine ⟨HB3.out, ⟨fun s' a' h => ?_, fun er' h => ?_⟩⟩
    · rw [HRE.out] at h; cases h
    · rw [HRE.out] at h; injection h with h; subst h; exact ⟨⟨z, rfl⟩, HJ.out⟩
  · have h64 : o ≠ 64 := fun h => hbad (.inl h)
    have hc : s.caps ≤ 99 := by omega
    have HC := Lib.hid (HA.out h64 hc w1 (hok h64 hc))
    have HRR := Lib.hid (show (match al (nxt s) with | .error e => .error e | .ok (s', a) => if s'.k < W.length then .ok (nxt s', a) else .error none) = R by rw [← HR.out]; unfold inn; rw [if_neg h64, if_neg (by omega)])
    clear h6 h7 hok hbad
    go_wp2_with fail
    refine Calls.mono HC.out ?_
    rintro e2 w2 ⟨hb2, hok, herr⟩
    have HB2 := Lib.hid (HB1.out.trans hb2)
    clear hb2
    cases hp : al (nxt s) with
    | error er =>
      obtain ⟨⟨z, rfl⟩, hj⟩ := herr er hp
      have HC := Lib.hid (HJK.out er m w2 hj)
      have HRE := Lib.hid (show R = .error er by rw [← HRR.out, hp])
      clear hok herr hj hp
      go_wp2_with fail
      refine HC.out.mono ?_
      rintro e3 w3 ⟨rfl, hj3, hb3⟩
      have HJ := Lib.hid hj3
      have HB3 := Lib.hid (HB2.out.trans hb3)
      clear hb3 hj3
      go_wp2_with fail
      go_ret
      refine ⟨HB3.out, ⟨fun s' a' h => ?_, fun er' h => ?_⟩⟩
      · rw [HRE.out] at h; cases h
      · rw [HRE.out] at h; injection h with h; subst h; exact ⟨⟨z, rfl⟩, HJ.out.below (Nat.le_succ _) (Below.refl _ _)⟩
    | ok p =>
      obtain ⟨s', a⟩ := p
      obtain ⟨rfl, hs⟩ := hok s' a hp
      obtain ⟨g1, g2⟩ := HE.out s' a hp
      have HC := Lib.hid (stt_kind hs)
      by_cases hlt : s'.k < W.length
      · have h4 := g2 hlt
        obtain ⟨t', ht'⟩ : ∃ t', W[s'.k]? = some t' := ⟨_, List.getElem?_eq_getElem hlt⟩
        have HT := Lib.hid ht'
        have HRE := Lib.hid (show R = .ok (nxt s', a) by rw [← HRR.out, hp]; dsimp only; rw [if_pos hlt])
        rw [h4] at HC
        clear hok herr hs hp h4 ht' g2
        go_wp2_with fail
        refine HC.out.mono ?_
        rintro e3 w3 ⟨rfl, hs3, hb3⟩
        have HTA := Lib.hid (stt_take hs3 HT.out hW)
        have HB3 := Lib.hid (HB2.out.trans hb3)
        clear hb3 hs3
        go_wp2_with fail
        refine HTA.out.mono ?_
        rintro e4 w4 ⟨As, ks, rfl, _, hs4, hb4⟩
        have HB4 := Lib.hid (HB3.out.trans hb4)
        obtain ⟨⟨A, c, k1, k2, k3, k4⟩, k5⟩ := hs4
        obtain ⟨⟨_, _, _, d3, _, _, _⟩, df⟩ := blk7 k1
        have df3 := df 3
        have ew : IntKind.i64.wrap ((o : Int) + 1 - 1) = (o : Int) := by rw [show (o : Int) + 1 - 1 = o by omega]; exact IntWalk.i64_in _ (by omega)
        have d3' : w4.cell? ⟨b, 3, none⟩ = some (.int .i64 ((o : Int) + 1)) := d3
        have hx := Ex.one b w4 3 (.int .i64 (o : Int))
        have hl := Nat.le_of_lt (lt_of_heap k1)
        have hbel := hx.below hl (Nat.le_refl _)
        have HS := Lib.hid (show Stt (w4.setCell ⟨b, 3, none⟩ (.int .i64 (o : Int))) b Aw cw W (nxt s') o from ⟨⟨A, c, heap_set 3 (.int .i64 (o : Int)) k1, k2.ex hx hl, k3.below hbel, k4⟩, k5⟩)
        have HB5 := Lib.hid (HB4.out.trans hbel)
        clear k1 k2 k3 k4 k5 df hb4 hx hbel d3
        go_wp2_with fail
        go_ret
        refine ⟨HB5.out, ⟨fun s2 a2 h => ?_, fun er' h => ?_⟩⟩
        · rw [HRE.out] at h; injection h with h; injection h with h1 h2; subst h1 h2; exact ⟨rfl, HS.out⟩
        · rw [HRE.out] at h; cases h
      · have h0 : kd W s'.k = 0 := kd_out (by omega)
        have HRE := Lib.hid (show R = .error none by rw [← HRR.out, hp]; dsimp only; rw [if_neg hlt])
        rw [h0] at HC
        clear hok herr hs hp h0 g2
        go_wp2_with fail
        refine HC.out.mono ?_
        rintro e3 w3 ⟨rfl, hs3, hb3⟩
        have HJ := Lib.hid (hs3.done (by omega) (m := m + 1) (by omega))
        have HB3 := Lib.hid (HB2.out.trans hb3)
        clear hb3 hs3
        go_wp2_with fail
        go_ret
        refine ⟨HB3.out, ⟨fun s2 a2 h => ?_, fun er' h => ?_⟩⟩
        · rw [HRE.out] at h; cases h
        · rw [HRE.out] at h; injection h with h; subst h; exact ⟨⟨_, rfl⟩, HJ.out⟩
end
end Go.Proofs.YtceeimolfalmpaaDoor.T

namespace Go.Proofs.YtceeimolfalmpaaDoor.T
open Go.RowKit ObSets ObTree ObParse
open Go.Proofs.YtceeimolfalmpaaDoor (tv fv)

section
variable {w : World} {b : Nat} {Aw : Option Addr} {cw : Nat} {W : List ObLex.T} {s : St} {o : Nat} {er : Er} {m M : Nat} {t : ObLex.T}
theorem RetP.more {r : PR} {e : Ending} {w' : World} {m' : Nat} (h : RetP b Aw cw W o m r w e w') (hm : m ≤ m') : RetP b Aw cw W o m' r w e w' :=
  ⟨h.1, ⟨h.2.1, fun er hr => ⟨(h.2.2 er hr).1, (h.2.2 er hr).2.below hm (Below.refl _ _)⟩⟩⟩
def capOf (n : Nat) : PR → PR
  | .error e => .error e
  | .ok p => .ok (put p.1 ⟨8, p.2, 0, [], 0, 0, (n : Int) + 1⟩)
/-- What a group with a number comes to. -/
def grpM (W : List ObLex.T) (al : St → PR) (o : Nat) (t : ObLex.T) (s : St) : PR := capOf s.caps (inn W al o t ⟨s.k, s.L, s.caps + 1⟩)
set_option maxHeartbeats 4000000 in
set_option maxRecDepth 100000 in
theorem group_any {al : St → PR} (h : Stt w b Aw cw W s o) (ht : W[s.k]? = some t) (hW : W.length ≤ 1000) (ho : o ≤ 64) (hm : s.L.length ≤ m) (hmm : m ≤ 30000)
    (hA : o ≠ 64 → s.caps + 1 ≤ 99 → ∀ w, Stt w b Aw cw W (nxt ⟨s.k, s.L, s.caps + 1⟩) (o + 1) → Calls Tryd.prog 11 #[ptr b] w (RetP b Aw cw W (o + 1) m (al (nxt ⟨s.k, s.L, s.caps + 1⟩)) w))
    (hE : ∀ s' a, al (nxt ⟨s.k, s.L, s.caps + 1⟩) = .ok (s', a) → s'.L.length ≤ m ∧ (s'.k < W.length → kd W s'.k = 4)) :
    Calls Tryd.prog 64 #[ptr b] w (RetP b Aw cw W o (m + 2) (grpM W al o t s) w) := by
  have hl := Nat.le_of_lt h.lt
  obtain ⟨⟨A, c, h1, h2, h3, h4⟩, h5⟩ := h
  obtain ⟨⟨_, _, _, _, c4, _, _⟩, cf⟩ := blk7 h1
  have cf4 := cf 4
  have ew : IntKind.i64.wrap ((s.caps : Int) + 1) = (s.caps : Int) + 1 := IntWalk.i64_in _ (by omega)
  have hx := Ex.one b w 4 (.int .i64 ((s.caps : Int) + 1))
  have hb1 : (w.setCell ⟨b, 4, none⟩ (.int .i64 ((s.caps : Int) + 1))).heap[b]? = some (rdO Aw W.length cw (s.k : Int) (.slice A s.L.length c) (.int .i64 (o : Int)) (.int .i64 ((s.caps : Int) + 1)) (.int .i64 0) (.int .i64 0)) := heap_set 4 (.int .i64 ((s.caps : Int) + 1)) h1
  have hbel := hx.below hl (Nat.le_refl _)
  have HSR := Lib.hid (show SttR (w.setCell ⟨b, 4, none⟩ (.int .i64 ((s.caps : Int) + 1))) b Aw cw W ⟨s.k, s.L, s.caps + 1⟩ o from ⟨A, c, hb1, h2.ex hx hl, h3.below hbel, h4⟩)
  have HB1 := Lib.hid hb1
  have HB := Lib.hid hbel
  have HWI := Lib.hid (within_any (al := al) HSR.out ht hW ho hm hmm hA hE)
  obtain ⟨R, hR⟩ : ∃ R : PR, inn W al o t ⟨s.k, s.L, s.caps + 1⟩ = R := ⟨_, rfl⟩
  rw [hR] at HWI
  have HR := Lib.hid (show grpM W al o t s = capOf s.caps R by unfold grpM; rw [hR])
  obtain ⟨G, hG⟩ : ∃ G : PR, grpM W al o t s = G := ⟨_, rfl⟩
  rw [hG] at HR ⊢
  have hLm : ∀ s' a, R = .ok (s', a) → s'.L.length ≤ 40000 := fun s' a h => by
    rw [← hR] at h
    unfold inn at h
    split at h
    · cases h
    · split at h
      · cases h
      · cases hp : al (nxt ⟨s.k, s.L, s.caps + 1⟩) with
        | error e => rw [hp] at h; cases h
        | ok p =>
          obtain ⟨s1, a1⟩ := p
          rw [hp] at h
          dsimp only at h
          have := (hE s1 a1 hp).1
          split at h
          · injection h with h; injection h with h1 h2; subst h1; show s1.L.length ≤ 40000; omega
          · cases h
  have HLm := Lib.hid hLm
  clear hR hG hA hE h1 h2 h3 h4 h5 hx hb1 hbel cf hLm
  go_enter Tryd.func64, Tryd.ntmps64
  go_upto_region 2 with fail
  generalize w.setCell ⟨b, 4, none⟩ (.int .i64 ((s.caps : Int) + 1)) = w1 at *
  obtain ⟨⟨_, _, _, _, d4, _, _⟩, _⟩ := blk7 HB1.out
  clear c4 cf4
  go_wp2_with fail
  refine Calls.mono HWI.out ?_
  rintro e2 w2 ⟨hb2, hok, herr⟩
  have HB2 := Lib.hid (HB.out.trans hb2)
  clear hb2
  cases hp : R with
  | error er =>
    obtain ⟨⟨z, rfl⟩, hj⟩ := herr er hp
    have HA := Lib.hid (jnk_add hj ⟨8, z, 0, [], 0, 0, (s.caps : Int) + 1⟩ none 0 rfl (by omega))
    have HRE := Lib.hid (show G = .error er by rw [HR.out, hp]; rfl)
    clear hok herr hj hp
    go_wp2_with fail
    refine Calls.mono HA.out ?_
    rintro e3 w3 ⟨hb3, ⟨z', rfl⟩, hj3⟩
    have HJ := Lib.hid hj3
    have HB3 := Lib.hid (HB2.out.trans hb3)
    clear hb3 hj3
    go_wp2_with fail
    go_ret
    refine ⟨HB3.out, ⟨fun s' a' h => ?_, fun er' h => ?_⟩⟩
    · rw [HRE.out] at h; cases h
    · rw [HRE.out] at h; injection h with h; subst h; exact ⟨⟨z', rfl⟩, HJ.out⟩
  | ok p =>
    obtain ⟨s', a⟩ := p
    obtain ⟨rfl, hs⟩ := hok s' a hp
    have HA := Lib.hid (stt_add hs ⟨8, a, 0, [], 0, 0, (s.caps : Int) + 1⟩ none 0 S.Rgs.nil (by have := HLm.out s' a hp; omega))
    have HRE := Lib.hid (show G = .ok (put s' ⟨8, a, 0, [], 0, 0, (s.caps : Int) + 1⟩) by rw [HR.out, hp]; rfl)
    clear hok herr hs hp
    go_wp2_with fail
    refine Calls.mono HA.out ?_
    rintro e3 w3 ⟨rfl, hs3, hb3⟩
    have HS := Lib.hid hs3
    have HB3 := Lib.hid (HB2.out.trans hb3)
    clear hb3 hs3
    go_wp2_with fail
    go_ret
    refine ⟨HB3.out, ⟨fun s2 a2 h => ?_, fun er' h => ?_⟩⟩
    · rw [HRE.out] at h; injection h with h
      have h1 := congrArg Prod.fst h; have h2 := congrArg Prod.snd h
      dsimp only at h1 h2
      subst h1 h2
      exact ⟨rfl, HS.out⟩
    · rw [HRE.out] at h; cases h
end
end Go.Proofs.YtceeimolfalmpaaDoor.T

namespace Go.Proofs.YtceeimolfalmpaaDoor.T
open Go.RowKit ObSets ObTree ObParse
open Go.Proofs.YtceeimolfalmpaaDoor (tv fv)

section
variable {b : Nat} {Aw : Option Addr} {cw : Nat} {W : List ObLex.T} {o m M : Nat} {al : Option (St → PR)}
set_option maxHeartbeats 2000000 in
set_option maxRecDepth 100000 in
theorem cat_any {w : World} {s : St} (h : Stt w b Aw cw W s o) (hW : W.length ≤ 1000) (hf : FitO W al) (hM : s.L.length + 2 * (W.length - s.k) ≤ M) (hMm : M ≤ 19000) (hMM : M ≤ m) (hm : m ≤ 29000)
    (HREP : ∀ w s, Stt w b Aw cw W s o → beg (kd W s.k) → s.L.length + 2 * (W.length - s.k) ≤ M + 1 → Calls Tryd.prog 28 #[ptr b] w (RetP b Aw cw W o m (rep W al s) w)) :
    Calls Tryd.prog 15 #[ptr b] w (RetP b Aw cw W o (m + 1) (cat W al s) w) := by
  have hkl : s.k ≤ W.length := by obtain ⟨⟨_, _, _, _, _, h4⟩, _⟩ := h; exact h4
  have HB := Lib.hid (stt_begins h)
  by_cases hb : beg (kd W s.k)
  · have hmo : moreC W s = some s := by unfold moreC; rw [if_pos hb]
    have hcat : cat W al s = (match rep W al s with | .error e => .error e | .ok p => rowL W 5 (moreC W) (rep W al) W.length p.1 p.2) := by
      unfold cat
      rw [if_pos hb]
      cases rep W al s <;> rfl
    have HROW := Lib.hid (show ∀ w1, Stt w1 b Aw cw W s o → Calls Tryd.prog 14 #[ptr b, .int .i64 5, .func (.func 28) #[ptr b] #[], .func (.func 27) #[ptr b] #[]] w1 (RetP b Aw cw W o (m + 1) (cat W al s) w1) from fun w1 h1 => by
      rw [hcat]
      refine row_any 28 27 5 (moreC W) (rep W al) h1 hW (by omega) hM (by omega) (ent141 b) (ent140 b) (HREP w1 s h1 hb (by omega)) (fun w s s1 hs hmo hphi => ?_) (fun w s hs => stt_begins hs) (fun w er m hj => jnk_begins hj) (fun s' a hp => ?_) (fun s s1 s' a hk hmo hp => ?_) (fun s s1 hmo => ?_)
      · unfold moreC at hmo
        split at hmo
        · rename_i hg
          injection hmo with hmo; subst hmo
          exact HREP w s hs hg hphi
        · cases hmo
      · have := rep_fit hf s s' a hkl hp
        exact ⟨by omega, this.2.1, by omega⟩
      · have := moreC_fit hf s s1 s' a hk hmo hp
        exact ⟨this.1, this.2.1, this.2.2.1⟩
      · unfold moreC at hmo
        split at hmo
        · rename_i hg; exact kd_beg hg
        · cases hmo)
    have HMO := Lib.hid hmo
    clear h HREP hcat hmo
    go_enter Tryd.func15, Tryd.ntmps15
    go_wp2_with fail
    refine Calls.mono HB.out ?_
    rintro e1 w1 ⟨hb1, hy, _⟩
    obtain ⟨rfl, hs1⟩ := hy s HMO.out
    have HC := Lib.hid (HROW.out w1 hs1)
    have HB1 := Lib.hid hb1
    clear hy hs1 hb1
    go_wp2_with fail
    refine Calls.mono HC.out ?_
    rintro e2 w2 ⟨hb2, hok, herr⟩
    have hst : ∃ v : Int, e2 = .returned (.int .i64 v) := by
      cases hp : cat W al s with
      | error er => exact (herr er hp).1
      | ok p => exact ⟨_, (hok p.1 p.2 hp).1⟩
    obtain ⟨v, rfl⟩ := hst
    have HB2 := Lib.hid (HB1.out.trans hb2)
    have HO := Lib.hid hok; have HE := Lib.hid herr
    clear hok herr hb2
    go_wp2_with fail
    go_ret
    exact ⟨HB2.out, HO.out, HE.out⟩
  · have hmo : moreC W s = none := by unfold moreC; rw [if_neg hb]
    have HMO := Lib.hid hmo
    clear HREP hmo
    by_cases h67 : kd W s.k = 6 ∨ kd W s.k = 7
    · obtain ⟨t, ht⟩ : ∃ t, W[s.k]? = some t := ⟨_, List.getElem?_eq_getElem (kd_in (by omega))⟩
      have hcat : cat W al s = .error (some (4, t.at_)) := by unfold cat at_; rw [if_neg hb, if_pos h67, ht]
      rw [hcat]
      have HT := Lib.hid ht
      have hL : s.L.length ≤ m := by omega
      have hcs : ∃ c, kd W s.k = c ∧ (c = 6 ∨ c = 7) := ⟨_, rfl, h67⟩
      obtain ⟨c, hc, hc67⟩ := hcs
      clear h hcat ht h67 hb
      go_enter Tryd.func15, Tryd.ntmps15
      go_wp2_with fail
      refine Calls.mono HB.out ?_
      rintro e1 w1 ⟨hb1, _, hn⟩
      obtain ⟨rfl, hs1⟩ := hn HMO.out
      have HK := Lib.hid (stt_kind hs1)
      rw [hc] at HK
      have HB1 := Lib.hid hb1
      clear hn hs1 hb1 hc
      go_wp2_with fail
      refine HK.out.mono ?_
      rintro e2 w2 ⟨rfl, hs2, hb2⟩
      have HF := Lib.hid (hs2.1.fail HT.out (why := 4) (by decide) hL)
      have HB2 := Lib.hid (HB1.out.trans hb2)
      clear hs2 hb2
      rcases hc67 with rfl | rfl
      all_goals
        go_wp2_with fail
        refine HF.out.mono ?_
        rintro e3 w3 ⟨rfl, hj3, hb3⟩
        have HA := Lib.hid (jnk_add hj3 ⟨1, 0, 0, [], 0, 0, 0⟩ none 0 rfl (by omega))
        have HB3 := Lib.hid (HB2.out.trans hb3)
        clear hj3 hb3
        go_wp2_with fail
        refine Calls.mono HA.out ?_
        rintro e4 w4 ⟨hb4, ⟨z, rfl⟩, hj4⟩
        have HJ := Lib.hid hj4
        have HB4 := Lib.hid (HB3.out.trans hb4)
        clear hj4 hb4
        go_wp2_with fail
        go_ret
        refine ⟨HB4.out, ⟨fun s' a' h => (by cases h), fun er' h => ?_⟩⟩
        injection h with h
        subst h
        exact ⟨⟨z, rfl⟩, HJ.out⟩
    · have hcat : cat W al s = .ok (put s ⟨1, 0, 0, [], 0, 0, 0⟩) := by unfold cat; rw [if_neg hb, if_neg h67]
      rw [hcat]
      have e6 : (kd W s.k == 6) = false := beq_eq_false_iff_ne.2 (fun h => h67 (.inl h))
      have e7 : (kd W s.k == 7) = false := beq_eq_false_iff_ne.2 (fun h => h67 (.inr h))
      have HKD := Lib.hid (show ∀ w1, Stt w1 b Aw cw W s o → Calls Tryd.prog 29 #[ptr b] w1 fun e' w' => e' = .returned (.int .i64 (kd W s.k)) ∧ Stt w' b Aw cw W s o ∧ Below b w1 w' from fun w1 h => stt_kind h)
      clear h hcat h67 hb
      generalize kd W s.k = c at *
      go_enter Tryd.func15, Tryd.ntmps15
      go_wp2_with fail
      refine Calls.mono HB.out ?_
      rintro e1 w1 ⟨hb1, _, hn⟩
      obtain ⟨rfl, hs1⟩ := hn HMO.out
      have HK := Lib.hid (HKD.out w1 hs1)
      have HB1 := Lib.hid hb1
      clear hn hs1 hb1
      go_wp2_with fail
      refine HK.out.mono ?_
      rintro e2 w2 ⟨rfl, hs2, hb2⟩
      have HA := Lib.hid (stt_add hs2 ⟨1, 0, 0, [], 0, 0, 0⟩ none 0 S.Rgs.nil (by omega))
      have HB2 := Lib.hid (HB1.out.trans hb2)
      clear hs2 hb2
      go_wp2_with fail
      refine Calls.mono HA.out ?_
      rintro e3 w3 ⟨rfl, hs3, hb3⟩
      have HS := Lib.hid hs3
      have HB3 := Lib.hid (HB2.out.trans hb3)
      clear hs3 hb3
      go_wp2_with fail
      go_ret
      refine ⟨HB3.out, ⟨fun s2 a2 h => ?_, fun er' h => (by cases h)⟩⟩
      injection h with h
      have h1 := congrArg Prod.fst h; have h2 := congrArg Prod.snd h
      dsimp only at h1 h2
      subst h1 h2
      exact ⟨rfl, HS.out⟩
end
end Go.Proofs.YtceeimolfalmpaaDoor.T

namespace Go.Proofs.YtceeimolfalmpaaDoor.T
open Go.RowKit ObSets ObTree ObParse
open Go.Proofs.YtceeimolfalmpaaDoor (tv fv)

section
variable {b : Nat} {Aw : Option Addr} {cw : Nat} {W : List ObLex.T} {o m M : Nat} {al : Option (St → PR)}
set_option maxHeartbeats 2000000 in
set_option maxRecDepth 100000 in
theorem alt_any {w : World} {s : St} (h : Stt w b Aw cw W s o) (hW : W.length ≤ 1000) (hf : FitO W al) (hM : s.L.length + 2 * (W.length - s.k) ≤ M) (hMm : M ≤ 19000) (hm : m ≤ 29000)
    (HCAT : ∀ w s, Stt w b Aw cw W s o → s.L.length + 2 * (W.length - s.k) ≤ M → Calls Tryd.prog 15 #[ptr b] w (RetP b Aw cw W o m (cat W al s) w)) :
    Calls Tryd.prog 11 #[ptr b] w (RetP b Aw cw W o (m + 1) (alt W al s) w) := by
  have hkl : s.k ≤ W.length := by obtain ⟨⟨_, _, _, _, _, h4⟩, _⟩ := h; exact h4
  have halt : alt W al s = (match cat W al s with | .error e => .error e | .ok p => rowL W 6 (moreA W) (cat W al) W.length p.1 p.2) := by
    unfold alt
    cases cat W al s <;> rfl
  have HROW := Lib.hid (show Calls Tryd.prog 14 #[ptr b, .int .i64 6, .func (.func 15) #[ptr b] #[], .func (.func 16) #[ptr b] #[]] w (RetP b Aw cw W o (m + 1) (alt W al s) w) by
    rw [halt]
    refine row_any 15 16 6 (moreA W) (cat W al) h hW (by omega) hM (by omega) (ent103 b) (ent104 b) (HCAT w s h hM) (fun w s s1 hs hmo hphi => ?_) (fun w s hs => stt_bar hs hW) (fun w er m hj => jnk_bar hj) (fun s' a hp => ?_) (fun s s1 s' a hk hmo hp => ?_) (fun s s1 hmo => ?_)
    · unfold moreA at hmo
      split at hmo
      · rename_i h5
        have hlt : s.k < W.length := kd_in (by omega)
        injection hmo with hmo; subst hmo
        exact HCAT w _ hs (by simp only [nxt]; omega)
      · cases hmo
    · have := cat_fit hf s s' a hkl hp
      exact ⟨this.1, this.2.1, by omega⟩
    · have := moreA_fit hf s s1 s' a hk hmo hp
      exact ⟨this.1, this.2.1, this.2.2.1⟩
    · unfold moreA at hmo
      split at hmo
      · rename_i h5; exact kd_in (by omega)
      · cases hmo)
  clear h HCAT halt
  go_enter Tryd.func11, Tryd.ntmps11
  go_wp2_with fail
  refine Calls.mono HROW.out ?_
  rintro e2 w2 ⟨hb2, hok, herr⟩
  have hst : ∃ v : Int, e2 = .returned (.int .i64 v) := by
    cases hp : alt W al s with
    | error er => exact (herr er hp).1
    | ok p => exact ⟨_, (hok p.1 p.2 hp).1⟩
  obtain ⟨v, rfl⟩ := hst
  have HB2 := Lib.hid hb2
  have HO := Lib.hid hok; have HE := Lib.hid herr
  clear hok herr hb2
  go_wp2_with fail
  go_ret
  exact ⟨HB2.out, HO.out, HE.out⟩
/-- What reads an alt where so many groups are open. -/
def AL (W : List ObLex.T) (j : Nat) : St → PR := alt W (alts W j)
theorem atom_2 {s : St} {t : ObLex.T} {j : Nat} (ht : W[s.k]? = some t) (hk : t.kind = 2) (ho : o + j = 64) : atom W (alts W j) s = grpM W (AL W (j - 1)) o t s := by
  unfold atom grpM inn
  rw [ht]
  dsimp only
  rw [if_neg (by omega), if_neg (by omega), if_neg (by omega)]
  cases j with
  | zero => rw [if_pos (by omega)]; rfl
  | succ j =>
    rw [if_neg (show ¬ o = 64 by omega)]
    simp only [alts, Nat.add_sub_cancel]
    rw [if_pos hk]
    by_cases hc : 99 ≤ s.caps
    · rw [if_pos hc, if_pos (by omega)]; rfl
    · rw [if_neg hc, if_neg (by omega)]
      unfold grp
      simp only [if_true]
      show (match AL W j ⟨s.k + 1, s.L, s.caps + 1⟩ with | .error e => _ | .ok (s', a) => _) = capOf s.caps (match AL W j (nxt ⟨s.k, s.L, s.caps + 1⟩) with | .error e => _ | .ok (s', a) => _)
      have e : nxt ⟨s.k, s.L, s.caps + 1⟩ = ⟨s.k + 1, s.L, s.caps + 1⟩ := rfl
      rw [e]
      cases hp : AL W j ⟨s.k + 1, s.L, s.caps + 1⟩ with
      | error e => rfl
      | ok p =>
        obtain ⟨s', a⟩ := p
        dsimp only
        by_cases hl : s'.k < W.length
        · rw [if_pos hl, if_pos hl]; rfl
        · rw [if_neg hl, if_neg hl]; rfl
theorem atom_3 {s : St} {t : ObLex.T} {j : Nat} (ht : W[s.k]? = some t) (hk : t.kind = 3) (ho : o + j = 64) (hc : s.caps ≤ 99) : atom W (alts W j) s = inn W (AL W (j - 1)) o t s := by
  unfold atom inn
  rw [ht]
  dsimp only
  rw [if_neg (by omega), if_neg (by omega), if_neg (by omega)]
  cases j with
  | zero => rw [if_pos (by omega)]; rfl
  | succ j =>
    rw [if_neg (show ¬ o = 64 by omega), if_neg (show ¬ 99 < s.caps by omega)]
    simp only [alts, Nat.add_sub_cancel]
    rw [if_neg (by omega)]
    unfold grp
    simp only [Bool.false_eq_true, if_false]
    show (match AL W j ⟨s.k + 1, s.L, s.caps⟩ with | .error e => _ | .ok (s', a) => _) = (match AL W j (nxt s) with | .error e => _ | .ok (s', a) => _)
    have e : nxt s = ⟨s.k + 1, s.L, s.caps⟩ := rfl
    rw [e]
theorem leaf_ret {w : World} {s : St} {p : St × Int} (hat : atom W al s = .ok p) {e : Ending} {w' : World} (h : e = .returned (.int .i64 p.2) ∧ Stt w' b Aw cw W p.1 o ∧ Below b w w') : RetP b Aw cw W o m (atom W al s) w e w' := by
  rw [hat]
  refine ⟨h.2.2, ⟨fun s' a hh => ?_, fun er hh => (by cases hh)⟩⟩
  injection hh with hh
  subst hh
  exact ⟨h.1, h.2.1⟩
theorem lev (hWk : ∀ t ∈ W, 1 ≤ t.kind ∧ t.kind ≤ 9) (hW : W.length ≤ 1000) (hMm : M ≤ 10000) (j o : Nat) (ho : o + j = 64) (w : World) (s : St) (h : Stt w b Aw cw W s o) (hM : s.L.length + 2 * (W.length - s.k) ≤ M)
    (IH : o ≠ 64 → ∀ w s, Stt w b Aw cw W s (o + 1) → s.L.length + 2 * (W.length - s.k) ≤ M → Calls Tryd.prog 11 #[ptr b] w (RetP b Aw cw W (o + 1) (M + 10 * j + 2) (AL W (j - 1) s) w)) :
    Calls Tryd.prog 11 #[ptr b] w (RetP b Aw cw W o (M + 10 * (j + 1)) (AL W j s) w) := by
  have hff := alts_fit W j
  have hf1 := alts_fit W (j - 1)
  have hE : ∀ (s s' : St) (a : Int), s.k ≤ W.length → s.L.length + 2 * (W.length - s.k) ≤ M → AL W (j - 1) s = .ok (s', a) → s'.L.length ≤ M + 10 * j + 2 ∧ (s'.k < W.length → kd W s'.k = 4) := fun s s' a hk hM hp => by
    have g := alt_fit hf1 s s' a hk hp
    refine ⟨by omega, fun hlt => ?_⟩
    rcases alt_end hf1 hWk hk hp with h0 | h4
    · exfalso
      have := hWk _ (List.getElem_mem hlt)
      unfold kd at h0
      rw [List.getElem?_eq_getElem hlt] at h0
      dsimp only at h0
      omega
    · exact h4
  refine (alt_any (m := M + 10 * j + 5) h hW hff hM (by omega) (by omega) fun w s hs hphi => ?_).mono fun _ _ h => h.more (by omega)
  refine cat_any (m := M + 10 * j + 4) hs hW hff hphi (by omega) (by omega) (by omega) fun w s hs hb hphi => ?_
  have hlt := kd_beg hb
  obtain ⟨t, ht⟩ : ∃ t, W[s.k]? = some t := ⟨_, List.getElem?_eq_getElem hlt⟩
  have hkt : kd W s.k = t.kind := by unfold kd; rw [ht]
  have hfit : ∀ s' a, atom W (alts W j) s = .ok (s', a) → s.k < s'.k ∧ s'.k ≤ W.length ∧ s'.L.length + 1 ≤ s.L.length + 2 * (s'.k - s.k) := fun s' a hp => by
    have := atom_fit hff s s' a (Nat.le_of_lt hlt) hp
    exact ⟨this.1, this.2.1, this.2.2.1⟩
  rw [hkt] at hb
  unfold beg at hb
  rcases hb with hk | hk | hk | hk | hk
  · have hat : atom W (alts W j) s = .ok (put (nxt s) ⟨2, 0, 0, t.set, 0, 0, 0⟩) := by unfold atom; rw [ht]; dsimp only; rw [if_pos hk]
    exact rep_any (q := 61) (M := M + 1) hs hW hphi (by omega) (by rw [hkt, hk]; rfl) (ent177 b) (fun w hs => (set_any hs ht hW (by omega)).mono fun e w' h => leaf_ret hat h) hfit
  · have hat : atom W (alts W j) s = .ok (put (nxt s) ⟨3, 0, 0, [], 0, 0, 0⟩) := by unfold atom; rw [ht]; dsimp only; rw [if_neg (by omega), if_pos hk]
    exact rep_any (q := 62) (M := M + 1) hs hW hphi (by omega) (by rw [hkt, hk]; rfl) (ent178 b) (fun w hs => (bol_any hs ht hW (by omega)).mono fun e w' h => leaf_ret hat h) hfit
  · have hat : atom W (alts W j) s = .ok (put (nxt s) ⟨4, 0, 0, [], 0, 0, 0⟩) := by unfold atom; rw [ht]; dsimp only; rw [if_neg (by omega), if_neg (by omega), if_pos hk]
    exact rep_any (q := 63) (M := M + 1) hs hW hphi (by omega) (by rw [hkt, hk]; rfl) (ent179 b) (fun w hs => (eol_any hs ht hW (by omega)).mono fun e w' h => leaf_ret hat h) hfit
  · refine rep_any (q := 64) (M := M + 1) hs hW hphi (by omega) (by rw [hkt, hk]; rfl) (ent180 b) (fun w hs => ?_) hfit
    rw [atom_2 ht hk ho]
    exact group_any hs ht hW (by omega) (m := M + 10 * j + 2) (by omega) (by omega) (fun h64 hc w hs => IH h64 w _ hs (by simp only [nxt]; omega)) (fun s' a hp => hE _ s' a (by simp only [nxt]; omega) (by simp only [nxt]; omega) hp)
  · refine rep_any (q := 65) (M := M + 1) hs hW hphi (by omega) (by rw [hkt, hk]; rfl) (ent181 b) (fun w hs => ?_) hfit
    rw [atom_3 ht hk ho hs.2]
    exact (within_any hs.1 ht hW (by omega) (m := M + 10 * j + 2) (by omega) (by omega) (fun h64 hc w hs => IH h64 w _ hs (by simp only [nxt]; omega)) (fun s' a hp => hE _ s' a (by simp only [nxt]; omega) (by simp only [nxt]; omega) hp)).mono fun _ _ h => h.more (by omega)
theorem alts_any (hWk : ∀ t ∈ W, 1 ≤ t.kind ∧ t.kind ≤ 9) (hW : W.length ≤ 1000) (hMm : M ≤ 10000) : ∀ (j o : Nat), o + j = 64 → ∀ (w : World) (s : St), Stt w b Aw cw W s o → s.L.length + 2 * (W.length - s.k) ≤ M →
    Calls Tryd.prog 11 #[ptr b] w (RetP b Aw cw W o (M + 10 * (j + 1)) (AL W j s) w) := by
  intro j
  induction j with
  | zero =>
    intro o ho w s h hM
    exact lev hWk hW hMm 0 o ho w s h hM (fun h64 => absurd (by omega) h64)
  | succ j ih =>
    intro o ho w s h hM
    exact lev hWk hW hMm (j + 1) o ho w s h hM (fun _ w s h hM => (ih (o + 1) (by omega) w s h hM).mono fun _ _ h => h.more (by omega))
end
end Go.Proofs.YtceeimolfalmpaaDoor.T

namespace Go.Proofs.YtceeimolfalmpaaDoor.T
open Go.RowKit ObSets ObTree ObParse
open Go.Proofs.YtceeimolfalmpaaDoor (tv fv)

section
variable {w : World} {b : Nat} {Aw : Option Addr} {cw : Nat} {W : List ObLex.T} {er : Er} {m : Nat} {s : St} {o : Nat}
/-- What all words come to. -/
def fin (W : List ObLex.T) : Except Er St :=
  match AL W 64 ⟨0, [], 0⟩ with
  | .error e => .error e
  | .ok p => if p.1.k < W.length then .error (some (4, at_ W p.1.k)) else .ok p.1
theorem fin_err (h : AL W 64 ⟨0, [], 0⟩ = .error er) : fin W = .error er := by unfold fin; rw [h]
theorem fin_cut {p : St × Int} (h : AL W 64 ⟨0, [], 0⟩ = .ok p) (hk : p.1.k < W.length) : fin W = .error (some (4, at_ W p.1.k)) := by unfold fin; rw [h]; dsimp only; rw [if_pos hk]
theorem fin_ok {p : St × Int} (h : AL W 64 ⟨0, [], 0⟩ = .ok p) (hk : ¬ p.1.k < W.length) : fin W = .ok p.1 := by unfold fin; rw [h]; dsimp only; rw [if_neg hk]
/-- What is left when all words have been gone through. -/
def RetWh (b : Nat) (Aw : Option Addr) (cw : Nat) (W : List ObLex.T) (m : Nat) (w : World) (e : Ending) (w' : World) : Prop :=
  e = .returned (.tuple #[]) ∧ Below b w w' ∧ (∀ s', fin W = .ok s' → Stt w' b Aw cw W s' 0) ∧ (∀ er, fin W = .error er → Jnk w' b Aw cw W er m)
set_option maxHeartbeats 2000000 in
set_option maxRecDepth 100000 in
theorem whole_any (h : Stt w b Aw cw W ⟨0, [], 0⟩ 0) (hWk : ∀ t ∈ W, 1 ≤ t.kind ∧ t.kind ≤ 9) (hW : W.length ≤ 1000) : Calls Tryd.prog 9 #[ptr b] w (RetWh b Aw cw W 3000 w) := by
  have HA := Lib.hid (alts_any (M := 2000) hWk hW (by omega) 64 0 (by omega) w _ h (by simp; omega))
  have hfit := fun s' a => alt_fit (alts_fit W 64) ⟨0, [], 0⟩ s' a (Nat.zero_le _)
  clear h
  go_enter Tryd.func9, Tryd.ntmps9
  go_wp2_with fail
  refine Calls.mono HA.out ?_
  rintro e1 w1 ⟨hb1, hok, herr⟩
  have HB1 := Lib.hid hb1
  clear hb1
  cases hp : AL W 64 ⟨0, [], 0⟩ with
  | error er =>
    obtain ⟨⟨z, rfl⟩, hj⟩ := herr er hp
    have HE := Lib.hid (fin_err hp)
    have HJ := Lib.hid hj
    obtain ⟨A, c, n, l, o, cp, e, f, h1, h2, h3, h4, h5, h6⟩ := hj
    obtain ⟨⟨c0, c1, _, _, _, _, _⟩, _⟩ := blk7 h3
    clear hok herr hp hfit h1 h2 h3 h4 h5 h6
    go_wp2_with fail
    go_quiet (fail)
    go_wp2_with fail
    refine bodyPost_end (results_none rfl _ _ _) rfl ?_
    have hd := below_drews (Below.refl w1.heap.size w1) nq
    refine ⟨rfl, HB1.out.trans (hd.mono (Nat.le_of_lt HJ.out.lt)), fun s' h => ?_, fun er' h => ?_⟩
    · rw [HE.out] at h; cases h
    · rw [HE.out] at h; injection h with h; subst h; exact HJ.out.below (by omega) hd
  | ok p =>
    obtain ⟨s', a⟩ := p
    obtain ⟨rfl, hs⟩ := hok s' a hp
    obtain ⟨g1, g2, g3, g4⟩ := hfit s' a hp
    have HS := Lib.hid hs
    obtain ⟨⟨A, c, h1, h2, h3, h4⟩, _⟩ := hs
    obtain ⟨⟨c0, c1, _, _, _, _, _⟩, _⟩ := blk7 h1
    clear hok herr hfit h1 h2 h3 h4
    by_cases hlt : s'.k < W.length
    · obtain ⟨t, ht⟩ : ∃ t, W[s'.k]? = some t := ⟨_, List.getElem?_eq_getElem hlt⟩
      have HE := Lib.hid (show fin W = .error (some (4, t.at_)) by rw [fin_cut hp hlt]; unfold at_; rw [ht])
      have hlt' : (s'.k : Int) < (W.length : Int) := by omega
      have d1 : decide (s'.k < W.length) = true := decide_eq_true hlt
      have HT := Lib.hid ht
      clear hp ht
      go_wp2_with fail
      go_quiet (fail)
      have hd := below_drews (Below.refl w1.heap.size w1) nq
      have hs2 := HS.out.below hd
      have HF := Lib.hid (hs2.1.fail HT.out (why := 4) (by decide) (m := 3000) (by simp only [List.length_nil] at g3; omega))
      have HB2 := Lib.hid (HB1.out.trans (hd.mono (Nat.le_of_lt HS.out.lt)))
      clear hd hs2
      go_wp2_with fail
      refine HF.out.mono ?_
      rintro e3 w3 ⟨rfl, hj3, hb3⟩
      have HJ := Lib.hid hj3
      have HB3 := Lib.hid (HB2.out.trans hb3)
      clear hj3 hb3
      go_wp2_with fail
      refine bodyPost_end (results_none rfl _ _ _) rfl ?_
      refine ⟨rfl, HB3.out, fun s2 h => ?_, fun er' h => ?_⟩
      · rw [HE.out] at h; cases h
      · rw [HE.out] at h; injection h with h; subst h; exact HJ.out
    · have HE := Lib.hid (fin_ok hp hlt)
      have d1 : decide (s'.k < W.length) = false := decide_eq_false hlt
      have hge : (W.length : Int) ≤ (s'.k : Int) := by omega
      clear hp
      go_wp2_with fail
      go_quiet (fail)
      go_wp2_with fail
      refine bodyPost_end (results_none rfl _ _ _) rfl ?_
      have hd := below_drews (Below.refl w1.heap.size w1) nq
      refine ⟨rfl, HB1.out.trans (hd.mono (Nat.le_of_lt HS.out.lt)), fun s2 h => ?_, fun er' h => ?_⟩
      · rw [HE.out] at h; injection h with h; subst h; exact HS.out.below hd
      · rw [HE.out] at h; cases h
end
end Go.Proofs.YtceeimolfalmpaaDoor.T
