/-
  PROVED: for every two texts a and t, every two ints size and every int at, CursSeams(a, t, size, at) returns true and each argument reads as it read before: of a buffer in chunks of 4 to 15 bytes with the text a (its first 60 bytes) into which t (its first 20) was put at a place, and whose own place was moved, View tells what Of tells of the text as a whole; so it does when t was taken out again.
  Conditions: unicode/utf8's tables first and acceptRanges hold what their text lays (tied to the program's text by the card, over the pruned copy of the project).
-/
import Derived.Test.YtdpjcbljeklhmaaDoorCards
import Derived.Test.YtdpjcbljeklhmaaDoorTie
import Derived.Test.YtdpjcbljeklhmaaDoorLaid
import Derived.Test.YtdpjcbljeklhmaaDoorSeams
import Derived.SevenTiedAt
import Derived.Carry
namespace Go.Proofs.YtdpjcbljeklhmaaDoor
open Go.ChangeShapes Go.WideShapes Go.ChangeAt Go.RowKit Go.WideMaps Go.WideElems
open Go.ChangeMaps (open_string shut_string)

theorem Tryd.laidOut : laidOutB Tryd.prog = true := by kernel_rfl
theorem Tryd.cells3 : Tryd.prog.cellsOf 3 = 1 := by kernel_rfl
section
variable {H : Type} {enc : TypeId × Value → H}
theorem trod_array2 {P : Program} {w : World} {base : Nat} {spare : Nat → Bool} {held : Bool} {t e : TypeId} {fuel : Nat} {c0 c1 : Value} {x : DataW H × List MemPlace} (ht : P.underlying t = some (.array 2 e)) (hce : P.cellsOf e = 1)
    (h : DataW.trod enc P w base spare held fuel t [c0, c1] = some x) :
    ∃ y0 y1 n, DataW.trod enc P w base spare held n e [c0] = some y0 ∧ DataW.trod enc P w base spare held n e [c1] = some y1 := by
  cases fuel with
  | zero => simp [DataW.trod] at h
  | succ n =>
    unfold DataW.trod at h
    rw [ht] at h
    have r2 : List.range 2 = [0, 1] := rfl
    simp [r2, hce] at h
    obtain ⟨_, h⟩ := h
    cases h0 : DataW.trod enc P w base spare held n e [c0] with
    | none => simp [h0] at h
    | some y0 =>
      cases h1 : DataW.trod enc P w base spare held n e [c1] with
      | none => simp [h0, h1] at h
      | some y1 => exact ⟨y0, y1, n, h0, h1⟩
set_option maxRecDepth 100000 in
/-- Two ints in an array. -/
theorem view_two {W : World} {r : Reach} {b0 : Nat} {d : DataW H} {p : List MemPlace} {v : Value} (hv : Value.okWide Tryd.prog W r b0 51 v) (h : DataW.Trod enc Tryd.prog W 0 (fun _ => true) true 51 v d p) :
    ∃ x y : Int, v = .agg #[.int .i64 x, .int .i64 y] := by
  simp only [Value.okWide, Tryd.underlying51] at hv
  obtain ⟨cs, rfl, h2, _⟩ := hv
  have h3 : cs.size = 2 := h2.trans (by kernel_rfl)
  obtain ⟨fuel, hf⟩ := h
  obtain ⟨l⟩ := cs
  match l, h3 with
  | [c0, c1], _ =>
    obtain ⟨y0, y1, n, e0, e1⟩ := trod_array2 (t := 51) (e := 3) Tryd.underlying51 Tryd.cells3 hf
    obtain ⟨a0, f0, _⟩ := DataW.trod_int Tryd.underlying3 e0
    obtain ⟨a1, f1, _⟩ := DataW.trod_int Tryd.underlying3 e1
    have g0 : [c0] = [Value.int .i64 a0] := f0
    have g1 : [c1] = [Value.int .i64 a1] := f1
    simp only [List.cons.injEq, and_true] at g0 g1
    subst g0 g1
    exact ⟨a0, a1, rfl⟩
end
set_option maxRecDepth 100000 in
theorem cursSeams_lifted (os : Os) (started : os.Started) (H : Type) (enc : TypeId × Value → H) :
    ReturnsInHanded {} Tryd.checked os 7 .any (fun w args => (Rows.cursSeamsSpec.pre enc Tryd.prog Tryd.f7 Rows.cursSeamsRow.domain false w args ∧ laidMetH Tryd.prog laid2 w) ∧ sizedMet enc Tryd.prog Tryd.f7 (OpenSpec.ofChange Rows.cursSeamsSpec) false w args)
      (Rows.cursSeamsSpec.post enc Tryd.prog Tryd.f7 false true false false) := by
  refine returnsInHanded_of_change_and (C := Tryd.checked) (X := fun w _ => laidMetH Tryd.prog laid2 w) (fun _ _ _ hh h => h.of_heap hh) Tryd.own started (by kernel_rfl) Tryd.func7
    (ChangeSpec.witness_shaped (enc := enc) (C := Tryd.checked) (os := os) (X := fun w _ => laidMetH Tryd.prog laid2 w) false (World.laidAll Tryd.prog os laid2) #[.string ⟨#[]⟩, .string ⟨#[]⟩, .agg #[.int .i64 0, .int .i64 0], .int .i64 0] 8 (World.laidAll_os _ _ _)
      (World.shaped_of_ZipB (by kernel_rfl) (by kernel_rfl)) (by kernel_rfl) (by kernel_rfl) (by kernel_rfl) (laid_all os _)) ?_
  intro W base args ds gs before hval0 hW _ _ hL _
  have hval : ∀ (j : Nat) t v, Tryd.f7.params[j]? = some t → args[j]? = some v → Value.okWide Tryd.prog W .any base t v := hval0
  have hW' := hW
  obtain ⟨p, q, hA0, hV, rfl, _, _⟩ := hW
  have hA : DataW.TrodAll enc Tryd.prog W 0 (fun _ => true) true Tryd.f7.params.toList args.toList ds p := hA0
  rw [Tryd.params7] at hA hval
  obtain ⟨v0, v1, v2, v3, d0, d1, d2, d3, p0, p1, p2, p3, rfl, rfl, rfl, h0, h1, h2, h3⟩ := trodAll_four hA
  obtain ⟨rfl, rfl⟩ := trodVars_none hV
  obtain ⟨⟨⟨x0⟩⟩, rfl, rfl, rfl, wf0⟩ := open_string Tryd.underlying9 (hval 0 9 v0 rfl rfl) h0
  obtain ⟨⟨⟨x1⟩⟩, rfl, rfl, rfl, wf1⟩ := open_string Tryd.underlying9 (hval 1 9 v1 rfl rfl) h1
  have h2k := h2
  obtain ⟨x2, y2, rfl⟩ := view_two (hval 2 51 v2 rfl rfl) h2
  obtain ⟨x3, rfl, rfl, rfl, wf3⟩ := open_int Tryd.underlying3 (hval 3 3 v3 rfl rfl) h3
  clear hA0 hval0
  simp only [List.append_nil, List.nil_append] at hW'
  have hlt : ∀ x ∈ p2, x.block < W.heap.size := fun x hx => hW'.lt x (by simpa using hx)
  refine (seams_walk x0 x1 x2 y2 x3 W (tb_of_laid hL)).mono fun e W' ⟨he, hb⟩ => ?_
  subst he
  have hout := trodAll_mk4 (shut_string Tryd.underlying9 wf0) (shut_string Tryd.underlying9 wf1) (Below.trod Tryd.laidOut (by kernel_rfl) (of_decide_eq_true (by kernel_rfl)) h2k hb (fun x hx => hlt x (by simp [hx]))) (shut_int Tryd.underlying3 wf3)
  simp only [List.append_nil, List.nil_append] at hout
  exact ⟨_, rfl, _, _, _, [], p2, [], hW', trodAll_mk1 (shut_bool Tryd.underlying4 _), hout, rfl, hb.frame _, fun h => by cases h⟩
theorem cursSeams_said : Rows.CursSeamsSaid :=
  OpenClaim.holds_of_wide 7 Tryd.f7 rfl rfl rfl rfl rfl rfl rfl ⟨rfl, rfl, rfl, rfl, rfl⟩ rfl rfl rfl rfl rfl (by kernel_rfl) Tryd.func7 (by kernel_rfl)
    (of_decide_eq_true (by kernel_rfl)) (by unfold Func.isWrapper; first | (rw [if_pos (by decide +kernel)]; kernel_rfl) | (rw [if_neg (by decide +kernel)]; exact ⟨rfl, rfl⟩))
    (fun os started H enc _ => cursSeams_lifted os started H enc)
theorem cursSeams_plain (f : FuncId) (fn : Func) (hf : Tryd.pinned.checked.prog.funcNamed "obelus/obeluslaw5.CursSeams" = some f) (hfn : Tryd.pinned.checked.prog.funcs[f]? = some fn) :
    false = Tryd.pinned.checked.prog.looks [] ∧ ∀ (j : Nat) t, fn.params[j]? = some t → Tryd.pinned.checked.prog.wantsStandIn t = false := by
  obtain rfl : f = 7 := Option.some.inj ((show Tryd.prog.funcNamed "obelus/obeluslaw5.CursSeams" = some 7 by kernel_rfl).symm.trans hf) |>.symm
  obtain rfl : fn = Tryd.f7 := (Option.some.inj (Tryd.func7.symm.trans hfn)).symm
  refine ⟨by kernel_rfl, fun j t ht => ?_⟩
  rw [Tryd.params7] at ht
  have hm : t = 9 ∨ t = 9 ∨ t = 51 ∨ t = 3 := by simpa using Array.mem_of_getElem? ht
  rcases hm with rfl | rfl | rfl | rfl
  · exact (show Tryd.prog.wantsStandIn 9 = false by kernel_rfl)
  · exact (show Tryd.prog.wantsStandIn 9 = false by kernel_rfl)
  · exact (show Tryd.prog.wantsStandIn 51 = false by kernel_rfl)
  · exact (show Tryd.prog.wantsStandIn 3 = false by kernel_rfl)
theorem cursSeams_holds : Rows.CursSeamsCardSaid :=
  Claim7.holds_tied_plain_at .later [] _ _ _ _ cursSeams_said (fun _ h => by cases h) (by kernel_rfl) (fun _ h => by cases h) cursSeams_row_tie rfl ⟨rfl, rfl⟩ (by kernel_rfl) rfl cursSeams_plain (by kernel_rfl)
#print axioms cursSeams_holds
end Go.Proofs.YtdpjcbljeklhmaaDoor
