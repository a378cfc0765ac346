/-
  PROVED: for every two slices of ranges and every number, SetsOnce returns true and each argument reads as it read before: two lists have one normal list just if neither has a symbol that the other one has not (of the first eight ranges each).
  Conditions: none.
-/
import Derived.Test.YtfjcljhodnkieaaView
import Derived.Test.YtfjcljhodnkieaaOnce
namespace Go.Proofs.Ytfjcljhodnkieaa
open Go.ChangeShapes Go.WideShapes Go.ChangeAt Go.RowKit ObSets

set_option maxRecDepth 100000 in
theorem setsOnce_lifted (os : Os) (started : os.Started) (H : Type) (enc : TypeId × Value → H) :
    ReturnsInHanded {} Try.checked os 6 .any (Rows.setsOnceSpec.pre6 enc Try.prog Try.f6 Rows.setsOnceRow.domain false) (Rows.setsOnceSpec.post enc Try.prog Try.f6 false true false false) := by
  refine returnsInHanded_of_change (C := Try.checked) Try.own started (by kernel_rfl) Try.func6
    (ChangeSpec.witness6 (enc := enc) (C := Try.checked) false ⟨#[], #[.slice none 0 0, .slice none 0 0, .int .i64 0], []⟩ 8 (by kernel_rfl) (by kernel_rfl) (by kernel_rfl) (by kernel_rfl)) ?_
  intro W base args ds gs before hval0 hW _ _
  have hval : ∀ (j : Nat) t v, Try.f6.params[j]? = some t → args[j]? = some v → Value.okWide Try.prog W .any base t v := hval0
  have hW' := hW
  obtain ⟨p, q, hA0, hV, rfl, _, _⟩ := hW
  have hA : DataW.TrodAll enc Try.prog W 0 (fun _ => true) true Try.f6.params.toList args.toList ds p := hA0
  rw [Try.params6] at hA hval
  obtain ⟨v0, v1, v2, d0, d1, d2, p0, p1, p2, rfl, rfl, rfl, h0, h1, h2⟩ := trodAll_three hA
  obtain ⟨rfl, rfl⟩ := trodVars_none hV
  have h0k := h0
  have h1k := h1
  obtain ⟨A0, n0, c0, l0, rfl, hn0, hnc0, hm0, hN0, hR0, hF0⟩ := view h0 (okWide_slice Try.underlying22 (hval 0 22 v0 rfl rfl))
  obtain ⟨A1, n1, c1, l1, rfl, hn1, hnc1, hm1, hN1, hR1, _⟩ := view h1 (okWide_slice Try.underlying22 (hval 1 22 v1 rfl rfl))
  obtain ⟨x2, rfl, rfl, rfl, wf2⟩ := open_int Try.underlying3 (hval 2 3 v2 rfl rfl) h2
  clear hA0 hval0
  simp only [List.append_nil] at hW'
  have hlt : ∀ x ∈ p0 ++ p1, x.block < W.heap.size := fun x hx => hW'.lt x (by simpa using hx)
  refine (once_walk A0 A1 n0 n1 c0 c1 l0 l1 x2 W hn0 hnc0 hm0 (hR0.take 8) hN0 hn1 hnc1 hm1 (hR1.take 8) hN1 (hF0.take 8)).mono fun e W' ⟨he, hb⟩ => ?_
  subst he
  have ha := trodAll_mk3 (Below.trod Try.laidOut (by kernel_rfl) (of_decide_eq_true (by kernel_rfl)) h0k hb (fun x hx => hlt x (List.mem_append_left _ hx))) (Below.trod Try.laidOut (by kernel_rfl) (of_decide_eq_true (by kernel_rfl)) h1k hb (fun x hx => hlt x (List.mem_append_right _ hx))) (shut_int Try.underlying3 wf2)
  simp only [List.append_nil] at ha
  exact ⟨_, rfl, _, _, _, [], p0 ++ p1, [], hW', trodAll_mk1 (shut_bool Try.underlying4 _), ha, rfl, hb.frame _, fun h => by cases h⟩
theorem setsOnce_holds : Rows.SetsOnceSaid :=
  OpenClaim.holds_of_wide 6 Try.f6 rfl rfl rfl rfl rfl rfl rfl ⟨rfl, rfl, rfl, rfl, rfl⟩ rfl rfl rfl rfl rfl (by kernel_rfl) Try.func6 (by kernel_rfl)
    (of_decide_eq_true (by kernel_rfl)) (by unfold Func.isWrapper; first | (rw [if_pos (by decide +kernel)]; kernel_rfl) | (rw [if_neg (by decide +kernel)]; exact ⟨rfl, rfl⟩))
    (fun os started H enc _ => setsOnce_lifted os started H enc)
end Go.Proofs.Ytfjcljhodnkieaa
