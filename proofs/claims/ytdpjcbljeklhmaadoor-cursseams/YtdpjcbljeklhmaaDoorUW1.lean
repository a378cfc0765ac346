/-
  What the small functions on numbers answer: Good, Next, Prev of utf and of the page's own, and Within, for every int.
-/
import Derived.Test.YtdpjcbljeklhmaaDoorProg
import Derived.WalkKit
import Derived.WalkSpells
import Derived.WalkLawsBesides
namespace Go.Proofs.YtdpjcbljeklhmaaDoor.U
open Go.RowKit

def goodB (x : Int) : Bool := decide ((0 ≤ x ∧ x ≤ 55295) ∨ (57344 ≤ x ∧ x ≤ 1114111) ∨ (1114240 ≤ x ∧ x ≤ 1114367))
def nextI (x : Int) : Int := if x < 0 then 0 else if x < 55295 then x + 1 else if x < 57344 then 57344 else if x < 1114111 then x + 1 else if x < 1114240 then 1114240 else if x < 1114367 then x + 1 else -1
def prevI (x : Int) : Int := if 1114367 < x then 1114367 else if 1114240 < x then x - 1 else if 1114111 < x then 1114111 else if 57344 < x then x - 1 else if 55295 < x then 55295 else if 0 < x then x - 1 else -1
theorem ret_bool {a b : Bool} (h : a = b) : Ending.returned (.bool a) = .returned (.bool b) := by rw [h]
theorem ret_int {k : IntKind} {a b : Int} (h : a = b) : Ending.returned (.int k a) = .returned (.int k b) := by rw [h]

end Go.Proofs.YtdpjcbljeklhmaaDoor.U
