/-
  Contract of the laws' walked: a walk from the source to the sink. Condition: the network is right, there are as many amounts as arcs.
-/
import Derived.Test.YtkeojkddbannpaaFexs
import Derived.Test.YtkeojkddbannpaaRtm
import Derived.Test.YtkeojkddbannpaaIrow
namespace Go.Proofs.Ytkeojkddbannpaa
open Go.ChangeShapes Go.WideShapes Go.ChangeAt Go.RowKit
set_option linter.unusedVariables false
set_option linter.unusedSimpArgs false
namespace Ne
def lenOf : Value → Nat
  | .slice _ n _ => n
  | _ => 0
theorem replB_false (m : Nat) (i : Nat) : (List.replicate m false).getD i false = false := by
  by_cases h : i < m <;> simp [h]
end Ne
end Go.Proofs.Ytkeojkddbannpaa
