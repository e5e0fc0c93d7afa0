/-
  Contract of the document's Check (reference). Condition: at most a million arcs (any would do), numbers of 64 bits.
-/
import Derived.Test.YtkeojkddbannpaaNets
import Derived.LoopTactic
import Derived.Below
namespace Go.Proofs.Ytkeojkddbannpaa
open Go.ChangeShapes Go.WideShapes Go.ChangeAt Go.RowKit
set_option linter.unusedVariables false
set_option linter.unusedSimpArgs false
namespace Ne
/-- a node's number: 1 to n -/
def isNode (n v : Int) : Bool := decide (1 ≤ v) && decide (v ≤ n)
def checkL (n : Int) : Int → List Arc → Int
  | _, [] => 0
  | left, a :: l => if isNode n a.fr && isNode n a.to then (if a.cap < 0 then 3 else if left < a.cap then 7 else checkL n (left - a.cap) l) else 4
def checkN (n : Net) : Int :=
  if n.n < 2 ∨ 500 < n.n then 3 else if isNode n.n n.s && isNode n.n n.t then (if n.s = n.t then 5 else if 2000 < n.l.length then 6 else checkL n.n 4611686018427387903 n.l) else 4
theorem drop_at {l : List Arc} {k : Nat} {a : Arc} (h : l[k]? = some a) : l.drop k = a :: l.drop (k + 1) := by
  obtain ⟨hk, he⟩ := List.getElem?_eq_some_iff.1 h
  rw [List.drop_eq_getElem_cons hk, he]

end Ne
end Go.Proofs.Ytkeojkddbannpaa
