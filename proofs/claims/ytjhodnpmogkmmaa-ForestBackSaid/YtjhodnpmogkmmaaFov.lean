/-
  Stage 10: who is above each node, as a row of numbers. No condition.
-/
import Derived.Test.YtjhodnpmogkmmaaFoa
namespace Go.Proofs.Ytjhodnpmogkmmaa
set_option linter.unusedVariables false
set_option linter.unusedSimpArgs false
namespace Fo
def ovL (n : Nat) (ov : Nat → Option Nat) : List Int := (List.range n).map fun i => oz (ov i)
theorem ovL_len (n : Nat) (ov : Nat → Option Nat) : (ovL n ov).length = n := by simp [ovL]
theorem ovL_at {n i : Nat} (ov : Nat → Option Nat) (h : i < n) : Ne.amt (ovL n ov) i = oz (ov i) := by simp [ovL, Ne.amt, h]
theorem ovL_set {n i : Nat} (ov : Nat → Option Nat) (h : i < n) (y : Option Nat) : (ovL n ov).set i (oz y) = ovL n (fun z => if z = i then y else ov z) := by
  refine List.ext_getElem (by simp [ovL]) fun k h1 h2 => ?_
  simp only [ovL, List.getElem_set, List.getElem_map, List.getElem_range]
  by_cases c : i = k
  · subst c; simp
  · rw [if_neg c, if_neg (fun e => c e.symm)]
end Fo
end Go.Proofs.Ytjhodnpmogkmmaa
