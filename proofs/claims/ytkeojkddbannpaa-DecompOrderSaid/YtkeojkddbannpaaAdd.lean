/-
  The layer num's Add, called with any numbers: what the document's arithmetic says (valV, valE); the world is as it was.
  Conditions: the arguments are 64-bit numbers.
-/
import Derived.Test.YtkeojkddbannpaaRows
import Derived.WalkKit
import Derived.ProofKit
import Derived.OpenShut
import Derived.BigQuiet
import Derived.Deep.QuietTactic
import Derived.Lib.Hide
import Derived.Lib.Mul64
import Derived.Lib.BitFns
import Derived.Lib.Strings
import Derived.Lib.Slices
import Derived.Lib.Small
import Derived.Lib.Walk
import Derived.Laws.Bits64b
namespace Go.Proofs.Ytkeojkddbannpaa
open Go.ChangeShapes Go.WideShapes Go.ChangeAt Go.RowKit
set_option linter.unusedVariables false
namespace Num

/-- is it a 64-bit number? -/
def inB (a : Int) : Bool := decide (-9223372036854775808 ≤ a ∧ a ≤ 9223372036854775807)
/-- the answer's number and its error, where the exact number is x -/
def valV (x : Int) : Int := if inB x then x else 0
def valE (x : Int) : Int := if inB x then 0 else 3

theorem valV_in {x : Int} (h0 : -9223372036854775808 ≤ x) (h1 : x ≤ 9223372036854775807) : valV x = x := by
  unfold valV inB; rw [if_pos (decide_eq_true ⟨h0, h1⟩)]
theorem valE_in {x : Int} (h0 : -9223372036854775808 ≤ x) (h1 : x ≤ 9223372036854775807) : valE x = 0 := by
  unfold valE inB; rw [if_pos (decide_eq_true ⟨h0, h1⟩)]
theorem valV_out {x : Int} (h : x < -9223372036854775808 ∨ 9223372036854775807 < x) : valV x = 0 := by
  unfold valV inB; rw [if_neg (by simp; omega)]
theorem valE_out {x : Int} (h : x < -9223372036854775808 ∨ 9223372036854775807 < x) : valE x = 3 := by
  unfold valE inB; rw [if_neg (by simp; omega)]
theorem valV_bd (x : Int) : -9223372036854775808 ≤ valV x ∧ valV x ≤ 9223372036854775807 := by
  by_cases h : -9223372036854775808 ≤ x ∧ x ≤ 9223372036854775807
  · rw [valV_in h.1 h.2]; exact h
  · rw [valV_out (by omega)]; omega
theorem valE_cases (x : Int) : (valE x = 0 ∧ -9223372036854775808 ≤ x ∧ x ≤ 9223372036854775807 ∧ valV x = x) ∨ (valE x = 3 ∧ (x < -9223372036854775808 ∨ 9223372036854775807 < x) ∧ valV x = 0) := by
  by_cases h : -9223372036854775808 ≤ x ∧ x ≤ 9223372036854775807
  · exact .inl ⟨valE_in h.1 h.2, h.1, h.2, valV_in h.1 h.2⟩
  · exact .inr ⟨valE_out (by omega), by omega, valV_out (by omega)⟩

theorem ret2 {a b c d : Int} (h1 : a = c) (h2 : b = d) : Ending.returned (.tuple #[.int .i64 a, .int .i64 b]) = .returned (.tuple #[.int .i64 c, .int .i64 d]) := by rw [h1, h2]

/-- num.Add -/
theorem add_any (a b : Int) (w : World) (ha : -9223372036854775808 ≤ a) (ha' : a ≤ 9223372036854775807) (hb : -9223372036854775808 ≤ b) (hb' : b ≤ 9223372036854775807) :
    Calls Try.prog 49 #[.int .i64 a, .int .i64 b] w fun e w' => e = .returned (.tuple #[.int .i64 (valV (a + b)), .int .i64 (valE (a + b))]) ∧ w = w' := by
  by_cases hi : -9223372036854775808 ≤ a + b ∧ a + b ≤ 9223372036854775807
  · obtain ⟨h0, h1⟩ := hi
    by_cases c : b < 0
    · have c2 : a + b < a := by omega
      go_enter Try.func49, Try.ntmps49
      go_wp2
      go_ret2
      exact ⟨ret2 (valV_in h0 h1).symm (valE_in h0 h1).symm, rfl⟩
    · have c2 : ¬ a + b < a := by omega
      go_enter Try.func49, Try.ntmps49
      go_wp2
      go_ret2
      exact ⟨ret2 (valV_in h0 h1).symm (valE_in h0 h1).symm, rfl⟩
  · have ho : a + b < -9223372036854775808 ∨ 9223372036854775807 < a + b := by omega
    have hw : (decide (wrap64 (a + b) < a) == decide (b < 0)) = false := by unfold wrap64; simp; omega
    have e1 := valV_out ho
    have e2 := valE_out ho
    have E1 := Lib.hid e1
    have E2 := Lib.hid e2
    clear e1 e2 hi
    go_enter Try.func49, Try.ntmps49
    go_wp2
    go_ret2
    exact ⟨ret2 E1.out.symm E2.out.symm, rfl⟩

end Num
end Go.Proofs.Ytkeojkddbannpaa
