/-
  Contract of the examples that every statement of chapter 1 asks first: they come out as the chapter says, and the world is as it was. No condition.
-/
import Derived.Test.YtohfgjaajldccaaNum
namespace Go.Proofs.Ytohfgjaajldccaa
open Go.ChangeShapes Go.WideShapes Go.ChangeAt Go.RowKit
set_option linter.unusedVariables false
namespace Num
theorem shown_any (w : World) :
    Calls Try.prog 11 #[] w fun e w' => e = .returned (.bool true) ∧ w = w' := by
  have c1 := add_any 4611686018427387904 4611686018427387904 w (by omega) (by omega) (by omega) (by omega)
  rw [valV_out (by omega), valE_out (by omega)] at c1
  have c2 := add_any 2 3 w (by omega) (by omega) (by omega) (by omega)
  rw [valV_in (by omega) (by omega), valE_in (by omega) (by omega)] at c2
  have C1 := Lib.hid c1
  have C2 := Lib.hid c2
  clear c1 c2
  go_enter Try.func11, Try.ntmps11
  go_wp2_with fail
  refine C1.out.mono ?_
  rintro e w' ⟨rfl, rfl⟩
  go_wp2_with fail
  refine C2.out.mono ?_
  rintro e w' ⟨rfl, rfl⟩
  go_wp2
  go_ret
  exact ⟨rfl, rfl⟩
end Num
end Go.Proofs.Ytohfgjaajldccaa
