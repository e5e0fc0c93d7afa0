/-
  Contract of chapter 2's example. Condition: the library's variables hold what start-up lays (Vars).
-/
import Derived.Test.YtbcdialohoffhaaDoorNumb
namespace Go.Proofs.YtbcdialohoffhaaDoor
open Go.ChangeShapes Go.WideShapes Go.ChangeAt Go.RowKit
set_option linter.unusedVariables false
namespace Txt
theorem shown_any (w : World) (hv : Vars w) : Calls Tryd.prog 10 #[] w fun e w' => e = .returned (.bool true) ∧ Below w.heap.size w w' := by
  have h := number_any ⟨#[45, 48, 48, 55]⟩ w (by decide) hv
  have e1 : numV (⟨#[45, 48, 48, 55]⟩ : ByteArray).data.toList = -7 := by kernel_rfl
  have e2 : numE (⟨#[45, 48, 48, 55]⟩ : ByteArray).data.toList = 0 := by kernel_rfl
  rw [e1, e2] at h
  have H := Lib.hid h
  clear h e1 e2
  go_enter Tryd.func10, Tryd.ntmps10
  go_wp2_with (go_at_call 11; refine H.out.mono ?_; rintro e w' ⟨rfl, hb⟩)
  go_ret
  exact ⟨rfl, hb⟩
end Txt
end Go.Proofs.YtbcdialohoffhaaDoor
