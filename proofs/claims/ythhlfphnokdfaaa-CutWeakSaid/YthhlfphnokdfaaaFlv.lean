/-
  Contract of flow's Value at what is known to be a flow. No condition.
-/
import Derived.Test.YthhlfphnokdfaaaFlc
import Derived.Test.YthhlfphnokdfaaaFval
namespace Go.Proofs.Ythhlfphnokdfaaa
open Go.ChangeShapes Go.WideShapes Go.ChangeAt Go.RowKit
set_option linter.unusedVariables false
set_option linter.unusedSimpArgs false
namespace Ne
section
variable {n : Net} (ao : Option Addr) (cap : Nat) (fo : Option Addr) (fc : Nat) {f : List Int} (w : World) (ck : checkN n = 0) (hr : ARow w ao n.l) (hf : IRow w fo f)
include ck hr hf
theorem val_ok (hl : f.length = n.l.length) : Calls Try.prog 22 #[encN n ao cap, .slice fo n.l.length fc] w fun e w' => e = .returned (.tuple #[.int .i64 (vaV n f), .int .i64 (chkF n f)]) ∧ Below w.heap.size w w' := by
  have h := fval_any n ao cap fo fc f w hr hf (by have := (right_of ck).len; omega) (cap_64 (right_of ck))
  rw [hl] at h; exact h
theorem val_flow (hF : Flow n f) : Calls Try.prog 22 #[encN n ao cap, .slice fo n.l.length fc] w fun e w' => e = .returned (.tuple #[.int .i64 (exc n.l f n.t), .int .i64 0]) ∧ Below w.heap.size w w' := by
  have h := val_ok ao cap fo fc w ck hr hf hF.len
  rw [flow_vaV ck hF, flow_chkF ck hF] at h; exact h
end
end Ne
end Go.Proofs.Ythhlfphnokdfaaa
