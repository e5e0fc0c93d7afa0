/-
  Stage 7: the contracts of level at what is known to be a flow; facts per law. No condition.
  Stage 7's laws: plain facts on levels: of two rooms, far rooms, tracks that lead on, walks. No condition.
-/
import Derived.Test.YtdnchebbdkgccaaDld
namespace Go.Proofs.Ytdnchebbdkgccaa
open Go.ChangeShapes Go.WideShapes Go.ChangeAt Go.RowKit
set_option linter.unusedVariables false
set_option linter.unusedSimpArgs false
namespace Ne
theorem reE_flow {n : Net} {f : List Int} {x : Int} (ck : checkN n = 0) (hF : Flow n f) (hx : 1 ≤ x) : reE n f x = 0 := by
  unfold reE; rw [if_neg (by simpa using flow_chkF ck hF), if_neg (by omega)]
section
variable {n : Net} (ao : Option Addr) (cap : Nat) (fo : Option Addr) (fc : Nat) {f : List Int} (w : World) (ck : checkN n = 0) (hr : ARow w ao n.l) (hf : IRow w fo f) (hF : Flow n f) (x : Int) (hx : 1 ≤ x) {L : List Int} (hL : IsLev n f x L)
include ck hr hf hF hx hL
theorem levels_flow : Calls Try.prog 41 #[encN n ao cap, .slice fo n.l.length fc, .int .i64 x] w fun e w' => ∃ o c, e = .returned (.tuple #[.slice o (n.n.toNat + 1) c, .int .i64 0]) ∧ IRow w' o L ∧ Below w.heap.size w w' := by
  have h := dlevels_any n ao cap fo fc f x L w hr hf (by have := (right_of ck).len; omega) (cap_64 (right_of ck)) (fun _ => hL)
  have e := reE_flow ck hF hx
  rw [hF.len, e, (lvV_ok e).1, hL.len] at h
  exact h
theorem leads_flow : Calls Try.prog 24 #[encN n ao cap, .slice fo n.l.length fc, .int .i64 x] w fun e w' => ∃ o c, e = .returned (.tuple #[.slice o (leadL n.l f x L (2 * n.l.length)).length c, .int .i64 0]) ∧ IRow w' o (encW (leadL n.l f x L (2 * n.l.length))) ∧ Below w.heap.size w w' := by
  have h := dleads_any n ao cap fo fc f x L w hr hf (by have := (right_of ck).len; omega) (cap_64 (right_of ck)) (fun _ => hL)
  have e := reE_flow ck hF hx
  rw [hF.len, e, (lvV_ok e).2.1] at h
  exact h
theorem deep_flow : Calls Try.prog 23 #[encN n ao cap, .slice fo n.l.length fc, .int .i64 x] w fun e w' => e = .returned (.tuple #[.int .i64 (amt L n.t.toNat), .int .i64 0]) ∧ Below w.heap.size w w' := by
  have h := ddeep_any n ao cap fo fc f x L w hr hf (by have := (right_of ck).len; omega) (cap_64 (right_of ck)) (fun _ => hL)
  have e := reE_flow ck hF hx
  rw [hF.len, e, (lvV_ok e).2.2] at h
  exact h
end
end Ne
end Go.Proofs.Ytdnchebbdkgccaa
