/-
  Contract of the laws' pick: which of n things a raw number speaks of. Condition: n is above 0.
-/
import Derived.Test.YtkeojkddbannpaaRows
import Derived.WalkKit
import Derived.ProofKit
import Derived.OpenShut
import Derived.BigQuiet
import Derived.Deep.QuietTactic
import Derived.Lib.Hide
import Derived.Lib.Slices
import Derived.Lib.Small
import Derived.Lib.Walk
import Derived.WalkSpells
import Derived.WalkLawsBesides
namespace Go.Proofs.Ytkeojkddbannpaa
open Go.ChangeShapes Go.WideShapes Go.ChangeAt Go.RowKit
set_option linter.unusedVariables false
namespace Ne

theorem retI {k : IntKind} {a b : Int} (h : a = b) : Ending.returned (.int k a) = .returned (.int k b) := by rw [h]
theorem retB {a b : Bool} (h : a = b) : Ending.returned (.bool a) = .returned (.bool b) := by rw [h]
/-- the raw number without its sign -/
def plainN (c : Int) : Int := if c < 0 then -(c + 1) else c
def pickN (c n : Int) : Int := plainN c % n
theorem plainN_bd {c : Int} (h0 : -9223372036854775808 ≤ c) (h1 : c ≤ 9223372036854775807) : 0 ≤ plainN c ∧ plainN c ≤ 9223372036854775807 := by unfold plainN; split <;> omega
theorem pickN_bd {c n : Int} (hn : 0 < n) : 0 ≤ pickN c n ∧ pickN c n < n := by
  unfold pickN; exact ⟨Int.emod_nonneg _ (by omega), Int.emod_lt_of_pos _ hn⟩
theorem pick_any (c n : Int) (w : World) (h0 : -9223372036854775808 ≤ c) (h1 : c ≤ 9223372036854775807) (hn : 0 < n) (hn1 : n ≤ 9223372036854775807) :
    Calls Try.prog 21 #[.int .i64 c, .int .i64 n] w fun e w' => e = .returned (.int .i64 (pickN c n)) ∧ w = w' := by
  have hn0 : (n == 0) = false := by simp; omega
  by_cases hc : c < 0
  · have e : pickN c n = (-(c + 1)) % n := by unfold pickN plainN; rw [if_pos hc]
    have HE := Lib.hid e
    have hx : 0 ≤ -(c + 1) := by omega
    clear e
    go_enter Try.func21, Try.ntmps21
    go_wp2
    go_ret
    exact ⟨retI (by rw [HE.out, ← Int.neg_tmod, Int.tmod_eq_emod_of_nonneg hx]), rfl⟩
  · have e : pickN c n = c % n := by unfold pickN plainN; rw [if_neg hc]
    have HE := Lib.hid e
    clear e
    go_enter Try.func21, Try.ntmps21
    go_wp2
    go_ret
    exact ⟨retI HE.out.symm, rfl⟩
end Ne
end Go.Proofs.Ytkeojkddbannpaa
