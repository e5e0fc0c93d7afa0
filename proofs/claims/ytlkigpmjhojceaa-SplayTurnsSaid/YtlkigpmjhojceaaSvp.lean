/-
  Stage 9: contracts of the knots' small functions: hang, refresh. Condition: counts that are small.
-/
import Derived.Test.YtlkigpmjhojceaaSvn
namespace Go.Proofs.Ytlkigpmjhojceaa
open Go.ChangeShapes Go.WideShapes Go.ChangeAt Go.RowKit
set_option linter.unusedVariables false
set_option linter.unusedSimpArgs false
namespace Sv
section
variable {w : World} {B p g n c : Nat} {M : Nat → Nd}
theorem sz_in (s : Bool) : 0 ≤ sz s ∧ sz s < 2 := by cases s <;> simp [sz]
set_option maxHeartbeats 1000000 in
theorem hang_any (h : SpM w B p g n M c) {v : Nat} (hv : v < n) (s : Bool) (y : Option Nat) (hy : ∀ z, y = some z → z < n) :
    Calls Try.prog 53 #[.pointer (some ⟨p, 0, none⟩), .int .i64 (v : Int), .int .i64 (sz s), .int .i64 (oi y)] w fun e w' => e = .returned (.tuple #[]) ∧ SpA w w' B p g n (hangM M v s y) c := by
  have n0 := h.head
  have hvi : (v : Int) < (n : Int) := by omega
  have hv0 : (0 : Int) ≤ (v : Int) := by omega
  cases s
  case false =>
    have c5 := h.cells hv 5 _ rfl
    have f5 := h.froz (v * 9 + 5)
    have g1 := h.at.put hv (j := 5) (k := { M v with b := setb (M v).b false y }) (by omega) (u := .int .i64 (oi y)) (by simp [encN, setb])
    cases y with
    | none =>
      have HE := Lib.hid (show SpA w _ B p g n (hangM M v false none) c from g1)
      generalize hangM M v false none = M2 at *
      clear h g1 hy
      simp only [oi, sz] at HE c5 ⊢
      go_enter Try.func53, Try.ntmps53
      go_wp2
      go_end0
      exact ⟨rfl, HE.out⟩
    | some y =>
      have hyn := hy y rfl
      have hyi : (y : Int) < (n : Int) := by omega
      have hy0 : (0 : Int) ≤ (y : Int) := by omega
      have hym : ¬ (y : Int) = -1 := by omega
      have c4 := h.cells hyn 4 _ rfl
      have f4 := h.froz (y * 9 + 4)
      have g2 := g1.put hyn (j := 4) (k := { (upd M v { M v with b := setb (M v).b false (some y) }) y with up := some v }) (by omega) (u := .int .i64 (v : Int)) rfl
      have HE := Lib.hid (show SpA w _ B p g n (hangM M v false (some y)) c from g2)
      generalize hangM M v false (some y) = M2 at *
      clear h g1 g2 hy
      simp only [oi, sz] at HE c5 ⊢
      go_enter Try.func53, Try.ntmps53
      go_wp2
      go_end0
      exact ⟨rfl, HE.out⟩
  case true =>
    have c5 := h.cells hv 6 _ rfl
    have f5 := h.froz (v * 9 + 6)
    have g1 := h.at.put hv (j := 6) (k := { M v with b := setb (M v).b true y }) (by omega) (u := .int .i64 (oi y)) (by simp [encN, setb])
    cases y with
    | none =>
      have HE := Lib.hid (show SpA w _ B p g n (hangM M v true none) c from g1)
      generalize hangM M v true none = M2 at *
      clear h g1 hy
      simp only [oi, sz] at HE c5 ⊢
      go_enter Try.func53, Try.ntmps53
      go_wp2
      go_end0
      exact ⟨rfl, HE.out⟩
    | some y =>
      have hyn := hy y rfl
      have hyi : (y : Int) < (n : Int) := by omega
      have hy0 : (0 : Int) ≤ (y : Int) := by omega
      have hym : ¬ (y : Int) = -1 := by omega
      have c4 := h.cells hyn 4 _ rfl
      have f4 := h.froz (y * 9 + 4)
      have g2 := g1.put hyn (j := 4) (k := { (upd M v { M v with b := setb (M v).b true (some y) }) y with up := some v }) (by omega) (u := .int .i64 (v : Int)) rfl
      have HE := Lib.hid (show SpA w _ B p g n (hangM M v true (some y)) c from g2)
      generalize hangM M v true (some y) = M2 at *
      clear h g1 g2 hy
      simp only [oi, sz] at HE c5 ⊢
      go_enter Try.func53, Try.ntmps53
      go_wp2
      go_end0
      exact ⟨rfl, HE.out⟩
end
end Sv
end Go.Proofs.Ytlkigpmjhojceaa
