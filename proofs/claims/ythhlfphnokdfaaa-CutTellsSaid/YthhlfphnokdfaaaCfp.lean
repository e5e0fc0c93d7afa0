/-
  What is told of the least and the greatest cut of a flow, and of a flow and a cut together, plainly. No condition.
-/
import Derived.Test.YthhlfphnokdfaaaCtb
namespace Go.Proofs.Ythhlfphnokdfaaa
set_option linter.unusedVariables false
set_option linter.unusedSimpArgs false
namespace Ne
def firE (n : Net) (f : List Int) (M : List Bool) : Int := if chkF n f ≠ 0 then chkF n f else if M.getD n.t.toNat false = true then 8 else 0
def firV (n : Net) (f : List Int) (M : List Bool) : List Int := if firE n f M ≠ 0 then [] else nodesTo (fun v => M.getD v false) n.n.toNat
def lasE (n : Net) (f : List Int) (B : List Bool) : Int := if chkF n f ≠ 0 then chkF n f else if B.getD n.s.toNat false = true then 8 else 0
def lasV (n : Net) (f : List Int) (B : List Bool) : List Int := if lasE n f B ≠ 0 then [] else nodesTo (fun v => !(B.getD v false)) n.n.toNat
def proE (n : Net) (f S : List Int) : Int := if chkF n f ≠ 0 then chkF n f else if cutE n S ≠ 0 then cutE n S else if vaV n f ≠ capV n S then 8 else 0
theorem firE_bad {n : Net} {f : List Int} (M : List Bool) (h : chkF n f ≠ 0) : firE n f M = chkF n f := by unfold firE; rw [if_pos h]
theorem lasE_bad {n : Net} {f : List Int} (M : List Bool) (h : chkF n f ≠ 0) : lasE n f M = chkF n f := by unfold lasE; rw [if_pos h]
theorem firE_none {n : Net} {f : List Int} {M : List Bool} (h : chkF n f = 0) (h2 : M.getD n.t.toNat false = true) : firE n f M = 8 := by unfold firE; rw [if_neg (by simpa using h), if_pos h2]
theorem lasE_none {n : Net} {f : List Int} {M : List Bool} (h : chkF n f = 0) (h2 : M.getD n.s.toNat false = true) : lasE n f M = 8 := by unfold lasE; rw [if_neg (by simpa using h), if_pos h2]
theorem firE_ok {n : Net} {f : List Int} {M : List Bool} (h : chkF n f = 0) (h2 : M.getD n.t.toNat false = false) : firE n f M = 0 := by unfold firE; rw [if_neg (by simpa using h), if_neg (by rw [h2]; decide)]
theorem lasE_ok {n : Net} {f : List Int} {M : List Bool} (h : chkF n f = 0) (h2 : M.getD n.s.toNat false = false) : lasE n f M = 0 := by unfold lasE; rw [if_neg (by simpa using h), if_neg (by rw [h2]; decide)]
theorem firV_bad {n : Net} {f : List Int} {M : List Bool} (h : firE n f M ≠ 0) : firV n f M = [] := by unfold firV; rw [if_pos h]
theorem lasV_bad {n : Net} {f : List Int} {M : List Bool} (h : lasE n f M ≠ 0) : lasV n f M = [] := by unfold lasV; rw [if_pos h]
theorem firV_ok {n : Net} {f : List Int} {M : List Bool} (h : firE n f M = 0) : firV n f M = nodesTo (fun v => M.getD v false) n.n.toNat := by unfold firV; rw [if_neg (by simpa using h)]
theorem lasV_ok {n : Net} {f : List Int} {M : List Bool} (h : lasE n f M = 0) : lasV n f M = nodesTo (fun v => !(M.getD v false)) n.n.toNat := by unfold lasV; rw [if_neg (by simpa using h)]
theorem proE_flow {n : Net} {f : List Int} (S : List Int) (h : chkF n f ≠ 0) : proE n f S = chkF n f := by unfold proE; rw [if_pos h]
theorem proE_cut {n : Net} {f S : List Int} (h : chkF n f = 0) (h2 : cutE n S ≠ 0) : proE n f S = cutE n S := by unfold proE; rw [if_neg (by simpa using h), if_pos h2]
theorem proE_none {n : Net} {f S : List Int} (h : chkF n f = 0) (h2 : cutE n S = 0) (h3 : vaV n f ≠ capV n S) : proE n f S = 8 := by unfold proE; rw [if_neg (by simpa using h), if_neg (by simpa using h2), if_pos h3]
theorem proE_ok {n : Net} {f S : List Int} (h : chkF n f = 0) (h2 : cutE n S = 0) (h3 : vaV n f = capV n S) : proE n f S = 0 := by unfold proE; rw [if_neg (by simpa using h), if_neg (by simpa using h2), if_neg (by simpa using h3)]
theorem cut_exist (n : Net) (f : List Int) : ∃ M B, (chkF n f = 0 → IsReach n f 1 M) ∧ (chkF n f = 0 → IsReach (turnN n) f 1 B) := by
  by_cases c : chkF n f = 0
  · have hR := right_of (chkA_ok (chkF_ok c).1).1
    obtain ⟨M, hM⟩ := reach_exists hR f 1
    obtain ⟨B, hB⟩ := reach_exists (right_back hR) f 1
    exact ⟨M, B, fun _ => hM, fun _ => hB⟩
  · exact ⟨[], [], fun h => absurd h c, fun h => absurd h c⟩
theorem firV_len (n : Net) (f : List Int) (M : List Bool) : (firV n f M).length ≤ 500 := by
  by_cases c : firE n f M = 0
  · have h0 : chkF n f = 0 := by
      by_cases h : chkF n f = 0
      · exact h
      · rw [firE_bad M h] at c; exact absurd c h
    have hR := right_of (chkA_ok (chkF_ok h0).1).1
    have := hR.n1
    rw [firV_ok c]; have := nodes_len (fun v => M.getD v false) n.n.toNat; omega
  · rw [firV_bad c]; simp
theorem lasV_len (n : Net) (f : List Int) (M : List Bool) : (lasV n f M).length ≤ 500 := by
  by_cases c : lasE n f M = 0
  · have h0 : chkF n f = 0 := by
      by_cases h : chkF n f = 0
      · exact h
      · rw [lasE_bad M h] at c; exact absurd c h
    have hR := right_of (chkA_ok (chkF_ok h0).1).1
    have := hR.n1
    rw [lasV_ok c]; have := nodes_len (fun v => !(M.getD v false)) n.n.toNat; omega
  · rw [lasV_bad c]; simp
/-- both tell the same of where one comes -/
theorem las_fir {n : Net} (hR : Right n) {f : List Int} {M B : List Bool} (hM : IsReach n f 1 M) (hB : IsReach (turnN n) f 1 B) : lasE n f B = firE n f M := by
  unfold lasE firE; rw [reach_back hR hM hB]
end Ne
end Go.Proofs.Ythhlfphnokdfaaa
