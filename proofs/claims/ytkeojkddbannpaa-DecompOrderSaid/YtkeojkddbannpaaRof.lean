/-
  A slice that reads as a row, cut and read. No condition.
-/
import Derived.Test.YtkeojkddbannpaaIrow
namespace Go.Proofs.Ytkeojkddbannpaa
open Go.ChangeShapes Go.WideShapes Go.ChangeAt Go.RowKit
set_option linter.unusedVariables false
set_option linter.unusedSimpArgs false
namespace Ne
theorem rowOf_nil (w : World) (lo hi : Nat) : RowOf w lo hi (.slice none 0 0) [] := ⟨none, 0, rfl, by simp, by unfold maxLen; omega, .inl rfl⟩
theorem rowOf_drop {w : World} {lo hi : Nat} {b off m c : Nat} {u : List Nat} (h : RowOf w lo hi (.slice (some ⟨b, off, none⟩) m c) u) {i : Nat} (hi2 : i < u.length) :
    RowOf w lo hi (.slice (some ⟨b, off + i, none⟩) (m - i) (c - i)) (u.drop i) := by
  obtain ⟨A', c', h1, h2, h3, h4⟩ := h
  simp only [Value.slice.injEq] at h1
  obtain ⟨rfl, rfl, rfl⟩ := h1
  refine ⟨_, _, by rw [List.length_drop], by rw [List.length_drop]; omega, by omega, ?_⟩
  rcases h4 with h4 | ⟨b', off', e, h6, h7, h8⟩
  · rw [h4] at hi2; simp at hi2
  · cases e
    refine .inr ⟨b, off + i, rfl, h6, h7, fun j hj => ?_⟩
    rw [List.length_drop] at hj
    rw [show off + i + j = off + (i + j) by omega, h8 (i + j) (by omega)]
    simp [List.getD_eq_getElem?_getD, List.getElem?_drop]
/-- what a row from lo to hi tells at an index -/
theorem rowOf_at {w : World} {lo hi : Nat} {y : Value} {u : List Nat} (h : RowOf w lo hi y u) {i : Nat} (hi2 : i < u.length) : ∃ b off c, y = .slice (some ⟨b, off, none⟩) u.length c ∧ u.length ≤ c ∧ c ≤ maxLen ∧ lo ≤ b ∧ b < hi ∧ ∀ j, j < u.length → w.cell? ⟨b, off + j, none⟩ = some (.int .i64 ((u.getD j 0 : Nat) : Int)) := by
  obtain ⟨A, c, h1, h2, h3, h4⟩ := h
  rcases h4 with h4 | ⟨b, off, rfl, h6, h7, h8⟩
  · rw [h4] at hi2; simp at hi2
  · exact ⟨b, off, c, h1, h2, h3, h6, h7, h8⟩
end Ne
end Go.Proofs.Ytkeojkddbannpaa
