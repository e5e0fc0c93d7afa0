/-
  Rows that came in, told as lists; an arc in a new block. No condition.
-/
import Derived.Test.YtcelggfnfnaajaaNbox
namespace Go.Proofs.Ytcelggfnfnaajaa
open Go.ChangeShapes Go.WideShapes Go.ChangeAt Go.RowKit
set_option linter.unusedVariables false
set_option linter.unusedSimpArgs false
namespace Ne
theorem arow_at1 (w : World) {b : Nat} (hb : b = w.heap.size) (a : Arc) : ARow (w.alloc (.cells #[.int .i64 a.fr, .int .i64 a.to, .int .i64 a.cap] 53)) (some ⟨b, 0, none⟩) [a] := by
  subst hb
  refine .inr ⟨w.heap.size, 0, rfl, by simp, ?_⟩
  intro i y hi j v hv
  match i, hi with
  | 0, hi =>
    simp at hi; subst hi
    match j, hv with
    | 0, hv => simp [encA] at hv; subst hv; exact World.cell?_alloc_new w _ _ 0
    | 1, hv => simp [encA] at hv; subst hv; exact World.cell?_alloc_new w _ _ 1
    | 2, hv => simp [encA] at hv; subst hv; exact World.cell?_alloc_new w _ _ 2
    | (j + 3), hv => simp [encA] at hv
  | (i + 1), hi => simp at hi
/-- a row of numbers that came in -/
theorem ints_row {w : World} {a : Option Addr} {len cap : Nat} {zs : List Int} (h : (a = none ∧ len = 0 ∧ cap = 0 ∧ zs = []) ∨
    ∃ x, a = some x ∧ len ≤ cap ∧ cap ≤ maxLen ∧ zs.length = cap ∧ (∀ i, i < zs.length → w.cell? (x.add i) = some (.int .i64 (zs.getD i 0))) ∧ ∀ n ∈ zs, (Lit.int .i64 n).wf = true) :
    ∃ l : List Int, l.length = len ∧ IRow w a l ∧ (∀ n ∈ l, -9223372036854775808 ≤ n ∧ n ≤ 9223372036854775807) ∧ len ≤ cap ∧ cap ≤ maxLen ∧ (a = none → cap = 0) := by
  rcases h with ⟨rfl, rfl, rfl, rfl⟩ | ⟨x, rfl, hl, hm, hz, hcell, hwz⟩
  · exact ⟨[], rfl, .inl rfl, by simp, Nat.le_refl _, by unfold maxLen; omega, fun _ => rfl⟩
  · refine ⟨zs.take len, by simp; omega, ?_, ?_, hl, hm, fun h => by cases h⟩
    · by_cases hn : zs.take len = []
      · exact .inl hn
      · right
        have h0 : 0 < zs.length := by
          rcases zs with _ | ⟨z, r⟩
          · simp at hn
          · simp
        obtain ⟨b, off, spot⟩ := x
        have hc := hcell 0 h0
        have hspot : spot = none := by simpa [Addr.add] using World.cell?_spot hc
        subst hspot
        have e0 : (⟨b, off, none⟩ : Addr).add 0 = ⟨b, off, none⟩ := by unfold Addr.add; simp
        rw [e0] at hc
        refine ⟨b, off, rfl, World.block_lt_of_cell? w _ hc, fun i x hi j v hv => ?_⟩
        have hi2 := (List.getElem?_eq_some_iff.1 hi).1
        have hi' : i < len := by simp at hi2; omega
        have hi3 : i < zs.length := by simp at hi2; omega
        have := hcell i hi3
        rw [Rw.add_at] at this
        match j, hv with
        | 0, hv =>
          simp [encI] at hv; subst hv
          rw [show off + (i * 1 + 0) = off + i by omega, this]
          rw [List.getElem?_take, if_pos hi'] at hi
          simp [List.getD, hi]
        | (j + 1), hv => simp [encI] at hv
    · intro n hn
      have := bounds_i64 (hwz n (List.mem_of_mem_take hn))
      omega
end Ne
end Go.Proofs.Ytcelggfnfnaajaa
