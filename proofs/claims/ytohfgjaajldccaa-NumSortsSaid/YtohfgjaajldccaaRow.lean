/-
  What a slice of 64-bit numbers that came in tells a walk: its elements lie in memory, each a 64-bit number. No condition.
-/
import Derived.Test.YtohfgjaajldccaaSumm
namespace Go.Proofs.Ytohfgjaajldccaa
open Go.ChangeShapes Go.WideShapes Go.ChangeAt Go.RowKit
set_option linter.unusedVariables false
namespace Num
theorem row_of {w : World} {a : Option Addr} {len cap : Nat} {zs : List Int}
    (h : (a = none ∧ len = 0 ∧ cap = 0 ∧ zs = []) ∨
      ∃ x, a = some x ∧ len ≤ cap ∧ cap ≤ maxLen ∧ zs.length = cap ∧ (∀ i, i < zs.length → w.cell? (x.add i) = some (.int .i64 (zs.getD i 0))) ∧ ∀ n ∈ zs, (Lit.int .i64 n).wf = true) :
    ∃ l : List Int, l = zs.take len ∧ l.length = len ∧ Row w a l := by
  rcases h with ⟨rfl, rfl, rfl, rfl⟩ | ⟨x, rfl, hl, hm, hz, hcell, hwz⟩
  · exact ⟨[], rfl, rfl, .inl rfl, by simp, by simp⟩
  · refine ⟨zs.take len, rfl, by simp; omega, ?_, ?_, ?_⟩
    · by_cases hn : zs.take len = []
      · exact .inl hn
      · right
        have h0 : 0 < zs.length := by
          rcases zs with _ | ⟨z, r⟩
          · simp at hn
          · simp
        obtain ⟨b, off, spot⟩ := x
        have hc := hcell 0 h0
        have hspot : spot = none := by simpa [Addr.add] using World.cell?_spot hc
        subst hspot
        refine ⟨b, off, rfl, fun i hi => ?_⟩
        have hi' : i < len := by simp at hi; omega
        have := hcell i (by omega)
        have ea : (⟨b, off, none⟩ : Addr).add i = ⟨b, off + i, none⟩ := by
          unfold Addr.add; by_cases h : i = 0
          · subst h; simp
          · simp [h]
        rw [ea] at this
        rw [this]
        simp [List.getD, hi']
    · unfold maxLen at hm; simp; omega
    · intro n hn
      have := bounds_i64 (hwz n (List.mem_of_mem_take hn))
      omega
/-- a row reads the same in a world in which nothing old has changed -/
theorem row_below {w w2 : World} {a : Option Addr} {zs : List Int} (hr : Row w a zs) (hb : Below w.heap.size w w2) : Row w2 a zs := by
  obtain ⟨h1, h2, h3⟩ := hr
  refine ⟨?_, h2, h3⟩
  rcases h1 with h1 | ⟨b, off, rfl, hc⟩
  · exact .inl h1
  · refine .inr ⟨b, off, rfl, fun i hi => ?_⟩
    rw [hb.cell (World.block_lt_of_cell? _ _ (hc i hi))]; exact hc i hi
end Num
end Go.Proofs.Ytohfgjaajldccaa
