/-
  Stage 9: plain facts of SplayAdds. No condition.
-/
import Derived.Test.YtlkigpmjhojceaaSpl
namespace Go.Proofs.Ytlkigpmjhojceaa
open Go.ChangeShapes Go.WideShapes Go.ChangeAt Go.RowKit
set_option linter.unusedVariables false
set_option linter.unusedSimpArgs false
namespace Sp
theorem addS_row (s : St) (x d y : Int) : rowZ (addS s x d) y = rowZ s y := by unfold addS; split <;> rfl
theorem addS_len (s : St) (x d : Int) : (addS s x d).v.length = s.v.length := by
  unfold addS; split
  · exact addL_len _ _ _
  · rfl
theorem addS_at {s : St} {x d : Int} {i : Nat} (hi : i < s.v.length) : Ne.amt (addS s x d).v i = if addE s x d = 0 ∧ i ∈ rowZ s x then Ne.amt s.v i + d else Ne.amt s.v i := by
  unfold addS
  by_cases c : addE s x d = 0
  · rw [if_pos c]
    show Ne.amt (addL s.v (rowZ s x) d) i = _
    rw [addL_at hi]
    by_cases e : i ∈ rowZ s x
    · rw [if_pos e, if_pos ⟨c, e⟩]
    · rw [if_neg e, if_neg fun h => e h.2]
  · rw [if_neg c, if_neg fun h => c h.1]
theorem addE_two {s : St} {x d : Int} (h : rowZ s x ≠ []) : addE s x d = 0 ∨ addE s x d = 3 := by
  unfold addE
  rw [if_neg h]
  split
  · exact .inl rfl
  · exact .inr rfl
theorem addE_nought {s : St} (hg : Good s) {x : Int} (h : rowZ s x ≠ []) : addE s x 0 = 0 := by
  unfold addE
  rw [if_neg h, if_pos]
  intro i hi
  have h1 := hg.bnd i (rowZ_lt hg hi)
  rw [fits_iff _ _ h1]
  omega
theorem adds_all {v : List Int} {n k : Nat} (hn : v.length = n) (hg : Good (stC v n)) (hk1 : 1 ≤ k) (hk : k < n) (a b : Int) :
    ∃ fe ge : Int, (fe = 0 ∨ fe = 3) ∧ (ge = 0 ∨ ge = 3) ∧ (a = 0 → fe = 0) ∧ addE (splitS (stC v n) (k : Int)) 0 a = fe ∧ addE (addS (splitS (stC v n) (k : Int)) 0 a) (k : Int) b = ge ∧
      addE (addS (addS (splitS (stC v n) (k : Int)) 0 a) (k : Int) b) (n : Int) 1 = 4 ∧ addS (addS (addS (splitS (stC v n) (k : Int)) 0 a) (k : Int) b) (n : Int) 1 = addS (addS (splitS (stC v n) (k : Int)) 0 a) (k : Int) b ∧
      ∀ i : Nat, i < n → valZ (addS (addS (splitS (stC v n) (k : Int)) 0 a) (k : Int) b) (i : Int) = Ne.amt v i + (if i < k then (if fe = 0 then a else 0) else if ge = 0 then b else 0) ∧
        -4611686018427387904 ≤ valZ (addS (addS (splitS (stC v n) (k : Int)) 0 a) (k : Int) b) (i : Int) ∧ valZ (addS (addS (splitS (stC v n) (k : Int)) 0 a) (k : Int) b) (i : Int) ≤ 4611686018427387904 := by
  obtain ⟨r0, rk, hv⟩ := split_chain (v := v) hk1 hk
  have hg1 := good_split hg (k : Int)
  generalize splitS (stC v n) (k : Int) = A0 at *
  have n0 : rowZ A0 0 ≠ [] := by rw [r0]; simp; omega
  have nk : rowZ (addS A0 0 a) (k : Int) ≠ [] := by rw [addS_row, rk]; simp; omega
  have hg2 := good_add hg1 0 a
  have hg3 := good_add hg2 (k : Int) b
  have hl2 : (addS (addS A0 0 a) (k : Int) b).v.length = n := by rw [addS_len, addS_len, hv]; exact hn
  have e4 : addE (addS (addS A0 0 a) (k : Int) b) (n : Int) 1 = 4 := by
    unfold addE
    rw [if_pos ((rowZ_nil hg3).2 (.inr (by rw [hl2]; omega)))]
  refine ⟨_, _, addE_two n0, addE_two nk, fun e => by rw [e]; exact addE_nought hg1 n0, rfl, rfl, e4, by rw [show addS (addS (addS A0 0 a) (k : Int) b) (n : Int) 1 = if addE (addS (addS A0 0 a) (k : Int) b) (n : Int) 1 = 0 then _ else _ from rfl, if_neg (by rw [e4]; decide)], fun i hi => ?_⟩
  have e : valZ (addS (addS A0 0 a) (k : Int) b) (i : Int) = Ne.amt (addS (addS A0 0 a) (k : Int) b).v i := by unfold valZ; rw [if_neg (by omega), Int.toNat_natCast]
  have hb := hg3.bnd i (by rw [hl2]; exact hi)
  rw [e]
  refine ⟨?_, hb.1, hb.2⟩
  have hmk : i ∈ rowZ (addS A0 0 a) (k : Int) ↔ k ≤ i := by rw [addS_row, rk, drop_mem (by omega)]; omega
  have hm0 : i ∈ rowZ A0 0 ↔ i < k := by rw [r0, List.mem_range]
  rw [addS_at (by rw [addS_len, hv]; omega), addS_at (by rw [hv]; omega), hv]
  by_cases c : i < k
  · rw [if_pos c, if_neg (fun h => by have := hmk.1 h.2; omega)]
    by_cases d : addE A0 0 a = 0
    · rw [if_pos ⟨d, hm0.2 c⟩, if_pos d]
    · rw [if_neg (fun h => d h.1), if_neg d]; omega
  · rw [if_neg c]
    by_cases d : addE (addS A0 0 a) (k : Int) b = 0
    · rw [if_pos ⟨d, hmk.2 (by omega)⟩, if_pos d, if_neg (fun h => c (hm0.1 h.2))]
    · rw [if_neg (fun h => d h.1), if_neg d, if_neg (fun h => c (hm0.1 h.2))]; omega
end Sp
end Go.Proofs.Ytlkigpmjhojceaa
