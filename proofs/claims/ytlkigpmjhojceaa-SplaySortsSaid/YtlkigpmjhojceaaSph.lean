/-
  Stage 9: plain facts of SplaySorts and SplayBack: what a row tells of its items. No condition.
-/
import Derived.Test.YtlkigpmjhojceaaSpl
namespace Go.Proofs.Ytlkigpmjhojceaa
open Go.ChangeShapes Go.WideShapes Go.ChangeAt Go.RowKit
set_option linter.unusedVariables false
set_option linter.unusedSimpArgs false
namespace Sp
theorem getD_of {l : List Nat} {i y : Nat} (h : l[i]? = some y) : l.getD i 0 = y := by rw [List.getD_eq_getElem?_getD, h]; rfl
theorem of_getD {l : List Nat} {i : Nat} (h : i < l.length) : l[i]? = some (l.getD i 0) := by rw [List.getD_eq_getElem?_getD, List.getElem?_eq_getElem h]; rfl
/-- all that is told of an item -/
theorem row_tells {s : St} (hg : Good s) {x : Nat} (hx : x < s.v.length) : ∃ (L : List Nat) (k m : Nat), rowZ s (x : Int) = L ∧ L.length = m ∧ k < m ∧ m ≤ 3000 ∧ L.getD k 0 = x ∧ (∀ y ∈ L, y < s.v.length) ∧ placeZ s (x : Int) = (k : Int) ∧ atZ s (x : Int) (k : Int) = (x : Int) ∧
    firstZ s (x : Int) = ((L.getD 0 0 : Nat) : Int) ∧ lastZ s (x : Int) = ((L.getD (m - 1) 0 : Nat) : Int) ∧ valZ s (x : Int) = Ne.amt s.v x ∧
    (∀ i : Nat, i < m → atZ s (x : Int) (i : Int) = ((L.getD i 0 : Nat) : Int) ∧ placeZ s ((L.getD i 0 : Nat) : Int) = (i : Int)) ∧
    splitE s (x : Int) = 0 ∧ rowZ (splitS s (x : Int)) (x : Int) = L.drop k ∧ (0 < k → rowZ (splitS s (x : Int)) ((L.getD 0 0 : Nat) : Int) = L.take k) ∧ L.Nodup := by
  have hmem : x ∈ rowZ s (x : Int) := by rw [rowZ_nat]; exact hg.mem x hx
  have hnd := rowZ_nodup hg (x : Int)
  have hlt : ∀ y ∈ rowZ s (x : Int), y < s.v.length := fun y hy => rowZ_lt hg hy
  have hsame : ∀ y ∈ rowZ s (x : Int), rowZ s (y : Int) = rowZ s (x : Int) := fun y hy => by rw [rowZ_nat, rowZ_same hg hy]
  have hsp : splitS s (x : Int) = cutR s (rowZ s (x : Int)) ((rowZ s (x : Int)).idxOf x) := by unfold splitS; rw [Int.toNat_natCast]
  have hk := List.idxOf_lt_length_of_mem hmem
  have hkx : (rowZ s (x : Int))[(rowZ s (x : Int)).idxOf x]? = some x := by rw [List.getElem?_eq_getElem hk]; simp
  have hsm := len_small hg (x : Int)
  refine ⟨_, (rowZ s (x : Int)).idxOf x, _, rfl, rfl, hk, hsm, getD_of hkx, hlt, place_of hg hkx, at_of hkx, first_of (of_getD (by omega)), last_of (of_getD (by omega)), by unfold valZ; rw [if_neg (by omega)]; simp, fun i hi => ⟨at_of (of_getD hi), ?_⟩, splitE_zero (fun e => by rw [e] at hmem; simp at hmem), ?_, fun h0 => ?_, hnd⟩
  · have hy := of_getD hi
    refine place_of hg ?_
    rw [hsame _ (List.mem_of_getElem? hy)]; exact hy
  · rw [hsp]
    refine cut_high hnd (by omega) ?_
    rw [Int.toNat_natCast, List.mem_iff_getElem?]
    exact ⟨0, by rw [List.getElem?_drop, Nat.add_zero]; exact hkx⟩
  · rw [hsp]
    refine cut_low (by omega) ?_
    rw [Int.toNat_natCast, List.mem_iff_getElem?]
    exact ⟨0, by rw [List.getElem?_take, if_pos h0]; exact of_getD (by omega)⟩
theorem join_tells {s : St} {x y : Int} (h0 : 0 ≤ x) (hx : x.toNat ∈ rowZ s x) (he : joinE s x y = 0) : rowZ (joinS s x y) x = rowZ s x ++ rowZ s y := join_row he h0 (.inl hx)
/-- a row of the call's own: its cells, and what is cut of it -/
theorem own_tells {w : World} {B : Nat} {v : Value} {L : List Nat} (h : Ne.OwnI w B v (Ne.encW L)) (h0 : 0 < L.length) : ∃ g c, v = .slice (some ⟨g, 0, none⟩) L.length c ∧ L.length ≤ c ∧ ∀ i, i < L.length → w.cell? ⟨g, i, none⟩ = some (.int .i64 ((L.getD i 0 : Nat) : Int)) := by
  obtain ⟨o, c, hv, hc, _, _, _, _, _⟩ := Rw.own_row Ne.encI_len h
  rw [Ne.encW_len] at hv hc
  subst hv
  have hi := Ne.own_irow h
  have hx : (Ne.encW L)[0]? = some (Ne.amt (Ne.encW L) 0) := Ne.at_amt (by rw [Ne.encW_len]; exact h0)
  obtain ⟨g, rfl, _, _, _, _⟩ := Ne.own_cells Ne.encI_len h hx
  refine ⟨g, c, rfl, hc, fun i hi2 => ?_⟩
  obtain ⟨b, off, e, _, hc2⟩ := Ne.irow_cell hi (i := i) (by rw [Ne.encW_len]; exact hi2)
  cases e
  rw [Ne.encW_at hi2, Nat.zero_add] at hc2
  exact hc2
end Sp
end Go.Proofs.Ytlkigpmjhojceaa
