/-
  Stage 9: plain facts of SplayBack: a row of all items in whatever order, cut and joined again, turned twice, added to and back; its first least item. No condition.
-/
import Derived.Test.YtlkigpmjhojceaaSph
import Derived.Test.YtlkigpmjhojceaaSpj
namespace Go.Proofs.Ytlkigpmjhojceaa
open Go.ChangeShapes Go.WideShapes Go.ChangeAt Go.RowKit
set_option linter.unusedVariables false
set_option linter.unusedSimpArgs false
namespace Sp
/-- the first k items stand in one row, all others alone -/
structure Whole (s : St) (vs : List Int) (k : Nat) : Prop where
  v : s.v = vs
  mem : ∀ y : Nat, y ∈ rowZ s 0 ↔ y < k
  one : ∀ y : Nat, k ≤ y → y < vs.length → rowZ s (y : Int) = [y]
theorem row_of {s : St} (hg : Good s) {a : Int} {y : Nat} (hy : y ∈ rowZ s a) : rowZ s (y : Int) = rowZ s a := by rw [rowZ_nat, rowZ_same hg hy]
theorem whole_new {vs : List Int} (h : 0 < vs.length) : Whole (newS vs) vs 1 := by
  have e : ∀ y : Nat, y < vs.length → rowZ (newS vs) (y : Int) = [y] := fun y hy => by
    rw [rowZ_nat]; show (if y < vs.length then [y] else []) = [y]; rw [if_pos hy]
  refine ⟨rfl, fun y => ?_, fun y _ hy => e y hy⟩
  have := e 0 h
  rw [show ((0 : Nat) : Int) = 0 from rfl] at this
  rw [this]; simp
theorem joinE_same {s : St} {a b : Int} (ha : rowZ s a ≠ []) (hb : rowZ s b ≠ []) (h : b.toNat ∈ rowZ s a) : joinE s a b = 5 ∧ joinS s a b = s := by
  have e : joinE s a b = 5 := by unfold joinE; rw [if_neg (by simp [ha, hb]), if_pos h]
  exact ⟨e, by unfold joinS; rw [if_neg (by rw [e]; decide)]⟩
theorem whole_join {s : St} {vs : List Int} {k : Nat} (hg : Good s) (h : Whole s vs k) (h1 : 1 ≤ k) (hk : k < vs.length) :
    joinE s 0 (k : Int) = 0 ∧ Whole (joinS s 0 (k : Int)) vs (k + 1) ∧ joinE (joinS s 0 (k : Int)) (k : Int) 0 = 5 ∧ joinS (joinS s 0 (k : Int)) (k : Int) 0 = joinS s 0 (k : Int) := by
  have hk1 := h.one k (Nat.le_refl _) hk
  have h0 : rowZ s 0 ≠ [] := fun e => by have := (h.mem 0).2 (by omega); rw [e] at this; simp at this
  have e : joinE s 0 (k : Int) = 0 := joinE_zero h0 (by rw [hk1]; simp) (by rw [Int.toNat_natCast, h.mem]; omega)
  have hv : (joinS s 0 (k : Int)).v = s.v := by unfold joinS; split <;> rfl
  have r0 : rowZ (joinS s 0 (k : Int)) 0 = rowZ s 0 ++ [k] := by rw [join_row (y := 0) e (by omega) (.inl ((h.mem 0).2 (by omega))), hk1]
  have rk : rowZ (joinS s 0 (k : Int)) (k : Int) = rowZ s 0 ++ [k] := by rw [join_row (y := (k : Int)) e (by omega) (.inr (by rw [hk1]; simp)), hk1]
  refine ⟨e, ⟨hv.trans h.v, fun y => ?_, fun y h2 h3 => ?_⟩, joinE_same (by rw [rk]; simp) (by rw [r0]; simp) (by rw [rk]; exact List.mem_append_left _ ((h.mem 0).2 (by omega)))⟩
  · rw [r0, List.mem_append, h.mem]; simp; omega
  · rw [join_other (by omega) (by rw [Int.toNat_natCast, h.mem, hk1]; simp; omega)]
    exact h.one y (by omega) h3
theorem whole_turn {s : St} {vs : List Int} {k : Nat} (hg : Good s) (h : Whole s vs (k + 1)) (hk : k < vs.length) :
    Whole (turnS s (k : Int)) vs (k + 1) ∧ joinE (turnS s (k : Int)) (k : Int) 0 = 5 ∧ joinS (turnS s (k : Int)) (k : Int) 0 = turnS s (k : Int) := by
  have hk0 : rowZ s (k : Int) = rowZ s 0 := row_of hg ((h.mem k).2 (by omega))
  have m0 : (0 : Int).toNat ∈ rowZ s (k : Int) := by rw [hk0]; exact (h.mem 0).2 (by omega)
  have mk : (k : Int).toNat ∈ rowZ s (k : Int) := by rw [hk0, Int.toNat_natCast]; exact (h.mem k).2 (by omega)
  have r0 : rowZ (turnS s (k : Int)) 0 = (rowZ s 0).reverse := by rw [turn_row (by omega) m0, hk0]
  have rk : rowZ (turnS s (k : Int)) (k : Int) = (rowZ s 0).reverse := by rw [turn_row (by omega) mk, hk0]
  have hne : (rowZ s 0).reverse ≠ [] := fun e => by
    have := (h.mem 0).2 (by omega)
    rw [List.reverse_eq_nil_iff] at e
    rw [e] at this; simp at this
  refine ⟨⟨h.v, fun y => by rw [r0, List.mem_reverse, h.mem], fun y h2 h3 => ?_⟩, joinE_same (by rw [rk]; exact hne) (by rw [r0]; exact hne) (by rw [rk, List.mem_reverse]; exact (h.mem 0).2 (by omega))⟩
  rw [turn_other (by omega) (by rw [hk0, Int.toNat_natCast, h.mem]; omega)]
  exact h.one y h2 h3
/-- all rows are one -/
def AllIn (s : St) (L : List Nat) (vs : List Int) : Prop := s.v = vs ∧ ∀ y : Nat, y < vs.length → rowZ s (y : Int) = L
theorem whole_all {s : St} {vs : List Int} (hg : Good s) (h : Whole s vs vs.length) : AllIn s (rowZ s 0) vs ∧ (∀ y : Nat, y ∈ rowZ s 0 ↔ y < vs.length) :=
  ⟨⟨h.v, fun y hy => row_of hg ((h.mem y).2 hy)⟩, h.mem⟩
theorem nodup_full {L : List Nat} {n : Nat} (hn : L.Nodup) (hm : ∀ y : Nat, y ∈ L ↔ y < n) : L.length = n := by
  have h1 := Ne.nodup_len hn fun y hy => (hm y).1 hy
  have h2 : n ≤ L.length := by
    have := (List.nodup_range (n := n)).length_le_of_subset (fun y hy => (hm y).2 (List.mem_range.1 hy))
    simpa using this
  omega
theorem all_back {s : St} {L : List Nat} {vs : List Int} (hg : Good s) (hA : AllIn s L vs) (hm : ∀ y : Nat, y ∈ L ↔ y < vs.length) {x k f : Nat} (hx : x < vs.length) (hk : k < L.length) (hkx : L[k]? = some x) (hf : L[0]? = some f)
    (h1 : rowZ (splitS s (x : Int)) (x : Int) = L.drop k) (h2 : 0 < k → rowZ (splitS s (x : Int)) (f : Int) = L.take k) :
    (0 < k → joinE (splitS s (x : Int)) (f : Int) (x : Int) = 0 ∧ AllIn (joinS (splitS s (x : Int)) (f : Int) (x : Int)) L vs) ∧ (k = 0 → AllIn (splitS s (x : Int)) L vs) := by
  have hg1 := good_split hg (x : Int)
  have hv1 : (splitS s (x : Int)).v = vs := hA.1
  generalize splitS s (x : Int) = s1 at *
  have hxd : x ∈ L.drop k := by rw [List.mem_iff_getElem?]; exact ⟨0, by rw [List.getElem?_drop, Nat.add_zero]; exact hkx⟩
  constructor
  · intro h0
    have hnd : L.Nodup := by rw [← hA.2 x hx]; exact rowZ_nodup hg _
    have hxt : x ∉ L.take k := not_take hnd hkx
    have hft : f ∈ L.take k := by rw [List.mem_iff_getElem?]; exact ⟨0, by rw [List.getElem?_take, if_pos h0]; exact hf⟩
    have e : joinE s1 (f : Int) (x : Int) = 0 := joinE_zero (by rw [h2 h0]; exact fun c => by rw [c] at hft; simp at hft) (by rw [h1]; exact fun c => by rw [c] at hxd; simp at hxd) (by rw [h2 h0, Int.toNat_natCast]; exact hxt)
    refine ⟨e, (show (joinS s1 (f : Int) (x : Int)).v = s1.v by unfold joinS; split <;> rfl).trans hv1, fun y hy => ?_⟩
    have hyL := (hm y).2 hy
    rw [join_row e (by omega) (by
      rw [Int.toNat_natCast, h1, h2 h0]
      rw [← List.take_append_drop k L] at hyL
      exact List.mem_append.1 hyL), h2 h0, h1, List.take_append_drop]
  · rintro rfl
    refine ⟨hv1, fun y hy => ?_⟩
    rw [List.drop_zero] at h1
    have hyL := (hm y).2 hy
    rw [← h1] at hyL
    rw [row_of hg1 hyL, h1]
theorem all_turns {s : St} {L : List Nat} {vs : List Int} (hA : AllIn s L vs) (hm : ∀ y : Nat, y ∈ L ↔ y < vs.length) {x f : Nat} (hx : x < vs.length) (hf : f < vs.length) : AllIn (turnS (turnS s (x : Int)) (f : Int)) L vs := by
  have r1 : ∀ y : Nat, y < vs.length → rowZ (turnS s (x : Int)) (y : Int) = L.reverse := fun y hy => by
    rw [turn_row (by omega) (by rw [hA.2 x hx, Int.toNat_natCast]; exact (hm y).2 hy), hA.2 x hx]
  refine ⟨hA.1, fun y hy => ?_⟩
  rw [turn_row (by omega) (by rw [r1 f hf, Int.toNat_natCast, List.mem_reverse]; exact (hm y).2 hy), r1 f hf, List.reverse_reverse]
theorem all_adds {s : St} {L : List Nat} {vs : List Int} (hg : Good s) (hA : AllIn s L vs) (hm : ∀ y : Nat, y ∈ L ↔ y < vs.length) {x f : Nat} (hx : x < vs.length) (hf : f < vs.length) (d : Int) :
    ∃ g h : Int, ∃ v5 : List Int, (g = 0 ∨ g = 3) ∧ addE s (x : Int) d = g ∧ addE (addS s (x : Int) d) (f : Int) (-d) = h ∧ (addS (addS s (x : Int) d) (f : Int) (-d)).v = v5 ∧ v5.length = vs.length ∧ AllIn (addS (addS s (x : Int) d) (f : Int) (-d)) L v5 ∧ (g = 0 → h = 0 ∧ ∀ y : Nat, y < vs.length → Ne.amt v5 y = Ne.amt vs y) := by
  have hne : ∀ y : Nat, y < vs.length → rowZ s (y : Int) ≠ [] := fun y hy e => by
    have := (hm y).2 hy
    rw [hA.2 y hy] at e
    rw [e] at this; simp at this
  have hl1 := addS_len s (x : Int) d
  have hl2 := addS_len (addS s (x : Int) d) (f : Int) (-d)
  refine ⟨_, _, _, addE_two (hne x hx), rfl, rfl, rfl, by rw [hl2, hl1, hA.1], ⟨rfl, fun y hy => ?_⟩, fun hgz => ?_⟩
  · rw [hl2, hl1, hA.1] at hy
    rw [addS_row, addS_row]; exact hA.2 y hy
  · have hh : addE (addS s (x : Int) d) (f : Int) (-d) = 0 := by
      unfold addE
      rw [if_neg (by rw [addS_row]; exact hne f hf), if_pos]
      intro i hi
      rw [addS_row, hA.2 f hf] at hi
      have hi2 := (hm i).1 hi
      have hb1 := (good_add hg (x : Int) d).bnd i (by rw [hl1, hA.1]; exact hi2)
      rw [fits_iff _ _ hb1, addS_at (by rw [hA.1]; exact hi2), if_pos ⟨hgz, by rw [hA.2 x hx]; exact hi⟩]
      have hb0 := hg.bnd i (by rw [hA.1]; exact hi2)
      omega
    refine ⟨hh, fun y hy => ?_⟩
    have hyL := (hm y).2 hy
    rw [addS_at (by rw [hl1, hA.1]; exact hy), if_pos ⟨hh, by rw [addS_row, hA.2 f hf]; exact hyL⟩, addS_at (by rw [hA.1]; exact hy), if_pos ⟨hgz, by rw [hA.2 x hx]; exact hyL⟩, hA.1]
    omega
/-- the first of the least ones -/
theorem least_min (v : List Int) (l : List Nat) : ∀ k, k < l.length → ∃ j z : Nat, j ≤ k ∧ l[j]? = some z ∧ leastL v (l.take (k + 1)) = (z : Int) ∧ ∀ i y : Nat, i ≤ k → l[i]? = some y → Ne.amt v z ≤ Ne.amt v y ∧ (Ne.amt v y = Ne.amt v z → j ≤ i)
  | 0, h => by
    have e := of_getD h
    refine ⟨0, l.getD 0 0, Nat.le_refl _, e, ?_, fun i y hi hy => ?_⟩
    · rw [List.take_add_one, e]; rfl
    · obtain rfl : i = 0 := by omega
      rw [e] at hy; cases hy
      exact ⟨Int.le_refl _, fun _ => Nat.le_refl _⟩
  | k + 1, h => by
    obtain ⟨j, z, h1, h2, h3, h4⟩ := least_min v l k (by omega)
    have e := of_getD h
    have e2 : l.take (k + 1 + 1) = l.take (k + 1) ++ [l.getD (k + 1) 0] := by rw [List.take_add_one, e]; rfl
    rw [e2, leastL_snoc, h3, Int.toNat_natCast]
    by_cases c : Ne.amt v (l.getD (k + 1) 0) < Ne.amt v z
    · rw [if_pos (.inr c)]
      refine ⟨k + 1, l.getD (k + 1) 0, Nat.le_refl _, e, rfl, fun i y hi hy => ?_⟩
      by_cases d : i = k + 1
      · subst d
        rw [e] at hy; cases hy
        exact ⟨Int.le_refl _, fun _ => Nat.le_refl _⟩
      · have := h4 i y (by omega) hy
        exact ⟨by omega, fun e3 => by omega⟩
    · rw [if_neg (by omega)]
      refine ⟨j, z, by omega, h2, rfl, fun i y hi hy => ?_⟩
      by_cases d : i = k + 1
      · subst d
        rw [e] at hy; cases hy
        exact ⟨by omega, fun _ => by omega⟩
      · exact h4 i y (by omega) hy
theorem all_least {s : St} {L : List Nat} {vs : List Int} (hg : Good s) (hA : AllIn s L vs) (hm : ∀ y : Nat, y ∈ L ↔ y < vs.length) {x : Nat} (hx : x < vs.length) :
    ∃ z j : Nat, leastZ s (x : Int) = (z : Int) ∧ placeZ s (z : Int) = (j : Int) ∧ valZ s (z : Int) = Ne.amt vs z ∧ (∀ i y : Nat, L[i]? = some y → valZ s (y : Int) = Ne.amt vs y ∧ Ne.amt vs z ≤ Ne.amt vs y ∧ (Ne.amt vs y = Ne.amt vs z → j ≤ i)) := by
  have hl : 0 < L.length := by
    rcases L with _ | ⟨a, l⟩
    · have := (hm x).2 hx; simp at this
    · simp
  obtain ⟨j, z, h1, h2, h3, h4⟩ := least_min vs L (L.length - 1) (by omega)
  rw [show L.length - 1 + 1 = L.length by omega, List.take_length] at h3
  have hz := (hm z).1 (List.mem_of_getElem? h2)
  have hval : ∀ y : Nat, valZ s (y : Int) = Ne.amt vs y := fun y => by unfold valZ; rw [if_neg (by omega), Int.toNat_natCast, hA.1]
  refine ⟨z, j, by unfold leastZ; rw [hA.2 x hx, hA.1]; exact h3, place_of hg (by rw [hA.2 z hz]; exact h2), hval z, fun i y hy => ?_⟩
  have hi := (List.getElem?_eq_some_iff.1 hy).1
  obtain ⟨g1, g2⟩ := h4 i y (by omega) hy
  exact ⟨hval y, g1, g2⟩
end Sp
end Go.Proofs.Ytlkigpmjhojceaa
