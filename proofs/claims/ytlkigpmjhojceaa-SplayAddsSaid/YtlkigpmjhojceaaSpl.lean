/-
  Stage 9: plain facts of the laws: a row of all items, one behind the other, cut, turned, joined again. No condition.
-/
import Derived.Test.YtlkigpmjhojceaaSpe
namespace Go.Proofs.Ytlkigpmjhojceaa
open Go.ChangeShapes Go.WideShapes Go.ChangeAt Go.RowKit
set_option linter.unusedVariables false
set_option linter.unusedSimpArgs false
namespace Sp
theorem not_take {l : List Nat} {k x : Nat} (hn : l.Nodup) (hk : l[k]? = some x) : x ∉ l.take k := fun c => by
  have h1 := hn.sublist (List.take_sublist (k + 1) l)
  rw [List.take_add_one, hk] at h1
  exact (List.nodup_append.1 h1).2.2 x c x (by simp) rfl
theorem place_of {s : St} (h : Good s) {x k : Nat} (hk : (rowZ s (x : Int))[k]? = some x) : placeZ s (x : Int) = (k : Int) := by
  unfold placeZ
  rw [if_neg fun e => by rw [e] at hk; simp at hk, Int.toNat_natCast, idxOf_of hk (not_take (rowZ_nodup h _) hk)]
theorem at_of {s : St} {x : Int} {k y : Nat} (hk : (rowZ s x)[k]? = some y) : atZ s x (k : Int) = (y : Int) := by
  have hl := (List.getElem?_eq_some_iff.1 hk).1
  unfold atZ
  rw [atL_at hl, List.getD_eq_getElem?_getD, hk]
  rfl
theorem first_of {s : St} {x : Int} {y : Nat} (hk : (rowZ s x)[0]? = some y) : firstZ s x = (y : Int) := by
  obtain ⟨a, l, e⟩ : ∃ a l, rowZ s x = a :: l := by
    rcases hr : rowZ s x with _ | ⟨a, l⟩
    · rw [hr] at hk; simp at hk
    · exact ⟨a, l, rfl⟩
  rw [e] at hk
  simp at hk
  rw [first_cons e, hk]
theorem last_of {s : St} {x : Int} {y : Nat} (hk : (rowZ s x)[(rowZ s x).length - 1]? = some y) : lastZ s x = (y : Int) := by
  have hl := (List.getElem?_eq_some_iff.1 hk).1
  rw [last_at (by omega), List.getD_eq_getElem?_getD, hk]
  rfl
theorem rowZ_as (s : St) {x : Int} (h : 0 ≤ x) : rowZ s x = s.r x.toNat := by unfold rowZ; rw [if_neg (by omega)]
/-- the first k items in one row -/
def stC (v : List Int) (k : Nat) : St := ⟨v, fun x => if x < k then List.range k else if x < v.length then [x] else []⟩
section
variable {v : List Int} {k : Nat}
theorem stC_new (h : 0 < v.length) : newS v = stC v 1 := by
  unfold newS stC
  congr 1
  funext x
  by_cases c : x < 1
  · have : x = 0 := by omega
    subst this
    simp [h]
  · rw [if_neg c]
theorem stC_row {x : Int} (h0 : 0 ≤ x) (hx : x < (k : Int)) : rowZ (stC v k) x = List.range k := by
  rw [rowZ_as _ h0]
  show (if x.toNat < k then _ else _) = _
  rw [if_pos (by omega)]
theorem stC_alone {x : Int} (h0 : (k : Int) ≤ x) (hx : x < (v.length : Int)) : rowZ (stC v k) x = [x.toNat] := by
  rw [rowZ_as _ (by omega)]
  show (if x.toNat < k then _ else _) = _
  rw [if_neg (by omega), if_pos (by omega)]
theorem stC_join {a : Int} (h1 : 0 ≤ a) (h2 : a < (k : Int)) (hk : k < v.length) : joinE (stC v k) a (k : Int) = 0 ∧ joinS (stC v k) a (k : Int) = stC v (k + 1) := by
  have ra := stC_row (v := v) h1 h2
  have rb := stC_alone (v := v) (k := k) (x := (k : Int)) (by omega) (by omega)
  rw [Int.toNat_natCast] at rb
  have e : joinE (stC v k) a (k : Int) = 0 := by
    unfold joinE
    rw [ra, rb, if_neg (by simp; omega), if_neg (by simp)]
  refine ⟨e, ?_⟩
  unfold joinS
  rw [if_pos e]
  unfold joinR
  rw [ra, rb]
  unfold stC
  congr 1
  funext y
  simp only [List.mem_range, List.mem_singleton]
  rw [List.range_succ]
  by_cases c : y < k ∨ y = k
  · rw [if_pos c, if_pos (by omega)]
  · rw [if_neg c, if_neg (show ¬ y < k by omega), if_neg (show ¬ y < k + 1 by omega)]
end
/-- a whole row turned -/
theorem turn_row {s : St} {x y : Int} (hy0 : 0 ≤ y) (hy : y.toNat ∈ rowZ s x) : rowZ (turnS s x) y = (rowZ s x).reverse := by
  rw [rowZ_as _ hy0]
  show (if _ then _ else _) = _
  rw [if_pos hy]
theorem turn_other {s : St} {x y : Int} (hy0 : 0 ≤ y) (hy : y.toNat ∉ rowZ s x) : rowZ (turnS s x) y = rowZ s y := by
  rw [rowZ_as _ hy0, rowZ_as _ hy0]
  show (if _ then _ else _) = _
  rw [if_neg hy]
theorem cut_low {s : St} {l : List Nat} {k : Nat} {y : Int} (hy0 : 0 ≤ y) (hy : y.toNat ∈ l.take k) : rowZ (cutR s l k) y = l.take k := by
  rw [rowZ_as _ hy0]
  show (if _ then _ else _) = _
  rw [if_pos hy]
theorem cut_high {s : St} {l : List Nat} {k : Nat} {y : Int} (hn : l.Nodup) (hy0 : 0 ≤ y) (hy : y.toNat ∈ l.drop k) : rowZ (cutR s l k) y = l.drop k := by
  have hno : y.toNat ∉ l.take k := fun c => by
    rw [← List.take_append_drop k l] at hn
    exact (List.nodup_append.1 hn).2.2 _ c _ hy rfl
  rw [rowZ_as _ hy0]
  show (if _ then _ else if _ then _ else _) = _
  rw [if_neg hno, if_pos hy]
theorem cut_other {s : St} {l : List Nat} {k : Nat} {y : Int} (hy0 : 0 ≤ y) (hy : y.toNat ∉ l) : rowZ (cutR s l k) y = rowZ s y := by
  rw [rowZ_as _ hy0, rowZ_as _ hy0]
  show (if _ then _ else if _ then _ else _) = _
  rw [if_neg fun c => hy (List.mem_of_mem_take c), if_neg fun c => hy (List.mem_of_mem_drop c)]
theorem join_row {s : St} {a b y : Int} (he : joinE s a b = 0) (hy0 : 0 ≤ y) (hy : y.toNat ∈ rowZ s a ∨ y.toNat ∈ rowZ s b) : rowZ (joinS s a b) y = rowZ s a ++ rowZ s b := by
  unfold joinS
  rw [if_pos he, rowZ_as _ hy0]
  show (if _ then _ else _) = _
  rw [if_pos hy]
theorem join_other {s : St} {a b y : Int} (hy0 : 0 ≤ y) (hy : ¬ (y.toNat ∈ rowZ s a ∨ y.toNat ∈ rowZ s b)) : rowZ (joinS s a b) y = rowZ s y := by
  unfold joinS
  split
  · rw [rowZ_as _ hy0, rowZ_as _ hy0]
    show (if _ then _ else _) = _
    rw [if_neg hy]
  · rfl
theorem joinE_zero {s : St} {a b : Int} (ha : rowZ s a ≠ []) (hb : rowZ s b ≠ []) (hn : b.toNat ∉ rowZ s a) : joinE s a b = 0 := by
  unfold joinE
  rw [if_neg (by simp [ha, hb]), if_neg hn]
theorem splitE_zero {s : St} {x : Int} (h : rowZ s x ≠ []) : splitE s x = 0 := by unfold splitE; rw [if_neg h]
/-- SplayTurns: the whole turned -/
theorem rev_at {n i : Nat} (h : i < n) : (List.range n).reverse[i]? = some (n - 1 - i) := by
  rw [List.getElem?_reverse (by simpa using h), List.length_range, List.getElem?_range (by omega)]
theorem turns_s {v : List Int} {n : Nat} (hn : n = v.length) (hg : Good (stC v n)) {k : Int} (hk0 : 0 ≤ k) (hk : k < (n : Int)) :
    (∀ x : Int, 0 ≤ x → x < (n : Int) → rowZ (turnS (stC v n) k) x = (List.range n).reverse) ∧ (∀ i : Nat, i < n → placeZ (turnS (stC v n) k) (i : Int) = ((n - 1 - i : Nat) : Int)) ∧ (∀ i : Nat, i < n → atZ (turnS (stC v n) k) 0 (i : Int) = ((n - 1 - i : Nat) : Int)) ∧
      firstZ (turnS (stC v n) k) k = ((n - 1 : Nat) : Int) ∧ lastZ (turnS (stC v n) k) k = 0 ∧ atZ (turnS (stC v n) k) k (n : Int) = -1 ∧ atZ (turnS (stC v n) k) k (-1) = -1 := by
  have hrow : ∀ x : Int, 0 ≤ x → x < (n : Int) → rowZ (turnS (stC v n) k) x = (List.range n).reverse := fun x h0 h1 => by
    have e := stC_row (v := v) hk0 hk
    rw [turn_row h0 (by rw [e, List.mem_range]; omega), e]
  have hg2 := good_turn hg k
  refine ⟨hrow, fun i hi => ?_, fun i hi => ?_, ?_, ?_, ?_, ?_⟩
  · refine place_of hg2 ?_
    rw [hrow _ (by omega) (by omega), rev_at (by omega)]; congr 1; omega
  · exact at_of (by rw [hrow _ (by omega) (by omega), rev_at hi])
  · exact first_of (by rw [hrow _ hk0 hk, rev_at (by omega)]; rfl)
  · have := last_of (s := turnS (stC v n) k) (x := k) (y := 0) (by rw [hrow _ hk0 hk, List.length_reverse, List.length_range, rev_at (by omega)]; congr 1; omega)
    exact this
  · unfold atZ; rw [hrow _ hk0 hk]; exact atL_far (by simp)
  · unfold atZ; exact atL_neg (by omega)
theorem drop_mem {n k : Nat} (hk : k ≤ n) (y : Nat) : y ∈ (List.range n).drop k ↔ k ≤ y ∧ y < n := by
  have ht : (List.range n).take k = List.range k := by rw [List.take_range, Nat.min_eq_left hk]
  constructor
  · intro h
    have h1 := List.mem_of_mem_drop h
    rw [List.mem_range] at h1
    refine ⟨?_, h1⟩
    have hnd := List.nodup_range (n := n)
    rw [← List.take_append_drop k (List.range n)] at hnd
    rcases Nat.lt_or_ge y k with c | c
    · exact absurd rfl ((List.nodup_append.1 hnd).2.2 y (by rw [ht, List.mem_range]; exact c) y h)
    · exact c
  · rintro ⟨h1, h2⟩
    have h3 : y ∈ List.range n := List.mem_range.2 h2
    rw [← List.take_append_drop k (List.range n)] at h3
    rcases List.mem_append.1 h3 with c | c
    · rw [ht, List.mem_range] at c; omega
    · exact c
theorem split_chain {v : List Int} {n k : Nat} (hk1 : 1 ≤ k) (hk : k < n) : rowZ (splitS (stC v n) (k : Int)) 0 = List.range k ∧ rowZ (splitS (stC v n) (k : Int)) (k : Int) = (List.range n).drop k ∧ (splitS (stC v n) (k : Int)).v = v := by
  have e0 := stC_row (v := v) (k := n) (x := (k : Int)) (by omega) (by omega)
  have hsp : splitS (stC v n) (k : Int) = cutR (stC v n) (List.range n) k := by
    unfold splitS
    rw [e0, Int.toNat_natCast, idxOf_of (l := List.range n) (x := k) (k := k) (by rw [List.getElem?_range hk]) (by rw [List.take_range, Nat.min_eq_left (by omega)]; simp)]
  have ht : (List.range n).take k = List.range k := by rw [List.take_range, Nat.min_eq_left (by omega)]
  rw [hsp]
  exact ⟨by rw [cut_low (by omega) (by rw [ht, List.mem_range]; simpa using by omega), ht], cut_high List.nodup_range (by omega) (by rw [Int.toNat_natCast, drop_mem (by omega)]; omega), rfl⟩
theorem turns_t {v : List Int} {n : Nat} (hn : n = v.length) (hg : Good (stC v n)) {k : Nat} (hk1 : 1 ≤ k) (hk : k < n) :
    joinE (turnS (turnS (splitS (stC v n) (k : Int)) 0) (k : Int)) (k : Int) 0 = 0 ∧ rowZ (joinS (turnS (turnS (splitS (stC v n) (k : Int)) 0) (k : Int)) (k : Int) 0) 0 = (List.range n).reverse := by
  have e0 := stC_row (v := v) (k := n) (x := (k : Int)) (by omega) (by omega)
  have hsp : splitS (stC v n) (k : Int) = cutR (stC v n) (List.range n) k := by
    unfold splitS
    rw [e0, Int.toNat_natCast, idxOf_of (l := List.range n) (x := k) (k := k) (by rw [List.getElem?_range hk]) (by rw [List.take_range, Nat.min_eq_left (by omega)]; simp)]
  have ht : (List.range n).take k = List.range k := by rw [List.take_range, Nat.min_eq_left (by omega)]
  have hmem : ∀ y : Nat, y ∈ (List.range n).drop k ↔ k ≤ y ∧ y < n := fun y => by
    constructor
    · intro h
      have h1 := List.mem_of_mem_drop h
      rw [List.mem_range] at h1
      refine ⟨?_, h1⟩
      have hnd := List.nodup_range (n := n)
      rw [← List.take_append_drop k (List.range n)] at hnd
      rcases Nat.lt_or_ge y k with c | c
      · exact absurd rfl ((List.nodup_append.1 hnd).2.2 y (by rw [ht, List.mem_range]; exact c) y h)
      · exact c
    · rintro ⟨h1, h2⟩
      have h3 : y ∈ List.range n := List.mem_range.2 h2
      rw [← List.take_append_drop k (List.range n)] at h3
      rcases List.mem_append.1 h3 with c | c
      · rw [ht, List.mem_range] at c; omega
      · exact c
  rw [hsp]
  have r0 : rowZ (cutR (stC v n) (List.range n) k) 0 = List.range k := by
    rw [cut_low (by omega) (by rw [ht, List.mem_range]; simpa using by omega), ht]
  have rk : rowZ (cutR (stC v n) (List.range n) k) (k : Int) = (List.range n).drop k := cut_high List.nodup_range (by omega) (by rw [Int.toNat_natCast, hmem]; omega)
  generalize cutR (stC v n) (List.range n) k = s1 at *
  have r0' : rowZ (turnS s1 0) 0 = (List.range k).reverse := by rw [turn_row (by omega) (by rw [r0, List.mem_range]; simpa using by omega), r0]
  have rk' : rowZ (turnS s1 0) (k : Int) = (List.range n).drop k := by rw [turn_other (by omega) (by rw [r0, List.mem_range]; simp), rk]
  generalize turnS s1 0 = s2 at *
  have rk2 : rowZ (turnS s2 (k : Int)) (k : Int) = ((List.range n).drop k).reverse := by rw [turn_row (by omega) (by rw [rk', Int.toNat_natCast, hmem]; omega), rk']
  have r02 : rowZ (turnS s2 (k : Int)) 0 = (List.range k).reverse := by rw [turn_other (by omega) (by rw [rk', hmem]; simp; omega), r0']
  generalize turnS s2 (k : Int) = s3 at *
  have he : joinE s3 (k : Int) 0 = 0 := joinE_zero (by rw [rk2]; simp; omega) (by rw [r02]; simp; omega) (by rw [rk2, List.mem_reverse, hmem]; simp; omega)
  refine ⟨he, ?_⟩
  rw [join_row he (by omega) (.inr (by rw [r02, List.mem_reverse, List.mem_range]; simpa using by omega)), rk2, r02, ← List.reverse_append, ← ht, List.take_append_drop]
end Sp
end Go.Proofs.Ytlkigpmjhojceaa
