/-
  Plain facts on a row of the call's own: a store into it, its cells, an empty one; stores into a network's block. No condition.
-/
import Derived.Test.YtcelggfnfnaajaaNbox
import Derived.Outline
import Derived.RegionTactic
import Derived.BigRegion
namespace Go.Proofs.Ytcelggfnfnaajaa
open Go.ChangeShapes Go.WideShapes Go.ChangeAt Go.RowKit
set_option linter.unusedVariables false
set_option linter.unusedSimpArgs false
namespace Ne
theorem own_empty {α : Type} {e : TypeId} {k : Nat} {enc : α → List Value} (w : World) (B : Nat) (hB : B ≤ w.heap.size) : Rw.Own e k enc (w.alloc (.cells #[] e)) B (.slice (some ⟨w.heap.size, 0, none⟩) 0 0) ([] : List α) := by
  refine ⟨by simp, .inr ⟨w.heap.size, 0, #[], rfl, hB, ?_, by simp, by simp [maxLen], by simp, by simp⟩⟩
  show (w.heap.push _)[w.heap.size]? = _
  simp
/-- a row of the call's own, after a store into one cell of one element -/
theorem own_put {α : Type} {e : TypeId} {k : Nat} {enc : α → List Value} (hk : ∀ x, (enc x).length = k) {w : World} {B g cap : Nat} {xs : List α} {n : Nat} (h : Rw.Own e k enc w B (.slice (some ⟨g, 0, none⟩) n cap) xs) {i : Nat} {x y : α} (hx : xs[i]? = some x) {j : Nat} (hj : j < k) {u : Value} (hy : enc y = (enc x).set j u) :
    Rw.Own e k enc (w.setCell ⟨g, i * k + j, none⟩ u) B (.slice (some ⟨g, 0, none⟩) n cap) (xs.set i y) := by
  obtain ⟨h1, h2⟩ := h
  have hi : i < xs.length := (List.getElem?_eq_some_iff.1 hx).1
  have hflat : (xs.set i y).flatMap enc = (xs.flatMap enc).set (i * k + j) u := by
    clear h1 h2
    induction xs generalizing i with
    | nil => simp at hi
    | cons z zs ih =>
      rcases i with _ | i
      · simp at hx; subst hx
        simp only [List.set_cons_zero, List.flatMap_cons, hy, Nat.zero_mul, Nat.zero_add]
        rw [List.set_append, if_pos (by rw [hk]; exact hj)]
      · simp only [List.set_cons_succ, List.flatMap_cons]
        rw [ih (by simpa using hx) (by simpa using hi), List.set_append, if_neg (by rw [hk, Nat.succ_mul]; omega), hk, show (i + 1) * k + j - k = i * k + j by rw [Nat.succ_mul]; omega]
  refine ⟨by rw [hflat, List.length_set, List.length_set]; exact h1, ?_⟩
  rcases h2 with ⟨hv, hn⟩ | ⟨g', cap', cur, hv, hg, hh, hc, hm, hs, ht⟩
  · simp at hv
  · simp only [Value.slice.injEq, Option.some.injEq, Addr.mk.injEq, and_true, true_and] at hv
    obtain ⟨rfl, rfl, rfl⟩ := hv
    refine .inr ⟨g, cap, cur.setIfInBounds (i * k + j) u, by rw [List.length_set], hg, ?_, by rw [List.length_set]; exact hc, hm, by rw [Array.size_setIfInBounds]; exact hs, ?_⟩
    · simp only [World.setCell, Array.getElem?_modify, hh, if_true, Option.map_some]
      rfl
    · rw [List.length_set, hflat, ← ht, Array.toList_setIfInBounds, List.take_set]

/-- what an element of a row of the call's own tells a walk -/
theorem own_cells {α : Type} {e : TypeId} {k : Nat} {enc : α → List Value} (hk : ∀ x, (enc x).length = k) {w : World} {B n cap : Nat} {ao : Option Addr} {xs : List α} (h : Rw.Own e k enc w B (.slice ao n cap) xs) {i : Nat} {x : α} (hx : xs[i]? = some x) :
    ∃ g, ao = some ⟨g, 0, none⟩ ∧ B ≤ g ∧ g < w.heap.size ∧ (∀ j v, (enc x)[j]? = some v → w.cell? ⟨g, i * k + j, none⟩ = some v) ∧ ∀ o, w.frozen? ⟨g, o, none⟩ = false := by
  have hi : i < xs.length := (List.getElem?_eq_some_iff.1 hx).1
  obtain ⟨ao', cap', hv, _, _, _, hrow, hb, ha⟩ := Rw.own_row hk h
  simp only [Value.slice.injEq] at hv
  obtain ⟨rfl, _, rfl⟩ := hv
  rcases hrow with h0 | ⟨b, off, rfl, hlt, hc⟩
  · rw [h0] at hi; simp at hi
  obtain ⟨b', hb'⟩ := ha _ rfl
  cases hb'
  refine ⟨b, rfl, (hb b 0 rfl).1, hlt, fun j v hv => by have := hc i x hx j v hv; rwa [Nat.zero_add] at this, fun o => ?_⟩
  obtain ⟨_, h2⟩ := h
  rcases h2 with ⟨hv, _⟩ | ⟨g', cap2, cur, hv, hg, hh, _⟩
  · simp at hv
  · simp only [Value.slice.injEq, Option.some.injEq, Addr.mk.injEq, and_true, true_and] at hv
    obtain ⟨rfl, _⟩ := hv
    simp [World.frozen?, hh]
theorem netBox_set1 {w : World} {b : Nat} {n s t s2 : Int} {v : Value} (h : NetBox w b n s t v) : NetBox (w.setCell ⟨b, 1, none⟩ (.int .i64 s2)) b n s2 t v := by
  unfold NetBox at *
  simp only [World.setCell, Array.getElem?_modify, h, if_true, Option.map_some]
  rfl
theorem netBox_set2' {w : World} {b : Nat} {n s t t2 : Int} {v : Value} (h : NetBox w b n s t v) : NetBox (w.setCell ⟨b, 2, none⟩ (.int .i64 t2)) b n s t2 v := by
  unfold NetBox at *
  simp only [World.setCell, Array.getElem?_modify, h, if_true, Option.map_some]
  rfl
theorem below_drew {B : Nat} {w w' : World} (h : Below B w w') : Below B w w'.drew := h.trans ⟨rfl, rfl, rfl, Nat.le_refl _, fun _ _ => rfl⟩
theorem netBox_drewN {w : World} {b : Nat} {n s t : Int} {v : Value} (h : NetBox w b n s t v) (q : Nat) : NetBox (w.drewN q) b n s t v := h

end Ne
end Go.Proofs.Ytcelggfnfnaajaa
