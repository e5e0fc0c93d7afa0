/-
  Stage 15: what the loops over items keep: an item looked at up to arc number j (Pre), items added up to one's arc number k (partI). No condition.
-/
import Derived.Test.YtkeojkddbannpaaItr
namespace Go.Proofs.Ytkeojkddbannpaa
set_option linter.unusedVariables false
set_option linter.unusedSimpArgs false
namespace Dc
open Go.Proofs.Ytkeojkddbannpaa.Ne
/-- right up to arc number j -/
structure Pre (n : Net) (x : ItZ) (j : Nat) : Prop where
  inn : ∀ i, i < j → 0 ≤ amt x.arcs i ∧ amt x.arcs i < (n.l.length : Int)
  chn : ∀ i, i + 1 < j → zfr n x (i + 1) = zto n x i
  nd : ∀ i k, i < k → k < j → zfr n x i ≠ zfr n x k
theorem pre_zero (n : Net) (x : ItZ) : Pre n x 0 := ⟨fun i h => absurd h (by omega), fun i h => absurd h (by omega), fun i k _ h => absurd h (by omega)⟩
theorem RightI.pre {n : Net} {x : ItZ} (h : RightI n x) {j : Nat} (hj : j ≤ x.arcs.length) : Pre n x j := ⟨fun i hi => h.inn i (by omega), fun i hi => h.chn i (by omega), fun i k h1 h2 => h.nd i k h1 (by omega)⟩
theorem pre_step {n : Net} {x : ItZ} {j : Nat} (h : Pre n x j) (h1 : 0 ≤ amt x.arcs j ∧ amt x.arcs j < (n.l.length : Int)) (h2 : 0 < j → zfr n x j = zto n x (j - 1)) (h3 : ∀ i, i < j → zfr n x i ≠ zfr n x j) : Pre n x (j + 1) :=
  ⟨fun i hi => by
    by_cases c : i = j
    · rw [c]; exact h1
    · exact h.inn i (by omega), fun i hi => by
    by_cases c : i + 1 = j
    · have := h2 (by omega)
      rw [c, this]; congr 1; omega
    · exact h.chn i (by omega), fun i k hik hk => by
    by_cases c : k = j
    · rw [c]; exact h3 i (by omega)
    · exact h.nd i k hik (by omega)⟩
theorem pre_right {n : Net} {x : ItZ} (h : Pre n x x.arcs.length) (h0 : 0 < x.amount) (h1 : x.arcs ≠ []) (h2 : ∀ i, 1 ≤ i → i < x.arcs.length → zfr n x i ≠ zto n x (x.arcs.length - 1))
    (h3 : (x.kind = 112 ∧ zfr n x 0 = n.s ∧ zto n x (x.arcs.length - 1) = n.t) ∨ (x.kind = 98 ∧ zfr n x 0 = n.t ∧ zto n x (x.arcs.length - 1) = n.s) ∨ (x.kind = 99 ∧ zfr n x 0 = zto n x (x.arcs.length - 1))) : RightI n x :=
  ⟨h0, h1, fun i hi => h.inn i hi, fun i hi => h.chn i hi, fun i k h4 h5 => h.nd i k h4 h5, h2, h3⟩
/-- a right item goes by no arc twice -/
theorem right_nodup {n : Net} {x : ItZ} (h : RightI n x) {i k : Nat} (h1 : i < k) (h2 : k < x.arcs.length) : amt x.arcs i ≠ amt x.arcs k := fun e => h.nd i k h1 h2 (by unfold zfr; rw [e])
/-- by how much arc a is gone by: by the first i items, and by the next one's first k arcs -/
def partI (L : List ItZ) (i k a : Nat) : Int := tot (L.take i) a + if (a : Int) ∈ (itAt L i).arcs.take k then (itAt L i).amount else 0
theorem part_zero (L : List ItZ) (a : Nat) : partI L 0 0 a = 0 := by unfold partI; rw [List.take_zero, List.take_zero]; rfl
theorem part_end (L : List ItZ) (a : Nat) : partI L L.length 0 a = tot L a := by
  unfold partI
  rw [List.take_length, List.take_zero, if_neg (by simp), Int.add_zero]
theorem part_next {L : List ItZ} {i : Nat} (hi : i < L.length) (a : Nat) : partI L (i + 1) 0 a = partI L i (itAt L i).arcs.length a := by
  unfold partI
  have e : L.take (i + 1) = L.take i ++ [itAt L i] := by
    rw [List.take_add_one, itAt_of hi]; rfl
  rw [e, tot_append, List.take_zero, if_neg (by simp), List.take_length, tot_cons]
  have : tot [] a = 0 := rfl
  omega
theorem mem_take_succ {R : List Int} {k : Nat} (hk : k < R.length) (y : Int) : y ∈ R.take (k + 1) ↔ y ∈ R.take k ∨ y = amt R k := by
  have e : R.take (k + 1) = R.take k ++ [amt R k] := by
    rw [List.take_add_one]
    congr 1
    unfold amt; rw [List.getD_eq_getElem?_getD, List.getElem?_eq_getElem hk]; rfl
  rw [e]; simp
theorem not_taken {n : Net} {x : ItZ} (h : RightI n x) {k : Nat} (hk : k < x.arcs.length) : amt x.arcs k ∉ x.arcs.take k := fun hm => by
  obtain ⟨i, hi, e⟩ := List.mem_iff_getElem.1 hm
  rw [List.length_take] at hi
  rw [List.getElem_take] at e
  refine right_nodup h (show i < k by omega) hk ?_
  rw [← e]
  unfold amt; rw [List.getD_eq_getElem?_getD, List.getElem?_eq_getElem (by omega)]; rfl
theorem part_step {n : Net} {L : List ItZ} {i k : Nat} (h : RightI n (itAt L i)) (hk : k < (itAt L i).arcs.length) (a : Nat) : partI L i (k + 1) a = partI L i k a + if (a : Int) = amt (itAt L i).arcs k then (itAt L i).amount else 0 := by
  unfold partI
  by_cases c : (a : Int) = amt (itAt L i).arcs k
  · rw [if_pos c, if_pos ((mem_take_succ hk _).2 (Or.inr c)), if_neg (by rw [c]; exact not_taken h hk)]; omega
  · rw [if_neg c]
    by_cases d : (a : Int) ∈ (itAt L i).arcs.take k
    · rw [if_pos d, if_pos ((mem_take_succ hk _).2 (Or.inl d))]; omega
    · rw [if_neg d, if_neg (fun h2 => (mem_take_succ hk _).1 h2 |>.elim d c)]; omega
theorem tot_nn {L : List ItZ} (h : ∀ x ∈ L, 0 < x.amount) (a : Nat) : 0 ≤ tot L a := by
  induction L with
  | nil => exact Int.le_refl _
  | cons x L ih =>
    rw [tot_cons]
    have := ih fun y hy => h y (List.mem_cons_of_mem _ hy)
    have := h x List.mem_cons_self
    split <;> omega
/-- what is added up so far is no more than all -/
theorem part_le {L : List ItZ} (h : ∀ x ∈ L, 0 < x.amount) {i : Nat} (hi : i < L.length) (k a : Nat) : 0 ≤ partI L i k a ∧ partI L i k a ≤ tot L a := by
  have hx : itAt L i ∈ L := List.mem_of_getElem? (itAt_of hi)
  have h1 := h _ hx
  have h2 := tot_nn (L := L.take i) (fun x hx => h x (List.mem_of_mem_take hx)) a
  have h3 := tot_nn (L := L.drop (i + 1)) (fun x hx => h x (List.mem_of_mem_drop hx)) a
  have e : L = L.take i ++ (itAt L i :: L.drop (i + 1)) := by
    have h4 := List.getElem?_eq_some_iff.1 (itAt_of hi)
    have h5 : L.drop i = itAt L i :: L.drop (i + 1) := by rw [List.drop_eq_getElem_cons hi, h4.2]
    rw [← h5, List.take_append_drop]
  have e2 : tot L a = tot (L.take i) a + ((if (a : Int) ∈ (itAt L i).arcs then (itAt L i).amount else 0) + tot (L.drop (i + 1)) a) := by
    rw [← tot_cons, ← tot_append, ← e]
  unfold partI
  by_cases d : (a : Int) ∈ (itAt L i).arcs.take k
  · rw [if_pos d]
    rw [if_pos (List.mem_of_mem_take d)] at e2
    omega
  · rw [if_neg d]
    split at e2 <;> omega
/-- nothing left: no arc fits -/
theorem fst_none_of {l : List Arc} {g : List Int} {v : Int} (h : ∀ i, i < l.length → ¬ (0 < amt g i ∧ (v = 0 ∨ (arcAt l i).fr = v))) : fstA l g v = none := List.find?_eq_none.2 fun i hi => by
  have := h i (List.mem_range.1 hi)
  simpa using this
/-- an arc's number, below 0 where there is none -/
def firZ (l : List Arc) (g : List Int) (v : Int) : Int := match fstA l g v with | some a => (a : Int) | none => -1
theorem firZ_some {l : List Arc} {g : List Int} {v : Int} {a : Nat} (h : fstA l g v = some a) : firZ l g v = (a : Int) := by unfold firZ; rw [h]
theorem firZ_none {l : List Arc} {g : List Int} {v : Int} (h : fstA l g v = none) : firZ l g v = -1 := by unfold firZ; rw [h]
theorem firZ_hit {l : List Arc} {g : List Int} {v : Int} {i : Nat} (hi : i < l.length) (h1 : 0 < amt g i ∧ (v = 0 ∨ (arcAt l i).fr = v)) (h3 : ∀ j, j < i → ¬ (0 < amt g j ∧ (v = 0 ∨ (arcAt l j).fr = v))) : firZ l g v = (i : Int) := firZ_some (fst_is hi h1 h3)
theorem firZ_miss {l : List Arc} {g : List Int} {v : Int} (h : ∀ i, i < l.length → ¬ (0 < amt g i ∧ (v = 0 ∨ (arcAt l i).fr = v))) : firZ l g v = -1 := firZ_none (fst_none_of h)
/-- a place is found: no earlier one -/
theorem ix_is {L : List Int} {x : Int} : ∀ {k i : Nat}, i < k → amt L i = x → (∀ j, j < i → amt L j ≠ x) → (List.range k).find? (fun i => decide (amt L i = x)) = some i
  | 0, i, h, _, _ => absurd h (by omega)
  | k + 1, i, h, h1, h2 => by
    rw [List.range_succ, List.find?_append]
    by_cases c : i = k
    · subst c
      have e : (List.range i).find? (fun i => decide (amt L i = x)) = none := List.find?_eq_none.2 fun j hj => by
        have := h2 j (List.mem_range.1 hj)
        simpa using this
      have e2 : decide (amt L i = x) = true := by simpa using h1
      rw [e]
      simp only [List.find?_cons, e2, Option.none_or]
    · rw [ix_is (k := k) (by omega) h1 h2]; rfl
theorem ix_hit {L : List Int} {x : Int} {i : Nat} (hi : i < L.length) (h1 : amt L i = x) (h2 : ∀ j, j < i → amt L j ≠ x) : ixOf L x = some i := ix_is hi h1 h2
/-- one step of a walk -/
theorem wlk_step {l : List Arc} {g : List Int} {en u : Int} {k : Nat} {R : List Nat} {b : Bool} {Q : List Nat} (h : wlk l g en k u R = some (b, Q)) :
    ∃ k' a, k = k' + 1 ∧ fstA l g u = some a ∧ (((arcAt l a).to = en ∧ b = true ∧ Q = R ++ [a]) ∨ ((arcAt l a).to ≠ en ∧ ∃ i, ixOf (beg l (R ++ [a])) (arcAt l a).to = some i ∧ b = false ∧ Q = (R ++ [a]).drop i) ∨ ((arcAt l a).to ≠ en ∧ ixOf (beg l (R ++ [a])) (arcAt l a).to = none ∧ wlk l g en k' (arcAt l a).to (R ++ [a]) = some (b, Q))) := by
  rcases k with _ | k
  · cases h
  · rcases ha : fstA l g u with _ | a
    · simp only [wlk, ha] at h; cases h
    · simp only [wlk, ha] at h
      refine ⟨k, a, rfl, rfl, ?_⟩
      by_cases c : (arcAt l a).to = en
      · rw [if_pos c] at h
        simp only [Option.some.injEq, Prod.mk.injEq] at h
        exact Or.inl ⟨c, h.1.symm, h.2.symm⟩
      · rw [if_neg c] at h
        rcases hx : ixOf (beg l (R ++ [a])) (arcAt l a).to with _ | i
        · rw [hx] at h
          exact Or.inr (Or.inr ⟨c, rfl, h⟩)
        · rw [hx] at h
          simp only [Option.some.injEq, Prod.mk.injEq] at h
          exact Or.inr (Or.inl ⟨c, i, rfl, h.1.symm, h.2.symm⟩)
/-- that it comes to the end says that there is a value -/
theorem wlk_end {n : Net} (hR : Right n) {g : List Int} (hL : Lf n g) {a : Nat} (ha : fstA n.l g 0 = some a) {Q : List Nat} (h : wlk n.l g (fin n g) (n.n.toNat + 1) (bgn n g) [] = some (true, Q)) : exc n.l g n.t ≠ 0 := fun h0 => by
  have hx := itm_is hR hL ha
  unfold itm at hx
  rw [h] at hx
  simp only at hx
  rw [if_neg (by omega)] at hx
  rcases hx.kinds with ⟨k, -⟩ | ⟨-, h2, -⟩ | ⟨k, -⟩
  · have k' : (98 : Int) = 112 := k
    exact absurd k' (by decide)
  · omega
  · have k' : (98 : Int) = 99 := k
    exact absurd k' (by decide)
end Dc
end Go.Proofs.Ytkeojkddbannpaa
