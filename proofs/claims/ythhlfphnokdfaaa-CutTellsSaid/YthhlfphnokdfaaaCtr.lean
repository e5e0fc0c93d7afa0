/-
  Rows of nodes one by one, plainly: how far a row rises; what is wrong with a network is wrong with nothing on each arc. No condition.
-/
import Derived.Test.YthhlfphnokdfaaaCtq
namespace Go.Proofs.Ythhlfphnokdfaaa
set_option linter.unusedVariables false
set_option linter.unusedSimpArgs false
namespace Ne
def lastOf (S : List Int) (j : Nat) : Int := if j = 0 then 0 else amt S (j - 1)
theorem lastOf_zero (S : List Int) : lastOf S 0 = 0 := rfl
theorem lastOf_succ (S : List Int) (j : Nat) : lastOf S (j + 1) = amt S j := by simp [lastOf]
theorem hasL_cons (a : Int) (l : List Int) (v : Int) : hasL (a :: l) v = (v == a || hasL l v) := by
  unfold hasL
  by_cases c : v = a
  · simp [c]
  · by_cases d : v ∈ l <;> simp [c, d]
theorem hasL_snoc (l : List Int) (x v : Int) : hasL (l ++ [x]) v = (v == x || hasL l v) := by
  unfold hasL
  by_cases c : v = x
  · simp [c]
  · by_cases d : v ∈ l <;> simp [c, d]
theorem take_amt' {S : List Int} {j : Nat} (hj : j < S.length) : S.take (j + 1) = S.take j ++ [amt S j] := take_amt hj
theorem hasL_take {S : List Int} {j : Nat} (hj : j < S.length) (v : Int) : hasL (S.take (j + 1)) v = (v == amt S j || hasL (S.take j) v) := by
  rw [take_amt' hj, hasL_snoc]
theorem rises_less {n : Int} {S : List Int} {j : Nat} (h : Rises n S) : Rises n (S.take j) :=
  ⟨fun a ha => h.1 a (List.mem_of_mem_take ha), h.2.sublist (List.take_sublist j S)⟩
theorem rises_zero (n : Int) (S : List Int) : Rises n (S.take 0) := ⟨fun a h => by simp at h, by simp⟩
theorem rises_mem {n : Int} {S : List Int} {j : Nat} (h : Rises n (S.take j)) (hj : j ≤ S.length) : ∀ a ∈ S.take j, a ≤ lastOf S j := by
  cases j with
  | zero => intro a ha; simp at ha
  | succ j =>
    intro a ha
    rw [lastOf_succ]
    rw [take_amt' (by omega)] at ha h
    rcases List.mem_append.1 ha with ha | ha
    · have := (List.pairwise_append.1 h.2).2.2 a ha (amt S j) (by simp)
      omega
    · simp at ha; omega
theorem rises_step {n : Int} {S : List Int} {j : Nat} (hj : j < S.length) (h : Rises n (S.take j)) : Rises n (S.take (j + 1)) ↔ lastOf S j < amt S j ∧ amt S j ≤ n := by
  constructor
  · intro h2
    rw [take_amt' hj] at h2
    have h3 := h2.1 (amt S j) (by simp)
    refine ⟨?_, h3.2⟩
    cases j with
    | zero => rw [lastOf_zero]; omega
    | succ j =>
      rw [lastOf_succ]
      refine (List.pairwise_append.1 h2.2).2.2 _ ?_ _ (by simp)
      rw [take_amt' (by omega)]; simp
  · rintro ⟨h1, h2⟩
    have hm := rises_mem h (Nat.le_of_lt hj)
    have hp : 0 ≤ lastOf S j := by
      cases j with
      | zero => rw [lastOf_zero]; omega
      | succ j =>
        have := (h.1 (amt S j) (by rw [take_amt' (by omega)]; simp)).1
        rw [lastOf_succ]; omega
    rw [take_amt' hj]
    refine ⟨fun a ha => ?_, List.pairwise_append.2 ⟨h.2, by simp, fun a ha b hb => ?_⟩⟩
    · rcases List.mem_append.1 ha with ha | ha
      · exact h.1 a ha
      · simp at ha; omega
    · simp at hb; have := hm a ha; omega
theorem rises_len {n : Int} {S : List Int} : ∀ {j : Nat}, Rises n (S.take j) → j ≤ S.length → (j : Int) ≤ lastOf S j
  | 0, _, _ => by rw [lastOf_zero]; omega
  | j + 1, h, hj => by
    have h1 : Rises n (S.take j) := by
      have := rises_less (j := j) h
      rwa [List.take_take, show min j (j + 1) = j by omega] at this
    have ih := rises_len h1 (by omega)
    have := ((rises_step (by omega) h1).1 h).1
    rw [lastOf_succ]
    omega
theorem rises_pos {n : Int} {S : List Int} {j : Nat} (h : Rises n (S.take j)) (hj : j ≤ S.length) : 0 ≤ lastOf S j := by have := rises_len h hj; omega
theorem rises_top {n : Int} {S : List Int} {j : Nat} (h : Rises n (S.take j)) (hj : j ≤ S.length) (hn : 0 ≤ n) : lastOf S j ≤ n := by
  cases j with
  | zero => rw [lastOf_zero]; exact hn
  | succ j => rw [lastOf_succ]; exact (h.1 (amt S j) (by rw [take_amt' (by omega)]; simp)).2
theorem rises_not {n : Int} {S : List Int} {j : Nat} (h : ¬ Rises n (S.take j)) : ¬ Rises n S := fun h2 => h (rises_less h2)
theorem rises_end {n : Int} {S : List Int} {j : Nat} (h : Rises n (S.take j)) (hj : S.length ≤ j) : Rises n S := by rwa [List.take_of_length_le hj] at h
/-- nothing on each arc: what is wrong is the network -/
theorem chkF_nought (n : Net) : chkF n (List.replicate n.l.length 0) = checkN n := by
  by_cases h : checkN n = 0
  · rw [h]; exact flow_chkF h (flow_nought (right_of h))
  · unfold chkF chkA
    simp [h]
theorem cutE_net {n : Net} (S : List Int) (h : checkN n ≠ 0) : cutE n S = checkN n := by unfold cutE; rw [if_pos h]
theorem cutE_arg {n : Net} {S : List Int} (h : checkN n = 0) (h2 : ¬ Rises n.n S) : cutE n S = 1 := by unfold cutE; rw [if_neg (by simpa using h), if_pos h2]
theorem cutE_end {n : Net} {S : List Int} (h : checkN n = 0) (h2 : Rises n.n S) (h3 : hasL S n.s = false ∨ hasL S n.t = true) : cutE n S = 9 := by
  unfold cutE; rw [if_neg (by simpa using h), if_neg (by simpa using h2), if_pos h3]
theorem cutE_fine {n : Net} {S : List Int} (h : checkN n = 0) (h2 : Rises n.n S) (h3 : hasL S n.s = true) (h4 : hasL S n.t = false) : cutE n S = 0 := by
  unfold cutE; rw [if_neg (by simpa using h), if_neg (by simpa using h2), if_neg (by simp [h3, h4])]
theorem cutE_ok {n : Net} {S : List Int} (h : cutE n S = 0) : checkN n = 0 ∧ Rises n.n S ∧ hasL S n.s = true ∧ hasL S n.t = false := by
  by_cases h1 : checkN n = 0
  · by_cases h2 : Rises n.n S
    · by_cases h3 : hasL S n.s = false ∨ hasL S n.t = true
      · rw [cutE_end h1 h2 h3] at h; cases h
      · cases c : hasL S n.s
        · exact absurd (.inl c) h3
        · cases d : hasL S n.t
          · exact ⟨h1, h2, rfl, rfl⟩
          · exact absurd (.inr d) h3
    · rw [cutE_arg h1 h2] at h; cases h
  · rw [cutE_net S h1] at h; exact absurd h h1
/-- what is told of a cut: its arcs, and what they bear -/
def arcsV (n : Net) (S : List Int) : List Int := if cutE n S ≠ 0 then [] else overTo n.l S n.l.length
def capV (n : Net) (S : List Int) : Int := if cutE n S ≠ 0 then 0 else cutC n.l S
theorem arcsV_bad {n : Net} {S : List Int} (h : cutE n S ≠ 0) : arcsV n S = [] := by unfold arcsV; rw [if_pos h]
theorem arcsV_ok {n : Net} {S : List Int} (h : cutE n S = 0) : arcsV n S = overTo n.l S n.l.length := by unfold arcsV; rw [if_neg (by simpa using h)]
theorem capV_ok {n : Net} {S : List Int} (h : cutE n S = 0) : capV n S = cutC n.l S := by unfold capV; rw [if_neg (by simpa using h)]
theorem arcsV_len (n : Net) (S : List Int) : (arcsV n S).length ≤ n.l.length := by
  unfold arcsV; split
  · simp
  · exact over_len _ _ _
theorem arcsV_mem {n : Net} {S : List Int} {i : Int} (h : i ∈ arcsV n S) : 0 ≤ i ∧ i < n.l.length := by
  unfold arcsV at h; split at h
  · simp at h
  · have := over_mem.1 h; exact ⟨this.1, this.2.1⟩
/-- the sum of the arcs' capacities, up to the k-th of those that cross -/
def sumV (l : List Arc) (R : List Int) (k : Nat) : Int := ((R.take k).map fun i => (arcAt l i.toNat).cap).sum
theorem sumV_succ {l : List Arc} {R : List Int} {k : Nat} (h : k < R.length) : sumV l R (k + 1) = sumV l R k + (arcAt l (amt R k).toNat).cap := by
  unfold sumV; rw [take_amt' h, List.map_append, List.sum_append]; simp
theorem cutC_sum (l : List Arc) (S : List Int) : cutC l S = ((overTo l S l.length).map fun i => (arcAt l i.toNat).cap).sum := by
  rw [over_cap]; unfold cutC; rw [capP_eq]
theorem capV_sum (n : Net) (S : List Int) : sumV n.l (arcsV n S) (arcsV n S).length = capV n S := by
  unfold sumV arcsV capV
  rw [List.take_length]
  split
  · rfl
  · exact (cutC_sum _ _).symm
theorem sumV_zero (l : List Arc) (R : List Int) : sumV l R 0 = 0 := by simp [sumV]
theorem capP_sum {l : List Arc} (P : Int → Bool) (h : ∀ i, i < l.length → 0 ≤ (arcAt l i).cap) : capP l P ≤ capS l l.length := by
  rw [capP_eq]
  refine sumTo_le fun i hi => ?_
  have := h i hi
  unfold capT; split <;> omega
theorem sumV_nn {l : List Arc} {R : List Int} (h : ∀ i ∈ R, 0 ≤ (arcAt l i.toNat).cap) : ∀ k : Nat, 0 ≤ sumV l R k ∧ sumV l R k ≤ sumV l R R.length := by
  induction R with
  | nil => intro k; simp [sumV]
  | cons a R ih =>
    intro k
    have h1 := h a List.mem_cons_self
    have ih := fun k => ih (fun i hi => h i (List.mem_cons_of_mem _ hi)) k
    cases k with
    | zero => rw [sumV_zero]; have := (ih R.length).1; simp [sumV] at this ⊢; omega
    | succ k => have := ih k; simp [sumV] at this ⊢; omega
theorem sumV_bd (n : Net) (S : List Int) (k : Nat) : 0 ≤ sumV n.l (arcsV n S) k ∧ sumV n.l (arcsV n S) k ≤ 4611686018427387903 := by
  by_cases c : cutE n S = 0
  · have hR := right_of (cutE_ok c).1
    have h1 := sumV_nn (l := n.l) (R := arcsV n S) (fun i hi => by have := arcsV_mem hi; exact hR.cap0 _ (by omega)) k
    rw [capV_sum, capV_ok c] at h1
    have h2 := capP_sum (l := n.l) (fun v => !(hasL S v)) hR.cap0
    have := hR.sum
    unfold cutC at h1
    omega
  · rw [arcsV_bad c]; simp [sumV]
end Ne
end Go.Proofs.Ythhlfphnokdfaaa
