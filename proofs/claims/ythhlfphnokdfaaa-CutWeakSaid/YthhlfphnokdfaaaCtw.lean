/-
  What crosses a cut, without what comes back, is what a flow is worth, plainly. Condition: the network is right.
-/
import Derived.Test.YthhlfphnokdfaaaCtm
namespace Go.Proofs.Ythhlfphnokdfaaa
set_option linter.unusedVariables false
set_option linter.unusedSimpArgs false
namespace Ne
def sumF (f R : List Int) (k : Nat) : Int := ((R.take k).map fun i => amt f i.toNat).sum
theorem sumF_zero (f R : List Int) : sumF f R 0 = 0 := by simp [sumF]
theorem sumF_succ {f R : List Int} {k : Nat} (h : k < R.length) : sumF f R (k + 1) = sumF f R k + amt f (amt R k).toNat := by
  unfold sumF; rw [take_amt' h, List.map_append, List.sum_append]; simp
def ovT (l : List Arc) (S f : List Int) (i : Nat) : Int := if hasL S (arcAt l i).fr = true ∧ hasL S (arcAt l i).to = false then amt f i else 0
def bkT (l : List Arc) (S f : List Int) (i : Nat) : Int := if hasL S (arcAt l i).fr = false ∧ hasL S (arcAt l i).to = true then amt f i else 0
theorem over_amt (l : List Arc) (S f : List Int) : ∀ j : Nat, ((overTo l S j).map fun i => amt f i.toNat).sum = sumTo (ovT l S f) j
  | 0 => rfl
  | j + 1 => by
    rw [overTo, List.map_append, List.sum_append, over_amt l S f j]
    show _ = sumTo _ j + _
    congr 1
    unfold ovT
    split <;> simp
theorem cut_net {n : Net} (hR : Right n) {f : List Int} (hF : Flow n f) {S : List Int} (hs : hasL S n.s = true) (ht : hasL S n.t = false) :
    sumF f (overTo n.l S n.l.length) (overTo n.l S n.l.length).length - sumTo (bkT n.l S f) n.l.length = exc n.l f n.t := by
  unfold sumF
  rw [List.take_length, over_amt, ← sumTo_sub, flow_cut hR hF (P := fun v => !(hasL S v)) (by show (!_) = false; rw [hs]; rfl) (by show (!_) = true; rw [ht]; rfl)]
  refine sumTo_congr fun i hi => ?_
  unfold ovT bkT cutA
  cases e1 : hasL S (arcAt n.l i).fr <;> cases e2 : hasL S (arcAt n.l i).to <;> simp [e1, e2]
theorem sumF_bd {l : List Arc} {f R : List Int} (h : ∀ i ∈ R, 0 ≤ amt f i.toNat ∧ amt f i.toNat ≤ (arcAt l i.toNat).cap) : ∀ k : Nat, 0 ≤ sumF f R k ∧ sumF f R k ≤ sumV l R k := by
  induction R with
  | nil => intro k; simp [sumF, sumV]
  | cons a R ih =>
    intro k
    have h1 := h a List.mem_cons_self
    have ih := fun k => ih (fun i hi => h i (List.mem_cons_of_mem _ hi)) k
    cases k with
    | zero => rw [sumF_zero, sumV_zero]; omega
    | succ k => have := ih k; simp [sumF, sumV] at this ⊢; omega
theorem bkT_bd {n : Net} (hR : Right n) {f : List Int} (hF : Flow n f) (S : List Int) {j : Nat} (hj : j ≤ n.l.length) : 0 ≤ sumTo (bkT n.l S f) j ∧ sumTo (bkT n.l S f) j ≤ 4611686018427387903 := by
  have hb : ∀ i, i < n.l.length → 0 ≤ bkT n.l S f i ∧ bkT n.l S f i ≤ (arcAt n.l i).cap := fun i hi => by
    obtain ⟨w1, w2⟩ := hF.wi i hi
    have := hR.cap0 i hi
    unfold bkT; split <;> omega
  refine ⟨sumTo_nn fun i hi => (hb i (by omega)).1, ?_⟩
  have h1 : sumTo (bkT n.l S f) j ≤ capS n.l j := sumTo_le fun i hi => (hb i (by omega)).2
  have h2 : ∀ d, j + d ≤ n.l.length → capS n.l j ≤ capS n.l (j + d) := by
    intro d
    induction d with
    | zero => intro _; exact Int.le_refl _
    | succ d ih =>
      intro h
      have h3 := ih (by omega)
      have h4 := hR.cap0 (j + d) (by omega)
      have h5 : capS n.l (j + (d + 1)) = capS n.l (j + d) + (arcAt n.l (j + d)).cap := rfl
      omega
  have h3 := h2 (n.l.length - j) (by omega)
  rw [show j + (n.l.length - j) = n.l.length by omega] at h3
  have := hR.sum
  omega
/-- all that the law asks of a flow and a cut -/
theorem weak_facts {n : Net} (ck : checkN n = 0) {f : List Int} (hF : Flow n f) {p : Nat → Bool} (hs : p n.s.toNat = true) (ht : p n.t.toNat = false) :
    exc n.l f n.t ≤ capV n (nodesTo p n.n.toNat) ∧
    sumF f (arcsV n (nodesTo p n.n.toNat)) (arcsV n (nodesTo p n.n.toNat)).length - sumTo (bkT n.l (nodesTo p n.n.toNat) f) n.l.length = exc n.l f n.t ∧
    sumV n.l (arcsV n (nodesTo p n.n.toNat)) (arcsV n (nodesTo p n.n.toNat)).length = capV n (nodesTo p n.n.toNat) ∧
    (∀ k, 0 ≤ sumF f (arcsV n (nodesTo p n.n.toNat)) k ∧ sumF f (arcsV n (nodesTo p n.n.toNat)) k ≤ 4611686018427387903) := by
  have hR := right_of ck
  have hE := nodes_cut ck hs ht
  obtain ⟨_, _, h3, h4⟩ := cutE_ok hE
  refine ⟨?_, ?_, capV_sum _ _, fun k => ?_⟩
  · rw [capV_ok hE]
    exact flow_capP hR hF (P := fun v => !(hasL (nodesTo p n.n.toNat) v)) (by show (!_) = false; rw [h3]; rfl) (by show (!_) = true; rw [h4]; rfl)
  · rw [arcsV_ok hE]; exact cut_net hR hF h3 h4
  · have h1 := sumF_bd (l := n.l) (f := f) (R := arcsV n (nodesTo p n.n.toNat)) (fun i hi => by
      have := arcsV_mem hi
      exact hF.wi i.toNat (by omega)) k
    have h2 := sumV_bd n (nodesTo p n.n.toNat) k
    omega
end Ne
end Go.Proofs.Ythhlfphnokdfaaa
