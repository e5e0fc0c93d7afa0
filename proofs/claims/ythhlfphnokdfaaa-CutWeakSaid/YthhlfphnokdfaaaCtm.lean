/-
  Cuts told by rows of nodes, plainly: a node that is moved, cuts together. Condition: the network is right.
-/
import Derived.Test.YthhlfphnokdfaaaCtr
namespace Go.Proofs.Ythhlfphnokdfaaa
set_option linter.unusedVariables false
set_option linter.unusedSimpArgs false
namespace Ne
theorem capP_in {n : Net} (hR : Right n) {P Q : Int → Bool} (h : ∀ v, 1 ≤ v → v ≤ n.n → P v = Q v) : capP n.l P = capP n.l Q := by
  rw [capP_eq, capP_eq]
  refine sumTo_congr fun i hi => ?_
  unfold capT
  rw [h _ (hR.fr0 i hi) (hR.fr1 i hi), h _ (hR.to0 i hi) (hR.to1 i hi)]
theorem nodes_at (p : Nat → Bool) {n v : Int} (h : 1 ≤ v) (h2 : v ≤ n) : hasL (nodesTo p n.toNat) v = p v.toNat := nodes_has h (by omega)
theorem cutC_nodes {n : Net} (hR : Right n) (p : Nat → Bool) : cutC n.l (nodesTo p n.n.toNat) = capP n.l fun v => !(p v.toNat) :=
  capP_in hR fun v h1 h2 => by rw [nodes_at p h1 h2]
theorem nodes_cut {n : Net} (ck : checkN n = 0) {p : Nat → Bool} (hs : p n.s.toNat = true) (ht : p n.t.toNat = false) : cutE n (nodesTo p n.n.toNat) = 0 := by
  have hR := right_of ck
  have hr := nodes_rise p n.n.toNat
  rw [show ((n.n.toNat : Nat) : Int) = n.n by have := hR.n0; omega] at hr
  exact cutE_fine ck hr (by rw [nodes_at p hR.s0 hR.s1]; exact hs) (by rw [nodes_at p hR.t0 hR.t1]; exact ht)
theorem capV_bd (n : Net) (S : List Int) : 0 ≤ capV n S ∧ capV n S ≤ 4611686018427387903 := by rw [← capV_sum]; exact sumV_bd n S _
theorem sumTo_small {g : Nat → Int} {M : Int} : ∀ j : Nat, (∀ i, i < j → -M ≤ g i ∧ g i ≤ M) → -(M * j) ≤ sumTo g j ∧ sumTo g j ≤ M * j
  | 0, _ => by simp [sumTo]
  | j + 1, h => by
    have h1 := sumTo_small j fun i hi => h i (by omega)
    have h2 := h j (by omega)
    have e : M * ((j + 1 : Nat) : Int) = M * j + M := by rw [Int.natCast_add, Int.mul_add]; simp
    rw [e]; show _ ≤ sumTo g j + g j ∧ sumTo g j + g j ≤ _; omega
/-- what a node that is moved brings, at one arc -/
def movS (S : List Int) (u : Int) (a : Arc) : Int := movT (fun v => !(hasL S v)) u a
theorem movS_out {S : List Int} {u : Int} {a : Arc} (h1 : a.fr = u) (h2 : a.to ≠ u) : movS S u a = if hasL S a.to = false then a.cap else 0 := by
  unfold movS movT; cases e : hasL S a.to <;> simp [h1, h2, e]
theorem movS_in {S : List Int} {u : Int} {a : Arc} (h1 : a.fr ≠ u) (h2 : a.to = u) : movS S u a = if hasL S a.fr = true then -a.cap else 0 := by
  unfold movS movT; cases e : hasL S a.fr <;> simp [h1, h2, e]
theorem movS_else {S : List Int} {u : Int} {a : Arc} (h : (a.fr = u ∧ a.to = u) ∨ (a.fr ≠ u ∧ a.to ≠ u)) : movS S u a = 0 := by
  unfold movS movT; rcases h with ⟨h1, h2⟩ | ⟨h1, h2⟩ <;> simp [h1, h2]
theorem movS_small {S : List Int} {u : Int} {a : Arc} (h : 0 ≤ a.cap) {M : Int} (h2 : a.cap ≤ M) : -M ≤ movS S u a ∧ movS S u a ≤ M := by
  by_cases c1 : a.fr = u
  · by_cases c2 : a.to = u
    · rw [movS_else (.inl ⟨c1, c2⟩)]; omega
    · rw [movS_out c1 c2]; split <;> omega
  · by_cases c2 : a.to = u
    · rw [movS_in c1 c2]; split <;> omega
    · rw [movS_else (.inr ⟨c1, c2⟩)]; omega
theorem cut_moved {n : Net} (ck : checkN n = 0) {p : Nat → Bool} (hs : p n.s.toNat = true) (ht : p n.t.toNat = false) {u : Nat} (h1 : 1 ≤ u) (h2 : (u : Int) ≤ n.n) (hu : p u = false) (hut : (u : Int) ≠ n.t) :
    capV n (nodesTo (fun v => v == u || p v) n.n.toNat) = capV n (nodesTo p n.n.toNat) + sumTo (fun i => movS (nodesTo p n.n.toNat) u (arcAt n.l i)) n.l.length ∧ cutE n (nodesTo (fun v => v == u || p v) n.n.toNat) = 0 := by
  have hR := right_of ck
  have hT := hR.t0
  have e2 : cutE n (nodesTo (fun v => v == u || p v) n.n.toNat) = 0 := nodes_cut ck (by simp [hs]) (by
    show (n.t.toNat == u || p n.t.toNat) = false
    rw [ht, Bool.or_false]; exact beq_false_of_ne (by omega))
  refine ⟨?_, e2⟩
  rw [capV_ok e2, capV_ok (nodes_cut ck hs ht)]
  have hPu : (!(hasL (nodesTo p n.n.toNat) (u : Int))) = true := by rw [nodes_at p (by omega) h2, Int.toNat_natCast, hu]; rfl
  have h := capP_move (P := fun v => !(hasL (nodesTo p n.n.toNat) v)) hPu n.l
  rw [sum_sumTo] at h
  show capP n.l _ = capP n.l _ + _
  rw [show sumTo (fun i => movS (nodesTo p n.n.toNat) u (arcAt n.l i)) n.l.length = sumTo (fun i => movT (fun v => !(hasL (nodesTo p n.n.toNat) v)) u (arcAt n.l i)) n.l.length from rfl, ← h]
  refine capP_in hR fun v g1 g2 => ?_
  rw [nodes_at _ g1 g2, nodes_at _ g1 g2]
  by_cases c : v = (u : Int)
  · rw [c]; simp
  · rw [beq_false_of_ne c, beq_false_of_ne (show v.toNat ≠ u by omega)]; simp
/-- cuts together -/
theorem cut_meets {n : Net} (ck : checkN n = 0) {p q : Nat → Bool} (hs : p n.s.toNat = true) (ht : p n.t.toNat = false) (gs : q n.s.toNat = true) (gt : q n.t.toNat = false) :
    capV n (nodesTo (fun v => p v && q v) n.n.toNat) + capV n (nodesTo (fun v => p v || q v) n.n.toNat) ≤ capV n (nodesTo p n.n.toNat) + capV n (nodesTo q n.n.toNat) := by
  have hR := right_of ck
  rw [capV_ok (nodes_cut ck hs ht), capV_ok (nodes_cut ck gs gt), capV_ok (nodes_cut ck (p := fun v => p v && q v) (by simp [hs, gs]) (by simp [ht])), capV_ok (nodes_cut ck (p := fun v => p v || q v) (by simp [hs]) (by simp [ht, gt])),
    cutC_nodes hR, cutC_nodes hR, cutC_nodes hR, cutC_nodes hR]
  have hc : ∀ a ∈ n.l, 0 ≤ a.cap := fun a ha => by
    obtain ⟨i, hi, e⟩ := List.getElem_of_mem ha
    have := hR.cap0 i hi
    rwa [arcAt_of (a := a) (by rw [List.getElem?_eq_getElem hi, e])] at this
  have h := capP_meets (fun v => !(p v.toNat)) (fun v => !(q v.toNat)) n.l hc
  simp only [← Bool.not_or, ← Bool.not_and] at h
  omega
end Ne
end Go.Proofs.Ythhlfphnokdfaaa
