/-
  A flow whose sink is not come to is worth at least as much as any other one: plainly, by the cut of what is come to. Condition: the network is right.
-/
import Derived.Test.YtkeojkddbannpaaRtm
namespace Go.Proofs.Ytkeojkddbannpaa
set_option linter.unusedVariables false
set_option linter.unusedSimpArgs false
namespace Ne
theorem excC_plusM (c d : Arc → Int) (l : List Arc) (f : List Int) : excC (fun a => c a + d a) l f = excC c l f + excC d l f := by
  unfold excC
  rw [← sumTo_add]
  exact sumTo_congr fun i _ => Int.add_mul _ _ _
theorem excC_zero (l : List Arc) (f : List Int) : excC (fun _ => 0) l f = 0 := sumTo_zero fun i _ => Int.zero_mul _
/-- what an arc brings into the nodes of P -/
def cutA (P : Int → Bool) (a : Arc) : Int := (if P a.to = true then 1 else 0) - (if P a.fr = true then 1 else 0)
/-- the same of the nodes below k -/
def cutK (P : Int → Bool) (k : Nat) (a : Arc) : Int := (if P a.to = true ∧ 0 ≤ a.to ∧ a.to < (k : Int) then 1 else 0) - (if P a.fr = true ∧ 0 ≤ a.fr ∧ a.fr < (k : Int) then 1 else 0)
def nodP (l : List Arc) (f : List Int) (P : Int → Bool) (k : Nat) : Int := sumTo (fun v => if P (v : Int) = true then exc l f (v : Int) else 0) k
theorem nodP_eq (l : List Arc) (f : List Int) (P : Int → Bool) : ∀ k, nodP l f P k = excC (cutK P k) l f
  | 0 => by
    have e : cutK P 0 = fun _ => 0 := by
      funext a
      unfold cutK
      rw [if_neg (by omega), if_neg (by omega)]; rfl
    rw [e, excC_zero]; rfl
  | k + 1 => by
    have h : nodP l f P (k + 1) = nodP l f P k + if P (k : Int) = true then exc l f (k : Int) else 0 := rfl
    rw [h, nodP_eq l f P k]
    by_cases c : P (k : Int) = true
    · rw [if_pos c, exc_eq, ← excC_plusM]
      congr 1
      funext a
      unfold cutK dl
      have h1 : ∀ y : Int, ((if P y = true ∧ 0 ≤ y ∧ y < (k : Int) then (1 : Int) else 0) + if y = (k : Int) then 1 else 0) = if P y = true ∧ 0 ≤ y ∧ y < ((k + 1 : Nat) : Int) then 1 else 0 := fun y => by
        by_cases e : y = (k : Int)
        · subst e
          rw [if_neg (by omega), if_pos rfl, if_pos ⟨c, by omega, by omega⟩]; rfl
        · rw [if_neg e]
          by_cases e2 : P y = true ∧ 0 ≤ y ∧ y < (k : Int)
          · rw [if_pos e2, if_pos ⟨e2.1, e2.2.1, by omega⟩]; rfl
          · rw [if_neg e2, if_neg (fun h => e2 ⟨h.1, h.2.1, by have := h.2.2; omega⟩)]; rfl
      have := h1 a.to
      have := h1 a.fr
      omega
    · rw [if_neg c, Int.add_zero]
      congr 1
      funext a
      unfold cutK
      have h1 : ∀ y : Int, (if P y = true ∧ 0 ≤ y ∧ y < (k : Int) then (1 : Int) else 0) = if P y = true ∧ 0 ≤ y ∧ y < ((k + 1 : Nat) : Int) then 1 else 0 := fun y => by
        by_cases e2 : P y = true ∧ 0 ≤ y ∧ y < (k : Int)
        · rw [if_pos e2, if_pos ⟨e2.1, e2.2.1, by omega⟩]
        · rw [if_neg e2, if_neg (fun h => by
            by_cases e : y = (k : Int)
            · rw [e] at h; exact c h.1
            · exact e2 ⟨h.1, h.2.1, by have := h.2.2; omega⟩)]
      rw [h1, h1]
/-- a flow is worth what comes in over any cut, without what goes back -/
theorem flow_cut {n : Net} (hR : Right n) {f : List Int} (hF : Flow n f) {P : Int → Bool} (hs : P n.s = false) (ht : P n.t = true) : exc n.l f n.t = excC (cutA P) n.l f := by
  have h1 := nodP_eq n.l f P (n.n.toNat + 1)
  have ht0 := hR.t0
  have ht1 := hR.t1
  have h2 : nodP n.l f P (n.n.toNat + 1) = exc n.l f n.t := by
    have e := sumTo_one (g := fun _ => 0) (j := n.t.toNat) (exc n.l f n.t) (k := n.n.toNat + 1) (by omega)
    rw [sumTo_zero fun i _ => rfl, Int.zero_add] at e
    rw [← e]
    refine sumTo_congr fun v hv => ?_
    by_cases c : v = n.t.toNat
    · subst c
      rw [if_pos rfl, show ((n.t.toNat : Nat) : Int) = n.t by omega, if_pos ht]
    · rw [if_neg c]
      split
      · rename_i hp
        refine hF.calm _ (fun e => ?_) (fun e => c (by omega))
        rw [e, hs] at hp; cases hp
      · rfl
  rw [← h2, h1]
  refine sumTo_congr fun i hi => ?_
  congr 1
  have a1 := hR.fr0 i hi; have a2 := hR.fr1 i hi; have a3 := hR.to0 i hi; have a4 := hR.to1 i hi
  unfold cutK cutA
  by_cases c1 : P (arcAt n.l i).to = true <;> by_cases c2 : P (arcAt n.l i).fr = true
  · rw [if_pos c1, if_pos c2, if_pos ⟨c1, by omega, by omega⟩, if_pos ⟨c2, by omega, by omega⟩]
  · rw [if_pos c1, if_neg c2, if_pos ⟨c1, by omega, by omega⟩, if_neg (fun h => c2 h.1)]
  · rw [if_neg c1, if_pos c2, if_neg (fun h => c1 h.1), if_pos ⟨c2, by omega, by omega⟩]
  · rw [if_neg c1, if_neg c2, if_neg (fun h => c1 h.1), if_neg (fun h => c2 h.1)]
/-- no flow is worth more than one whose sink is not come to -/
theorem most_one {n : Net} (hR : Right n) {g h L : List Int} (hg : Flow n g) (hh : Flow n h) (hL : IsLev n g 1 L) (hd : amt L n.t.toNat < 0) : exc n.l h n.t ≤ exc n.l g n.t := by
  have hs0 := hR.s0; have hs1 := hR.s1; have ht0 := hR.t0
  have hsl : 0 ≤ amt L n.s.toNat := (hL.low 0 n.s .base).1
  have hs : (fun v : Int => decide (amt L v.toNat < 0)) n.s = false := by simp; omega
  have ht : (fun v : Int => decide (amt L v.toNat < 0)) n.t = true := by simpa using hd
  rw [flow_cut hR hh (P := fun v : Int => decide (amt L v.toNat < 0)) hs ht, flow_cut hR hg (P := fun v : Int => decide (amt L v.toNat < 0)) hs ht]
  have hstep : ∀ r, r < 2 * n.l.length → 0 ≤ amt L (trF n.l r).toNat → 1 ≤ roomN n.l g r → 0 ≤ amt L (trT n.l r).toNat := fun r hr h1 h2 => by
    have hb := trF_bd hR hr
    rcases hL.val (trF n.l r).toNat (by omega) with e | ⟨k, _, hdst⟩
    · omega
    · rw [show (((trF n.l r).toNat : Nat) : Int) = trF n.l r by omega] at hdst
      exact (hL.low _ _ (.step hr h2 hdst)).1
  refine sumTo_le fun i hi => ?_
  obtain ⟨w1, w2⟩ := hg.wi i hi
  obtain ⟨w3, w4⟩ := hh.wi i hi
  unfold cutA
  by_cases c1 : amt L (arcAt n.l i).to.toNat < 0 <;> by_cases c2 : amt L (arcAt n.l i).fr.toNat < 0
  · simp [c1, c2]
  · have h1 := hstep (2 * i) (by omega)
    rw [trF_even, trT_even, room_even] at h1
    have : ¬ 1 ≤ (arcAt n.l i).cap - amt g i := fun e => by have := h1 (by omega) e; omega
    simp only [c1, c2, decide_true, decide_false, if_true, Bool.false_eq_true, if_false]
    omega
  · have h1 := hstep (2 * i + 1) (by omega)
    rw [trF_odd, trT_odd, room_odd] at h1
    have : ¬ 1 ≤ amt g i := fun e => by have := h1 (by omega) e; omega
    simp only [c1, c2, decide_true, decide_false, if_true, Bool.false_eq_true, if_false]
    omega
  · simp [c1, c2]
theorem most_same {n : Net} (hR : Right n) {g h L L2 : List Int} (hg : Flow n g) (hh : Flow n h) (hL : IsLev n g 1 L) (hd : amt L n.t.toNat < 0) (hL2 : IsLev n h 1 L2) (hd2 : amt L2 n.t.toNat < 0) : exc n.l g n.t = exc n.l h n.t := by
  have h1 := most_one hR hg hh hL hd
  have h2 := most_one hR hh hg hL2 hd2
  omega
end Ne
end Go.Proofs.Ytkeojkddbannpaa
