/-
  The greatest value of a network, plainly, by cuts: what the arcs out of the source's side can bear. Condition: the network is right.
-/
import Derived.Test.YthhlfphnokdfaaaMfm
namespace Go.Proofs.Ythhlfphnokdfaaa
set_option linter.unusedVariables false
set_option linter.unusedSimpArgs false
namespace Ne
/-- what an arc brings into P at most (the sink's side is P) -/
def capT (P : Int → Bool) (a : Arc) : Int := if P a.fr = false ∧ P a.to = true then a.cap else 0
def capP (l : List Arc) (P : Int → Bool) : Int := (l.map (capT P)).sum
theorem sum_sumTo (g : Arc → Int) : ∀ l : List Arc, (l.map g).sum = sumTo (fun i => g (arcAt l i)) l.length
  | [] => rfl
  | a :: l => by
    rw [List.map_cons, List.sum_cons, sum_sumTo g l, List.length_cons, sumTo_front]
    rfl
theorem capP_eq (l : List Arc) (P : Int → Bool) : capP l P = sumTo (fun i => capT P (arcAt l i)) l.length := sum_sumTo _ l
theorem capP_nil (P : Int → Bool) : capP [] P = 0 := rfl
theorem capP_cons (a : Arc) (l : List Arc) (P : Int → Bool) : capP (a :: l) P = capT P a + capP l P := by simp [capP]
theorem capP_append (l k : List Arc) (P : Int → Bool) : capP (l ++ k) P = capP l P + capP k P := by simp [capP, List.map_append, List.sum_append]
/-- no flow is worth more than a cut -/
theorem flow_capP {n : Net} (hR : Right n) {f : List Int} (hF : Flow n f) {P : Int → Bool} (hs : P n.s = false) (ht : P n.t = true) : exc n.l f n.t ≤ capP n.l P := by
  rw [flow_cut hR hF hs ht, capP_eq]
  refine sumTo_le fun i hi => ?_
  obtain ⟨w1, w2⟩ := hF.wi i hi
  unfold cutA capT
  by_cases c1 : P (arcAt n.l i).to = true <;> by_cases c2 : P (arcAt n.l i).fr = true
  · simp [c1, c2]
  · simp [c1, c2]; omega
  · simp [c1, c2]; omega
  · simp [c1, c2]
/-- a flow whose sink is not come to is worth the cut of what is come to -/
theorem top_capP {n : Net} (hR : Right n) {g L : List Int} (hg : Flow n g) (hL : IsLev n g 1 L) (hd : amt L n.t.toNat < 0) :
    (fun v : Int => decide (amt L v.toNat < 0)) n.s = false ∧ (fun v : Int => decide (amt L v.toNat < 0)) n.t = true ∧ exc n.l g n.t = capP n.l (fun v : Int => decide (amt L v.toNat < 0)) := by
  have hs0 := hR.s0; have hs1 := hR.s1; have ht0 := hR.t0
  have hsl : 0 ≤ amt L n.s.toNat := (hL.low 0 n.s .base).1
  have hs : (fun v : Int => decide (amt L v.toNat < 0)) n.s = false := by simp; omega
  have ht : (fun v : Int => decide (amt L v.toNat < 0)) n.t = true := by simpa using hd
  refine ⟨hs, ht, ?_⟩
  rw [flow_cut hR hg (P := fun v : Int => decide (amt L v.toNat < 0)) hs ht, capP_eq]
  have hstep : ∀ r, r < 2 * n.l.length → 0 ≤ amt L (trF n.l r).toNat → 1 ≤ roomN n.l g r → 0 ≤ amt L (trT n.l r).toNat := fun r hr h1 h2 => by
    have hb := trF_bd hR hr
    rcases hL.val (trF n.l r).toNat (by omega) with e | ⟨k, _, hdst⟩
    · omega
    · rw [show (((trF n.l r).toNat : Nat) : Int) = trF n.l r by omega] at hdst
      exact (hL.low _ _ (.step hr h2 hdst)).1
  refine sumTo_congr fun i hi => ?_
  obtain ⟨w1, w2⟩ := hg.wi i hi
  unfold cutA capT
  by_cases c1 : amt L (arcAt n.l i).to.toNat < 0 <;> by_cases c2 : amt L (arcAt n.l i).fr.toNat < 0
  · simp [c1, c2]
  · have h1 := hstep (2 * i) (by omega)
    rw [trF_even, trT_even, room_even] at h1
    have : ¬ 1 ≤ (arcAt n.l i).cap - amt g i := fun e => by have := h1 (by omega) e; omega
    simp only [c1, c2, decide_true, decide_false, if_true, Bool.false_eq_true, if_false, and_self]
    omega
  · have h1 := hstep (2 * i + 1) (by omega)
    rw [trF_odd, trT_odd, room_odd] at h1
    have : ¬ 1 ≤ amt g i := fun e => by have := h1 (by omega) e; omega
    have e0 : amt g i = 0 := by omega
    simp [c1, c2, e0]
  · simp [c1, c2]
/-- v is the greatest value: of a flow whose sink is not come to -/
def Top (n : Net) (v : Int) : Prop := ∃ g L, Flow n g ∧ IsLev n g 1 L ∧ amt L n.t.toNat < 0 ∧ v = exc n.l g n.t
theorem Top.cut {n : Net} (hR : Right n) {v : Int} (h : Top n v) : ∃ P : Int → Bool, P n.s = false ∧ P n.t = true ∧ v = capP n.l P := by
  obtain ⟨g, L, h1, h2, h3, rfl⟩ := h
  obtain ⟨a, b, c⟩ := top_capP hR h1 h2 h3
  exact ⟨_, a, b, c⟩
theorem Top.low {n : Net} (hR : Right n) {v : Int} (h : Top n v) {P : Int → Bool} (hs : P n.s = false) (ht : P n.t = true) : v ≤ capP n.l P := by
  obtain ⟨g, L, h1, h2, h3, rfl⟩ := h
  exact flow_capP hR h1 hs ht
theorem Top.ge {n : Net} (hR : Right n) {v : Int} (h : Top n v) {f : List Int} (hf : Flow n f) : exc n.l f n.t ≤ v := by
  obtain ⟨g, L, h1, h2, h3, rfl⟩ := h
  exact most_one hR h1 hf h2 h3
theorem Top.one {n : Net} (hR : Right n) {v w : Int} (h : Top n v) (h2 : Top n w) : v = w := by
  obtain ⟨g, L, a1, a2, a3, rfl⟩ := h
  obtain ⟨k, L2, b1, b2, b3, rfl⟩ := h2
  exact most_same hR a1 b1 a2 a3 b2 b3
/-- where each cut of one network has one of the other that bears at most x more, so with the greatest values -/
theorem Top.mono {n m : Net} (hn : Right n) (hm : Right m) {v w x : Int} (h : Top n v) (k : Top m w)
    (hc : ∀ P : Int → Bool, P n.s = false → P n.t = true → ∃ Q : Int → Bool, Q m.s = false ∧ Q m.t = true ∧ capP m.l Q ≤ capP n.l P + x) : w ≤ v + x := by
  obtain ⟨P, h1, h2, rfl⟩ := h.cut hn
  obtain ⟨Q, q1, q2, q3⟩ := hc P h1 h2
  exact Int.le_trans (k.low hm q1 q2) q3
theorem Top.same {n m : Net} (hn : Right n) (hm : Right m) {v w : Int} (h : Top n v) (k : Top m w)
    (hc : ∀ P : Int → Bool, P n.s = false → P n.t = true → ∃ Q : Int → Bool, Q m.s = false ∧ Q m.t = true ∧ capP m.l Q ≤ capP n.l P)
    (hd : ∀ P : Int → Bool, P m.s = false → P m.t = true → ∃ Q : Int → Bool, Q n.s = false ∧ Q n.t = true ∧ capP n.l Q ≤ capP m.l P) : v = w := by
  have h1 := Top.mono hn hm (x := 0) h k (fun P a b => by obtain ⟨Q, q1, q2, q3⟩ := hc P a b; exact ⟨Q, q1, q2, by omega⟩)
  have h2 := Top.mono hm hn (x := 0) k h (fun P a b => by obtain ⟨Q, q1, q2, q3⟩ := hd P a b; exact ⟨Q, q1, q2, by omega⟩)
  omega
/-- turned arcs, seen from the other side -/
theorem capP_turn (l : List Arc) (P : Int → Bool) : capP (l.map fun a => ⟨a.to, a.fr, a.cap⟩) (fun v => !P v) = capP l P := by
  unfold capP
  rw [List.map_map]
  congr 1
  refine List.map_congr_left fun a _ => ?_
  show capT _ _ = capT _ _
  unfold capT
  simp only
  by_cases c1 : P a.to = true <;> by_cases c2 : P a.fr = true <;> simp [c1, c2]
theorem capP_rot (l : List Arc) (k : Nat) (P : Int → Bool) : capP (l.drop k ++ l.take k) P = capP l P := by
  rw [capP_append, Int.add_comm, ← capP_append, List.take_append_drop]
theorem capP_set : ∀ (l : List Arc) (i : Nat) (a : Arc), i < l.length → ∀ P : Int → Bool, capP (l.set i a) P = capP l P + (capT P a - capT P (arcAt l i))
  | [], i, a, h, P => absurd h (by simp)
  | b :: l, 0, a, h, P => by
    show capP (a :: l) P = _
    rw [capP_cons, capP_cons]
    show _ = _ + (_ - capT P b)
    omega
  | b :: l, i + 1, a, h, P => by
    show capP (b :: l.set i a) P = _
    rw [capP_cons, capP_cons, capP_set l i a (by simpa using h) P]
    show _ = _ + (_ - capT P (arcAt l i))
    omega
theorem capT_cap (P : Int → Bool) (a : Arc) (c d : Int) : capT P ⟨a.fr, a.to, c⟩ + capT P ⟨a.fr, a.to, d⟩ = capT P ⟨a.fr, a.to, c + d⟩ := by
  unfold capT
  simp only
  split <;> omega
theorem capT_loop (P : Int → Bool) (v c : Int) : capT P ⟨v, v, c⟩ = 0 := by
  unfold capT
  simp only
  by_cases h : P v = true <;> simp [h]
theorem capT_src {P : Int → Bool} {s : Int} (hs : P s = false) (v c : Int) : capT P ⟨v, s, c⟩ = 0 := by unfold capT; simp [hs]
theorem capT_snk {P : Int → Bool} {t : Int} (ht : P t = true) (v c : Int) : capT P ⟨t, v, c⟩ = 0 := by unfold capT; simp [ht]
theorem capT_bd (P : Int → Bool) {a : Arc} (h : 0 ≤ a.cap) : 0 ≤ capT P a ∧ capT P a ≤ a.cap := by unfold capT; split <;> omega
end Ne
end Go.Proofs.Ythhlfphnokdfaaa
