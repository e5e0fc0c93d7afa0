/-
  Rows of nodes, plainly: which nodes of 1 .. k, in order; cuts told by such a row; the arcs that cross. No condition.
-/
import Derived.Test.YthhlfphnokdfaaaCtp
namespace Go.Proofs.Ythhlfphnokdfaaa
set_option linter.unusedVariables false
set_option linter.unusedSimpArgs false
namespace Ne
def hasL (l : List Int) (v : Int) : Bool := decide (v ∈ l)
/-- nodes that rise -/
def Rises (n : Int) (l : List Int) : Prop := (∀ a ∈ l, 1 ≤ a ∧ a ≤ n) ∧ l.Pairwise (· < ·)
instance (n : Int) (l : List Int) : Decidable (Rises n l) := inferInstanceAs (Decidable (_ ∧ _))
/-- those of 1 .. k that p takes, in order -/
def nodesTo (p : Nat → Bool) : Nat → List Int
  | 0 => []
  | k + 1 => nodesTo p k ++ if p (k + 1) then [((k + 1 : Nat) : Int)] else []
theorem nodes_mem {p : Nat → Bool} {v : Int} : ∀ {k : Nat}, v ∈ nodesTo p k ↔ 1 ≤ v ∧ v ≤ k ∧ p v.toNat = true
  | 0 => by simp only [nodesTo, List.not_mem_nil, false_iff]; omega
  | k + 1 => by
    rw [nodesTo, List.mem_append, nodes_mem (k := k)]
    by_cases c : p (k + 1) = true
    · rw [if_pos c, List.mem_singleton]
      constructor
      · rintro (⟨h1, h2, h3⟩ | rfl)
        · exact ⟨h1, by omega, h3⟩
        · exact ⟨by omega, by omega, by rw [Int.toNat_natCast]; exact c⟩
      · rintro ⟨h1, h2, h3⟩
        by_cases e : v ≤ k
        · exact .inl ⟨h1, e, h3⟩
        · exact .inr (by omega)
    · rw [if_neg c]
      simp only [List.not_mem_nil, or_false]
      constructor
      · rintro ⟨h1, h2, h3⟩; exact ⟨h1, by omega, h3⟩
      · rintro ⟨h1, h2, h3⟩
        refine ⟨h1, ?_, h3⟩
        by_cases e : v ≤ k
        · exact e
        · rw [show v.toNat = k + 1 by omega] at h3; exact absurd h3 c
theorem nodes_has {p : Nat → Bool} {k : Nat} {v : Int} (h : 1 ≤ v) (h2 : v ≤ k) : hasL (nodesTo p k) v = p v.toNat := by
  unfold hasL
  cases c : p v.toNat
  · exact decide_eq_false fun e => by have := (nodes_mem.1 e).2.2; rw [c] at this; cases this
  · exact decide_eq_true (nodes_mem.2 ⟨h, h2, c⟩)
theorem nodes_rise (p : Nat → Bool) : ∀ k : Nat, Rises k (nodesTo p k)
  | 0 => ⟨fun a h => by simp [nodesTo] at h, by simp [nodesTo]⟩
  | k + 1 => by
    have ih := nodes_rise p k
    refine ⟨fun a h => ?_, ?_⟩
    · have := nodes_mem.1 h; exact ⟨this.1, this.2.1⟩
    · rw [nodesTo, List.pairwise_append]
      refine ⟨ih.2, by split <;> simp, fun a ha b hb => ?_⟩
      have h1 := ih.1 a ha
      split at hb
      · rw [List.mem_singleton] at hb; subst hb; omega
      · simp at hb
theorem nodes_len (p : Nat → Bool) : ∀ k : Nat, (nodesTo p k).length ≤ k
  | 0 => by simp [nodesTo]
  | k + 1 => by have := nodes_len p k; rw [nodesTo, List.length_append]; split <;> simp <;> omega
theorem nodes_congr {p q : Nat → Bool} : ∀ {k : Nat}, (∀ v, 1 ≤ v → v ≤ k → p v = q v) → nodesTo p k = nodesTo q k
  | 0, _ => rfl
  | k + 1, h => by rw [nodesTo, nodesTo, nodes_congr fun v h1 h2 => h v h1 (by omega), h (k + 1) (by omega) (by omega)]
/-- rows that rise and have the same nodes are one row -/
theorem rises_nodes {n : Nat} : ∀ {l : List Int}, Rises n l → l = nodesTo (fun v => hasL l (v : Int)) n := by
  have key : ∀ (l m : List Int), l.Pairwise (· < ·) → m.Pairwise (· < ·) → (∀ v, v ∈ l ↔ v ∈ m) → l = m := by
    intro l
    induction l with
    | nil => intro m _ _ h; cases m with
      | nil => rfl
      | cons b m => exact absurd ((h b).2 List.mem_cons_self) (by simp)
    | cons a l ih =>
      intro m hl hm h
      cases m with
      | nil => exact absurd ((h a).1 List.mem_cons_self) (by simp)
      | cons b m =>
        have hl' := List.pairwise_cons.1 hl
        have hm' := List.pairwise_cons.1 hm
        have e : a = b := by
          have h1 := (h a).1 List.mem_cons_self
          have h2 := (h b).2 List.mem_cons_self
          rcases List.mem_cons.1 h1 with e | e
          · exact e
          · rcases List.mem_cons.1 h2 with e2 | e2
            · exact e2.symm
            · have := hm'.1 a e; have := hl'.1 b e2; omega
        subst e
        rw [ih m hl'.2 hm'.2 fun v => ?_]
        constructor
        · intro hv
          rcases List.mem_cons.1 ((h v).1 (List.mem_cons_of_mem _ hv)) with e | e
          · have := hl'.1 v hv; omega
          · exact e
        · intro hv
          rcases List.mem_cons.1 ((h v).2 (List.mem_cons_of_mem _ hv)) with e | e
          · have := hm'.1 v hv; omega
          · exact e
  intro l h
  refine key _ _ h.2 (nodes_rise _ n).2 fun v => ?_
  rw [nodes_mem]
  constructor
  · intro hv
    have := h.1 v hv
    refine ⟨this.1, this.2, ?_⟩
    show decide _ = true
    rw [show ((v.toNat : Nat) : Int) = v by omega]
    exact decide_eq_true hv
  · rintro ⟨h1, h2, h3⟩
    have h3 := of_decide_eq_true (show decide (((v.toNat : Nat) : Int) ∈ l) = true from h3)
    rwa [show ((v.toNat : Nat) : Int) = v by omega] at h3
/-- the arcs below j that cross, by their numbers -/
def overTo (l : List Arc) (S : List Int) : Nat → List Int
  | 0 => []
  | j + 1 => overTo l S j ++ if hasL S (arcAt l j).fr = true ∧ hasL S (arcAt l j).to = false then [(j : Int)] else []
/-- what is wrong with a network and a cut of it -/
def cutE (n : Net) (S : List Int) : Int := if checkN n ≠ 0 then checkN n else if ¬ Rises n.n S then 1 else if hasL S n.s = false ∨ hasL S n.t = true then 9 else 0
def cutC (l : List Arc) (S : List Int) : Int := capP l fun v => !(hasL S v)
theorem over_mem {l : List Arc} {S : List Int} {i : Int} : ∀ {j : Nat}, i ∈ overTo l S j ↔ 0 ≤ i ∧ i < j ∧ hasL S (arcAt l i.toNat).fr = true ∧ hasL S (arcAt l i.toNat).to = false
  | 0 => by simp only [overTo, List.not_mem_nil, false_iff]; omega
  | j + 1 => by
    rw [overTo, List.mem_append, over_mem (j := j)]
    by_cases c : hasL S (arcAt l j).fr = true ∧ hasL S (arcAt l j).to = false
    · rw [if_pos c, List.mem_singleton]
      constructor
      · rintro (⟨h1, h2, h3⟩ | rfl)
        · exact ⟨h1, by omega, h3⟩
        · exact ⟨by omega, by omega, by rw [Int.toNat_natCast]; exact c⟩
      · rintro ⟨h1, h2, h3⟩
        by_cases e : i < j
        · exact .inl ⟨h1, e, h3⟩
        · exact .inr (by omega)
    · rw [if_neg c]
      simp only [List.not_mem_nil, or_false]
      constructor
      · rintro ⟨h1, h2, h3⟩; exact ⟨h1, by omega, h3⟩
      · rintro ⟨h1, h2, h3⟩
        refine ⟨h1, ?_, h3⟩
        by_cases e : i < j
        · exact e
        · rw [show i.toNat = j by omega] at h3; exact absurd h3 c
theorem over_len (l : List Arc) (S : List Int) : ∀ j : Nat, (overTo l S j).length ≤ j
  | 0 => by simp [overTo]
  | j + 1 => by have := over_len l S j; rw [overTo, List.length_append]; split <;> simp <;> omega
/-- the capacities of the arcs that cross, together -/
theorem over_cap (l : List Arc) (S : List Int) : ∀ j : Nat, ((overTo l S j).map fun i => (arcAt l i.toNat).cap).sum = sumTo (fun i => capT (fun v => !(hasL S v)) (arcAt l i)) j
  | 0 => rfl
  | j + 1 => by
    rw [overTo, List.map_append, List.sum_append, over_cap l S j]
    show _ = sumTo _ j + _
    congr 1
    unfold capT
    simp only [Bool.not_eq_false', Bool.not_eq_true']
    split <;> simp
end Ne
end Go.Proofs.Ythhlfphnokdfaaa
