/-
  Plain facts on the excesses of all nodes together, on what may come in to a node, and on a network turned. No condition.
-/
import Derived.Test.YtiimomonbdckgaaFlh
import Derived.Test.YtiimomonbdckgaaNbox
namespace Go.Proofs.Ytiimomonbdckgaa
open Go.ChangeShapes Go.WideShapes Go.ChangeAt Go.RowKit
set_option linter.unusedVariables false
set_option linter.unusedSimpArgs false
namespace Ne
/-- the excesses of the nodes 1 to k together -/
def nodS (l : List Arc) (f : List Int) (k : Nat) : Int := sumTo (fun i => exc l f ((i : Int) + 1)) k
def leA (k : Int) (a : Arc) : Int := (if a.to ≤ k then 1 else 0) - (if a.fr ≤ k then 1 else 0)
theorem excC_plus (c d : Arc → Int) (l : List Arc) (f : List Int) : excC (fun a => c a + d a) l f = excC c l f + excC d l f := by
  unfold excC
  rw [← sumTo_add]
  exact sumTo_congr fun i _ => by rw [Int.add_mul]
theorem le_step (t k : Int) : (if t ≤ k + 1 then (1 : Int) else 0) = (if t ≤ k then 1 else 0) + (if t = k + 1 then 1 else 0) := by
  by_cases h1 : t ≤ k
  · rw [if_pos (by omega), if_pos h1, if_neg (by omega)]; rfl
  · by_cases h2 : t = k + 1
    · rw [if_pos (by omega), if_neg h1, if_pos h2]; rfl
    · rw [if_neg (by omega), if_neg h1, if_neg h2]; rfl
theorem nodS_eq {n : Net} (hR : Right n) (f : List Int) : ∀ k : Nat, nodS n.l f k = excC (leA (k : Int)) n.l f
  | 0 => by
    have : excC (leA ((0 : Nat) : Int)) n.l f = 0 := sumTo_zero fun i hi => by
      have h1 := hR.to0 i hi
      have h2 := hR.fr0 i hi
      unfold leA
      rw [if_neg (by omega), if_neg (by omega)]; simp
    rw [this]; rfl
  | k + 1 => by
    have e : nodS n.l f (k + 1) = nodS n.l f k + exc n.l f ((k : Int) + 1) := rfl
    rw [e, nodS_eq hR f k, exc_eq, ← excC_plus]
    unfold excC
    refine sumTo_congr fun i _ => ?_
    congr 1
    show leA (k : Int) (arcAt n.l i) + dl ((k : Int) + 1) (arcAt n.l i) = leA ((k + 1 : Nat) : Int) (arcAt n.l i)
    unfold leA dl
    rw [show ((k + 1 : Nat) : Int) = (k : Int) + 1 by omega, le_step, le_step]; omega
theorem nodS_all {n : Net} (hR : Right n) (f : List Int) {k : Nat} (hk : (k : Int) = n.n) : nodS n.l f k = 0 := by
  rw [nodS_eq hR f k]
  refine sumTo_zero fun i hi => ?_
  have h1 := hR.to1 i hi
  have h2 := hR.fr1 i hi
  unfold leA
  rw [if_pos (by omega), if_pos (by omega)]; simp
theorem nodS_bd {n : Net} (hR : Right n) {f : List Int} (hw : wi n.l f) (k : Nat) : -4611686018427387903 ≤ nodS n.l f k ∧ nodS n.l f k ≤ 4611686018427387903 := by
  rw [nodS_eq hR f k]
  have h1 : excC (leA (k : Int)) n.l f ≤ capS n.l n.l.length := sumTo_le fun i hi => by
    have := hw i hi; have := hR.cap0 i hi
    unfold leA
    by_cases a : (arcAt n.l i).to ≤ (k : Int) <;> by_cases b : (arcAt n.l i).fr ≤ (k : Int) <;> simp [a, b] <;> omega
  have h2 : -capS n.l n.l.length ≤ excC (leA (k : Int)) n.l f := by
    have e : -capS n.l n.l.length = sumTo (fun i => (-1) * (arcAt n.l i).cap) n.l.length := by rw [sumTo_mul]; unfold capS; omega
    rw [e]
    refine sumTo_le fun i hi => ?_
    have := hw i hi; have := hR.cap0 i hi
    unfold leA
    by_cases a : (arcAt n.l i).to ≤ (k : Int) <;> by_cases b : (arcAt n.l i).fr ≤ (k : Int) <;> simp [a, b] <;> omega
  have := hR.sum
  omega
/-- what may come in to a node along the first k arcs -/
def inC (l : List Arc) (v : Int) (k : Nat) : Int := sumTo (fun i => if (arcAt l i).to = v then (arcAt l i).cap else 0) k
theorem inC_succ (l : List Arc) (v : Int) (k : Nat) : inC l v (k + 1) = inC l v k + if (arcAt l k).to = v then (arcAt l k).cap else 0 := rfl
theorem inC_bd {n : Net} (hR : Right n) (v : Int) {k : Nat} (hk : k ≤ n.l.length) : 0 ≤ inC n.l v k ∧ inC n.l v k ≤ 4611686018427387903 := by
  have h1 : inC n.l v k ≤ capS n.l k := sumTo_le fun i hi => by have := hR.cap0 i (by omega); split <;> omega
  have h2 : capS n.l k ≤ capS n.l n.l.length := sumTo_mono hR.cap0 hk
  have := hR.sum
  exact ⟨sumTo_nn fun i hi => by have := hR.cap0 i (by omega); split <;> omega, by omega⟩
theorem exc_inC {l : List Arc} {f : List Int} (hw : wi l f) (v : Int) : exc l f v ≤ inC l v l.length := by
  have h1 : toS l f v l.length ≤ inC l v l.length := sumTo_le fun i hi => by have := hw i hi; split <;> omega
  have h2 : 0 ≤ frS l f v l.length := sumTo_nn fun i hi => by have := hw i hi; split <;> omega
  unfold exc; omega
theorem arcAt_turn {l : List Arc} {i : Nat} (h : i < l.length) : arcAt (l.map turnA) i = turnA (arcAt l i) := by
  unfold arcAt
  simp [h]
theorem dl_turn (v : Int) (a : Arc) : dl v (turnA a) = -dl v a := by unfold dl turnA; simp only; omega
theorem exc_turn (l : List Arc) (f : List Int) (v : Int) : exc (l.map turnA) f v = -exc l f v := by
  rw [exc_eq, exc_eq]
  unfold excC
  rw [List.length_map]
  have e : -sumTo (fun i => dl v (arcAt l i) * amt f i) l.length = (-1) * sumTo (fun i => dl v (arcAt l i) * amt f i) l.length := by omega
  rw [e, ← sumTo_mul]
  refine sumTo_congr fun i hi => ?_
  rw [arcAt_turn hi, dl_turn, ← Int.mul_assoc]; congr 1; omega
theorem turn_calm {n : Net} {f : List Int} (h : Flow n f) : Calm (turnN n) f := by
  refine ⟨by simp [turnN, h.len], fun i hi => ?_, fun v hs ht => ?_⟩
  · have hi2 : i < n.l.length := by simpa [turnN] using hi
    have := h.wi i hi2
    show 0 ≤ amt f i ∧ amt f i ≤ (arcAt (n.l.map turnA) i).cap
    rw [arcAt_turn hi2]; exact this
  · show exc (n.l.map turnA) f v = 0
    rw [exc_turn, h.calm v ht hs]; rfl
theorem turn_check {n : Net} (hR : fineH n) (hl : ∀ a ∈ n.l, fineA n.n a) : checkN (turnN n) = 0 := by
  obtain ⟨h1, h2, h3, h4, h5, h6, h7, h8⟩ := hR
  refine checkN_fine ⟨h1, h2, h5, h6, h3, h4, Ne.symm h7, by simpa [turnN] using h8⟩ fun a ha => ?_
  obtain ⟨b, hb, rfl⟩ := List.mem_map.1 ha
  obtain ⟨g1, g2, g3, g4⟩ := hl b hb
  exact ⟨g2, g1, g3, g4⟩
end Ne
end Go.Proofs.Ytiimomonbdckgaa
