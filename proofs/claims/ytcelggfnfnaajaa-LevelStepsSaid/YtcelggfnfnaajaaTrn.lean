/-
  Plain facts: amounts that are a flow but for the value; a network turned. No condition.
-/
import Derived.Test.YtcelggfnfnaajaaRtm
import Derived.Test.YtcelggfnfnaajaaNbox
namespace Go.Proofs.Ytcelggfnfnaajaa
open Go.ChangeShapes Go.WideShapes Go.ChangeAt Go.RowKit
set_option linter.unusedVariables false
set_option linter.unusedSimpArgs false
namespace Ne
/-- a flow but for the sign of its value -/
structure Calm (n : Net) (f : List Int) : Prop where
  len : f.length = n.l.length
  wi : wi n.l f
  calm : ∀ v, v ≠ n.s → v ≠ n.t → exc n.l f v = 0
theorem calm_chk {n : Net} {f : List Int} (ck : checkN n = 0) (h : Calm n f) : chkF n f = 0 ∧ vaV n f = exc n.l f n.t := by
  have e : chkF n f = 0 := chkF_in (chkA_in ck h.len h.wi) fun v _ hs ht => h.calm _ hs ht
  exact ⟨e, by unfold vaV; rw [if_neg (by simpa using e)]⟩
theorem flow_calm {n : Net} {f : List Int} (h : Flow n f) : Calm n f := ⟨h.len, h.wi, h.calm⟩
theorem arcAt_turn {l : List Arc} {i : Nat} (h : i < l.length) : arcAt (l.map turnA) i = turnA (arcAt l i) := by
  unfold arcAt
  simp [h]
theorem dl_turn (v : Int) (a : Arc) : dl v (turnA a) = -dl v a := by unfold dl turnA; simp only; omega
theorem exc_turn (l : List Arc) (f : List Int) (v : Int) : exc (l.map turnA) f v = -exc l f v := by
  rw [exc_eq, exc_eq]
  unfold excC
  rw [List.length_map]
  have e : -sumTo (fun i => dl v (arcAt l i) * amt f i) l.length = (-1) * sumTo (fun i => dl v (arcAt l i) * amt f i) l.length := by omega
  rw [e, ← sumTo_mul]
  refine sumTo_congr fun i hi => ?_
  rw [arcAt_turn hi, dl_turn, ← Int.mul_assoc]; congr 1; omega
theorem turn_calm {n : Net} {f : List Int} (h : Flow n f) : Calm (turnN n) f := by
  refine ⟨by simp [turnN, h.len], fun i hi => ?_, fun v hs ht => ?_⟩
  · have hi2 : i < n.l.length := by simpa [turnN] using hi
    have := h.wi i hi2
    show 0 ≤ amt f i ∧ amt f i ≤ (arcAt (n.l.map turnA) i).cap
    rw [arcAt_turn hi2]; exact this
  · show exc (n.l.map turnA) f v = 0
    rw [exc_turn, h.calm v ht hs]; rfl
theorem turn_check {n : Net} (hR : fineH n) (hl : ∀ a ∈ n.l, fineA n.n a) : checkN (turnN n) = 0 := by
  obtain ⟨h1, h2, h3, h4, h5, h6, h7, h8⟩ := hR
  refine checkN_fine ⟨h1, h2, h5, h6, h3, h4, Ne.symm h7, by simpa [turnN] using h8⟩ fun a ha => ?_
  obtain ⟨b, hb, rfl⟩ := List.mem_map.1 ha
  obtain ⟨g1, g2, g3, g4⟩ := hl b hb
  exact ⟨g2, g1, g3, g4⟩
end Ne
end Go.Proofs.Ytcelggfnfnaajaa
