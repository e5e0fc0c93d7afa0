/-
  Rows of numbers that are being built beside one another, each in a block of its own. No condition.
-/
import Derived.Test.YtkeojkddbannpaaRbox
namespace Go.Proofs.Ytkeojkddbannpaa
open Go.ChangeShapes Go.WideShapes Go.ChangeAt Go.RowKit
set_option linter.unusedVariables false
set_option linter.unusedSimpArgs false
namespace Ne
/-- rows that are being built, each in a block from lo on -/
structure HBox (w : World) (lb lo n : Nat) (VS : Nat → Value) (U : Nat → List Nat) : Prop where
  row : w.rowIs lb 28 n VS
  own : ∀ v, v < n → OwnI w lo (VS v) (encW (U v))
  sep : ∀ v v', v < n → v' < n → v ≠ v' → ∀ g, (VS v).ownBlock = some g → (VS v').ownBlock ≠ some g
  out : lb < lo
section
variable {w w2 : World} {lb lo n : Nat} {VS : Nat → Value} {U : Nat → List Nat}
theorem hbox_new {w : World} {lb lo n : Nat} (h : w.rowIs lb 28 n (fun _ => .slice none 0 0)) (hl : lb < lo) : HBox w lb lo n (fun _ => .slice none 0 0) (fun _ => []) :=
  ⟨h, fun v _ => Rw.own_nil _ _, fun v v' _ _ _ g h => by simp [Value.ownBlock] at h, hl⟩
theorem HBox.lt (h : HBox w lb lo n VS U) : lb < w.heap.size := World.rowIs.lt h.row
theorem HBox.below (h : HBox w lb lo n VS U) (hb : Below w.heap.size w w2) : HBox w2 lb lo n VS U :=
  ⟨World.rowIs.of_block h.row (hb.block lb h.lt), fun v hv => Rw.own_below (h.own v hv) hb, h.sep, h.out⟩
theorem HBox.cell (h : HBox w lb lo n VS U) {v : Nat} (hv : v < n) : w.cell? ⟨lb, v, none⟩ = some (VS v) := World.rowIs.cell h.row hv
theorem HBox.same (h : HBox w lb lo n VS U) {U' : Nat → List Nat} (hU : ∀ v, v < n → U v = U' v) : HBox w lb lo n VS U' := ⟨h.row, fun v hv => by rw [← hU v hv]; exact h.own v hv, h.sep, h.out⟩
/-- a store elsewhere -/
theorem HBox.far (h : HBox w lb lo n VS U) {q : Addr} (h1 : q.block ≠ lb) (h2 : q.block < lo) (x : Value) : HBox (w.setCell q x) lb lo n VS U :=
  ⟨World.rowIs.setOther h.row (Ne.symm h1) x, fun v hv => own_same (h.own v hv) fun g hg => Below.heap_setCell _ _ _ _ (by have := (Rw.own_lt (h.own v hv) g hg).1; omega), h.sep, h.out⟩
/-- another row grows -/
theorem HBox.grown (h : HBox w lb lo n VS U) {row : Option Nat} (hg : w.grownBy w2 row) (h1 : row ≠ some lb) (h2 : ∀ v, v < n → ∀ g, (VS v).ownBlock = some g → row ≠ some g) : HBox w2 lb lo n VS U :=
  ⟨World.rowIs.of_block h.row (hg.block lb h.lt (Ne.symm h1)), fun v hv => Rw.own_grown (h.own v hv) hg fun g hb => Ne.symm (h2 v hv g hb), h.sep, h.out⟩
/-- one row more grown, and stored -/
theorem HBox.put (h : HBox w lb lo n VS U) {v : Nat} (hv : v < n) {x : Value} {u : List Nat} (hg : w.grownBy w2 (VS v).ownBlock) (ho : OwnI w2 lo x (encW u)) (hx : x.ownBlock = (VS v).ownBlock ∨ x.ownBlock = some w.heap.size) :
    HBox (w2.setCell ⟨lb, v, none⟩ x) lb lo n (fun j => if j = v then x else VS j) (fun j => if j = v then u else U j) := by
  have hout := h.out
  have hne : some lb ≠ (VS v).ownBlock := fun e => by have := (Rw.own_lt (h.own v hv) lb e.symm).1; omega
  have hrow := World.rowIs.of_block h.row (hg.block lb h.lt hne)
  refine ⟨World.rowIs.set hrow v x, fun j hj => ?_, fun j j' hj hj' hd g hb => ?_, h.out⟩
  · by_cases e : j = v
    · subst e
      simp only [if_true]
      exact Rw.own_set ho (p := ⟨lb, j, none⟩) (fun e => by have := (Rw.own_lt ho lb e).1; omega) x
    · simp only [if_neg e]
      have h1 := Rw.own_grown (h.own j hj) hg fun g hb e2 => h.sep v j hv hj (Ne.symm e) g e2.symm hb
      exact Rw.own_set h1 (p := ⟨lb, v, none⟩) (fun e => by have := (Rw.own_lt h1 lb e).1; omega) x
  · by_cases e : j = v
    · subst e
      simp only [if_true] at hb
      simp only [if_neg (Ne.symm hd)]
      intro hb2
      rcases hx with hx | hx
      · rw [hx] at hb; exact h.sep j j' hj hj' hd g hb hb2
      · rw [hx] at hb
        have := (Rw.own_lt (h.own j' hj') g hb2).2
        simp at hb; omega
    · simp only [if_neg e] at hb
      by_cases e' : j' = v
      · subst e'
        simp only [if_true]
        intro hb2
        rcases hx with hx | hx
        · rw [hx] at hb2; exact h.sep j j' hj hj' hd g hb hb2
        · rw [hx] at hb2
          have := (Rw.own_lt (h.own j hj) g hb).2
          simp at hb2; omega
      · simp only [if_neg e']; exact h.sep j j' hj hj' hd g hb
theorem HBox.rbox (h : HBox w lb lo n VS U) : RBox w lb lo w.heap.size n VS U := ⟨h.row, fun v hv => .of_own (h.own v hv), h.out, Nat.le_refl _⟩
end
end Ne
end Go.Proofs.Ytkeojkddbannpaa
