/-
  A row of arcs and a network's block, and a block of one arc (cut out of XNetm). No condition.
-/
import Derived.Test.YtkeojkddbannpaaNets
namespace Go.Proofs.Ytkeojkddbannpaa
open Go.ChangeShapes Go.WideShapes Go.ChangeAt Go.RowKit
set_option linter.unusedVariables false
set_option linter.unusedSimpArgs false
namespace Ne
/-- a row of arcs lies in no network's block -/
theorem own_ne_box {w : World} {B b : Nat} {v u : Value} {l : List Arc} {n s t : Int} (h : OwnA w B v l) (hb : NetBox w b n s t u) : v.ownBlock ≠ some b := by
  obtain ⟨_, h2⟩ := h
  rcases h2 with ⟨hv, _⟩ | ⟨g, cap, cur, hv, _, hh, _⟩
  · rw [hv]; simp [Value.ownBlock]
  · rw [hv]
    intro e
    simp [Value.ownBlock] at e
    subst e
    unfold NetBox at hb
    rw [hh] at hb
    simp at hb
theorem netBox_set0 {w : World} {b : Nat} {n s t n2 : Int} {v : Value} (h : NetBox w b n s t v) : NetBox (w.setCell ⟨b, 0, none⟩ (.int .i64 n2)) b n2 s t v := by
  unfold NetBox at *
  simp only [World.setCell, Array.getElem?_modify, h, if_true, Option.map_some]
  rfl
/-- a block that holds one arc -/
def ArcBox (w : World) (b : Nat) (a : Arc) : Prop := w.heap[b]? = some (.cells #[.int .i64 a.fr, .int .i64 a.to, .int .i64 a.cap] 53 (0, 0))
theorem arcBox_cells {w : World} {b : Nat} {a : Arc} (h : ArcBox w b a) : w.cell? ⟨b, 0, none⟩ = some (.int .i64 a.fr) ∧ w.cell? ⟨b, 1, none⟩ = some (.int .i64 a.to) ∧ w.cell? ⟨b, 2, none⟩ = some (.int .i64 a.cap) := by
  unfold ArcBox at h; refine ⟨?_, ?_, ?_⟩ <;> simp [World.cell?, h]
theorem arcBox_lt {w : World} {b : Nat} {a : Arc} (h : ArcBox w b a) : b < w.heap.size := Rw.lt_of_heap h
theorem arcBox_below {w w2 : World} {b B : Nat} {a : Arc} (h : ArcBox w b a) (hb : Below B w w2) (hB : b < B) : ArcBox w2 b a := by
  unfold ArcBox at *; rw [hb.block b hB]; exact h
theorem arcBox_at (w : World) {b : Nat} (hb : b = w.heap.size) (a : Arc) : ArcBox (w.alloc (.cells #[.int .i64 a.fr, .int .i64 a.to, .int .i64 a.cap] 53)) b a := by
  subst hb; unfold ArcBox; show (w.heap.push _)[w.heap.size]? = _; simp
theorem arcBox_grown {w w2 : World} {b : Nat} {a : Arc} {row : Option Nat} (h : ArcBox w b a) (hg : w.grownBy w2 row) (hne : some b ≠ row) : ArcBox w2 b a := by
  unfold ArcBox at *; rw [hg.block b (Rw.lt_of_heap h) hne]; exact h
theorem arcBox_other {w : World} {b b2 : Nat} {a : Arc} {v2 : Value} {o : Nat} (h : ArcBox w b a) (hne : b ≠ b2) : ArcBox (w.setCell ⟨b2, o, none⟩ v2) b a := by
  unfold ArcBox at *
  rw [Below.heap_setCell _ _ _ _ hne]; exact h
end Ne
end Go.Proofs.Ytkeojkddbannpaa
