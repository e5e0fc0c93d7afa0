/-
  A block that holds a network's four cells; small facts on cells kept, and on rows taken element by element. No condition.
-/
import Derived.Test.YtcelggfnfnaajaaNets
import Derived.LoopTactic
import Derived.Deep.RegionLaw
import Derived.Test.YtcelggfnfnaajaaEnd
import Derived.BigRegion
import Derived.Deep.AppendLies
import Derived.Laws.Pointers
import Derived.StillTactics
import Derived.Below
import Derived.Deep.QuietTactic
import Derived.BigQuiet
namespace Go.Proofs.Ytcelggfnfnaajaa
open Go.ChangeShapes Go.WideShapes Go.ChangeAt Go.RowKit
set_option linter.unusedVariables false
set_option linter.unusedSimpArgs false
namespace Ne
theorem take_succ_eq {α : Type} {a b : List α} {k : Nat} {x y : α} (h : a.take k = b.take k) (ha : a[k]? = some x) (hb : b[k]? = some y) (e : x = y) : a.take (k + 1) = b.take (k + 1) := by
  rw [List.take_add_one, List.take_add_one, h, ha, hb, e]
theorem ne_at {α : Type} {a b : List α} {k : Nat} {x y : α} (ha : a[k]? = some x) (hb : b[k]? = some y) (e : x ≠ y) : a ≠ b := by
  intro h; rw [h, hb] at ha; exact e (Option.some.inj ha).symm

theorem below_drewN (w : World) (q : Nat) : Below w.heap.size w (w.drewN q) := Rw.below_drewN w q

def turnA (a : Arc) : Arc := ⟨a.to, a.fr, a.cap⟩
def turnN (n : Net) : Net := ⟨n.n, n.t, n.s, n.l.map turnA⟩
/-- a block that holds a network's four cells -/
def NetBox (w : World) (b : Nat) (n s t : Int) (v : Value) : Prop := w.heap[b]? = some (.cells #[.int .i64 n, .int .i64 s, .int .i64 t, v] 24 (0, 0))
theorem netBox_cells {w : World} {b : Nat} {n s t : Int} {v : Value} (h : NetBox w b n s t v) : w.cell? ⟨b, 0, none⟩ = some (.int .i64 n) ∧ w.cell? ⟨b, 1, none⟩ = some (.int .i64 s) ∧ w.cell? ⟨b, 2, none⟩ = some (.int .i64 t) ∧ w.cell? ⟨b, 3, none⟩ = some v := by
  unfold NetBox at h
  refine ⟨?_, ?_, ?_, ?_⟩ <;> simp [World.cell?, h]
theorem netBox_frozen {w : World} {b : Nat} {n s t : Int} {v : Value} (h : NetBox w b n s t v) (o : Nat) : w.frozen? ⟨b, o, none⟩ = false := by
  unfold NetBox at h; simp [World.frozen?, h]
theorem netBox_lt {w : World} {b : Nat} {n s t : Int} {v : Value} (h : NetBox w b n s t v) : b < w.heap.size := Rw.lt_of_heap h
theorem netBox_below {w w2 : World} {b B : Nat} {n s t : Int} {v : Value} (h : NetBox w b n s t v) (hb : Below B w w2) (hB : b < B) : NetBox w2 b n s t v := by
  unfold NetBox at *; rw [hb.block b hB]; exact h
theorem netBox_grown {w w2 : World} {b : Nat} {n s t : Int} {v : Value} {row : Option Nat} (h : NetBox w b n s t v) (hg : w.grownBy w2 row) (hne : some b ≠ row) : NetBox w2 b n s t v := by
  unfold NetBox at *; rw [hg.block b (Rw.lt_of_heap h) hne]; exact h
theorem netBox_alloc {w : World} {b : Nat} {n s t : Int} {v : Value} (h : NetBox w b n s t v) (o : Obj) : NetBox (w.alloc o) b n s t v :=
  netBox_below h ((Below.refl _ _).alloc (Nat.le_refl _) o) (netBox_lt h)
theorem netBox_new (w : World) (n s t : Int) (v : Value) : NetBox (w.alloc (.cells #[.int .i64 n, .int .i64 s, .int .i64 t, v] 24)) w.heap.size n s t v := by
  unfold NetBox; show (w.heap.push _)[w.heap.size]? = _; simp
theorem netBox_at (w : World) {b : Nat} (hb : b = w.heap.size) (n s t : Int) (v : Value) : NetBox (w.alloc (.cells #[.int .i64 n, .int .i64 s, .int .i64 t, v] 24)) b n s t v := by
  subst hb; exact netBox_new w n s t v
theorem netBox_set {w : World} {b : Nat} {n s t : Int} {v v2 : Value} (h : NetBox w b n s t v) : NetBox (w.setCell ⟨b, 3, none⟩ v2) b n s t v2 := by
  unfold NetBox at *
  simp only [World.setCell, Array.getElem?_modify, h, if_true, Option.map_some]
  rfl
theorem netBox_other {w : World} {b b2 : Nat} {n s t : Int} {v v2 : Value} {o : Nat} (h : NetBox w b n s t v) (hne : b ≠ b2) : NetBox (w.setCell ⟨b2, o, none⟩ v2) b n s t v := by
  unfold NetBox at *
  rw [Below.heap_setCell _ _ _ _ hne]; exact h

theorem netBox_all {w : World} {b : Nat} {n s t n2 s2 t2 : Int} {v v2 : Value} (h : NetBox w b n s t v) :
    NetBox ((((w.setCell ⟨b, 0, none⟩ (.int .i64 n2)).setCell ⟨b, 1, none⟩ (.int .i64 s2)).setCell ⟨b, 2, none⟩ (.int .i64 t2)).setCell ⟨b, 3, none⟩ v2) b n2 s2 t2 v2 := by
  unfold NetBox at *
  simp only [World.setCell, Array.getElem?_modify, h, if_true, Option.map_some]
  rfl
theorem held_grow {wr w1 : World} {o : Obj} {row : Option Nat} (hg : (wr.alloc o).drew.grownBy w1 row) {a : Addr} (hne : row ≠ some a.block) {u : Value} (hu : wr.cell? a = some u) : w1.cell? a = some u := by
  have hlt := World.block_lt_of_cell? wr a hu
  rw [hg.cell_far a (by show _ < (wr.heap.push _).size; simp; omega) (Ne.symm hne)]
  exact (World.cell?_alloc_lt wr o a hlt).trans hu
theorem held_new {w : World} {o : Obj} {a : Addr} {u : Value} (hu : w.cell? a = some u) : (w.alloc o).drew.cell? a = some u :=
  (World.cell?_alloc_lt w o a (World.block_lt_of_cell? w a hu)).trans hu
theorem held_set {w : World} {a : Addr} {u : Value} {p : Addr} {x : Value} (h : w.cell? a = some u) (hne : p.block ≠ a.block) : (w.setCell p x).cell? a = some u :=
  (World.cell?_setCell_far w p a x hne).trans h
end Ne
end Go.Proofs.Ytcelggfnfnaajaa
