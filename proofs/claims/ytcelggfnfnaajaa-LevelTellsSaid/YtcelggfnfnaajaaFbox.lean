/-
  Blocks that the call itself makes by make([]int64, n), make([]bool, n): rows of n cells, told by a list. No condition.
-/
import Derived.Test.YtcelggfnfnaajaaFlm
import Derived.Test.YtcelggfnfnaajaaNbox
import Derived.Deep.OwnRows
namespace Go.Proofs.Ytcelggfnfnaajaa
open Go.ChangeShapes Go.WideShapes Go.ChangeAt Go.RowKit
set_option linter.unusedVariables false
set_option linter.unusedSimpArgs false
namespace Ne
theorem infoL : (Try.prog.info? 2).map (fun i => (i.zero, i.size, i.bytes)) = some (some (.int .i64 0), 1, 8) := by kernel_rfl
theorem infoB : (Try.prog.info? 4).map (fun i => (i.zero, i.size, i.bytes)) = some (some (.bool false), 1, 1) := by kernel_rfl
theorem elemL : Rw.Elem 2 25 1 8 (.int .i64 0) := ⟨by kernel_rfl, Try.underlying25, rfl, by decide, by decide⟩
abbrev OwnL (w : World) (B : Nat) (v : Value) (l : List Int) : Prop := Rw.Own 2 1 encI w B v l
theorem make_l (n : Nat) (h : n ≤ 1000000) (w : World) : (Instr.makeSlice 25 (.int .i64 (n : Int)) (.int .i64 (n : Int))).run Try.prog w = .ok (.slice (some ⟨w.heap.size, 0, none⟩) n n) (w.alloc (.cells (madeCells #[.int .i64 0] n) 2)) :=
  run_make_row' 25 2 (.int .i64 0) 8 Try.underlying25 infoL rfl .i64 .i64 n (by omega) (by omega) w
theorem make_b (n : Nat) (h : n ≤ 1000000) (w : World) : (Instr.makeSlice 41 (.int .i64 (n : Int)) (.int .i64 (n : Int))).run Try.prog w = .ok (.slice (some ⟨w.heap.size, 0, none⟩) n n) (w.alloc (.cells (madeCells #[.bool false] n) 4)) :=
  run_make_row' 41 4 (.bool false) 1 Try.underlying41 infoB rfl .i64 .i64 n (by omega) (by omega) w
/-- a block that holds a row of numbers, of truths -/
def LBox (w : World) (b : Nat) (l : List Int) : Prop := w.rowIs b 2 l.length fun i => .int .i64 (amt l i)
def BBox (w : World) (b : Nat) (l : List Bool) : Prop := w.rowIs b 4 l.length fun i => .bool (l.getD i false)
section
variable {w w2 : World} {b : Nat} {l : List Int} {m : List Bool}
theorem LBox.cell (h : LBox w b l) {i : Nat} (hi : i < l.length) : w.cell? ⟨b, i, none⟩ = some (.int .i64 (amt l i)) := World.rowIs.cell h hi
theorem BBox.cell (h : BBox w b m) {i : Nat} (hi : i < m.length) : w.cell? ⟨b, i, none⟩ = some (.bool (m.getD i false)) := World.rowIs.cell h hi
theorem LBox.frozen (h : LBox w b l) (i : Nat) : w.frozen? ⟨b, i, none⟩ = false := World.rowIs.frozen h i
theorem BBox.frozen (h : BBox w b m) (i : Nat) : w.frozen? ⟨b, i, none⟩ = false := World.rowIs.frozen h i
theorem LBox.lt (h : LBox w b l) : b < w.heap.size := World.rowIs.lt h
theorem BBox.lt (h : BBox w b m) : b < w.heap.size := World.rowIs.lt h
theorem LBox.below {B : Nat} (h : LBox w b l) (hb : Below B w w2) (hB : b < B) : LBox w2 b l := World.rowIs.of_block h (hb.block b hB)
theorem BBox.below {B : Nat} (h : BBox w b m) (hb : Below B w w2) (hB : b < B) : BBox w2 b m := World.rowIs.of_block h (hb.block b hB)
theorem LBox.kept (h : LBox w b l) (hb : Below w.heap.size w w2) : LBox w2 b l := h.below hb h.lt
theorem BBox.kept (h : BBox w b m) (hb : Below w.heap.size w w2) : BBox w2 b m := h.below hb h.lt
theorem LBox.grown {row : Option Nat} (h : LBox w b l) (hg : w.grownBy w2 row) (hne : some b ≠ row) : LBox w2 b l := World.rowIs.of_block h (hg.block b h.lt hne)
theorem BBox.grown {row : Option Nat} (h : BBox w b m) (hg : w.grownBy w2 row) (hne : some b ≠ row) : BBox w2 b m := World.rowIs.of_block h (hg.block b h.lt hne)
theorem LBox.set (h : LBox w b l) {i : Nat} (hi : i < l.length) (x : Int) : LBox (w.setCell ⟨b, i, none⟩ (.int .i64 x)) b (l.set i x) := by
  have h2 := World.rowIs.congr (World.rowIs.set h i (.int .i64 x)) (g := fun j => .int .i64 (amt (l.set i x) j)) (fun j hj => by
    show (if j = i then _ else _) = _
    rw [amt_set x hi j]; split <;> rfl)
  unfold LBox; rw [List.length_set]; exact h2
theorem BBox.set (h : BBox w b m) {i : Nat} (hi : i < m.length) (x : Bool) : BBox (w.setCell ⟨b, i, none⟩ (.bool x)) b (m.set i x) := by
  have h2 := World.rowIs.congr (World.rowIs.set h i (.bool x)) (g := fun j => .bool ((m.set i x).getD j false)) (fun j hj => by
    show (if j = i then _ else _) = _
    by_cases e : j = i
    · subst e; simp [hi]
    · rw [if_neg e]; simp [List.getElem?_set_ne (Ne.symm e)])
  unfold BBox; rw [List.length_set]; exact h2
theorem LBox.far (h : LBox w b l) {p : Addr} (hp : b ≠ p.block) (v : Value) : LBox (w.setCell p v) b l := World.rowIs.setOther h hp v
theorem BBox.far (h : BBox w b m) {p : Addr} (hp : b ≠ p.block) (v : Value) : BBox (w.setCell p v) b m := World.rowIs.setOther h hp v
theorem LBox.alloc (h : LBox w b l) (o : Obj) : LBox (w.alloc o) b l := World.rowIs.alloc h o
theorem BBox.alloc (h : BBox w b m) (o : Obj) : BBox (w.alloc o) b m := World.rowIs.alloc h o
theorem LBox.drewN (h : LBox w b l) (q : Nat) : LBox (w.drewN q) b l := h
theorem LBox.irow (h : LBox w b l) : IRow w (some ⟨b, 0, none⟩) l := by
  refine .inr ⟨b, 0, rfl, h.lt, fun i x hx j v hv => ?_⟩
  have hi : i < l.length := (List.getElem?_eq_some_iff.1 hx).1
  match j, hv with
  | 0, hv =>
    simp [encI] at hv; subst hv
    have := h.cell hi
    rw [amt_of hx] at this
    simpa using this
  | (j + 1), hv => simp [encI] at hv
end
theorem lbox_made (w : World) (n : Nat) {b : Nat} (hb : b = w.heap.size) : LBox (w.alloc (.cells (madeCells #[.int .i64 0] n) 2)) b (List.replicate n 0) := by
  subst hb
  unfold LBox; rw [List.length_replicate]
  exact (World.rowIs_made w (.int .i64 0) n 2).congr fun i hi => by simp [amt, hi]
theorem bbox_made (w : World) (n : Nat) {b : Nat} (hb : b = w.heap.size) : BBox (w.alloc (.cells (madeCells #[.bool false] n) 4)) b (List.replicate n false) := by
  subst hb
  unfold BBox; rw [List.length_replicate]
  exact (World.rowIs_made w (.bool false) n 4).congr fun i hi => by simp [hi]
/-- a row of numbers that came in: what its cells hold -/
theorem irow_cell {w : World} {ao : Option Addr} {l : List Int} (h : IRow w ao l) {i : Nat} (hi : i < l.length) : ∃ b off, ao = some ⟨b, off, none⟩ ∧ b < w.heap.size ∧ w.cell? ⟨b, off + i, none⟩ = some (.int .i64 (amt l i)) := by
  rcases h with h | ⟨b, off, rfl, hlt, hc⟩
  · subst h; simp at hi
  · exact ⟨b, off, rfl, hlt, irow_at hc (at_amt hi)⟩
theorem arow_cell {w : World} {ao : Option Addr} {l : List Arc} (h : ARow w ao l) {i : Nat} (hi : i < l.length) : ∃ b off, ao = some ⟨b, off, none⟩ ∧ b < w.heap.size ∧ w.cell? ⟨b, off + i * 3, none⟩ = some (.int .i64 (arcAt l i).fr) ∧ w.cell? ⟨b, off + i * 3 + 1, none⟩ = some (.int .i64 (arcAt l i).to) ∧ w.cell? ⟨b, off + i * 3 + 2, none⟩ = some (.int .i64 (arcAt l i).cap) := by
  rcases h with h | ⟨b, off, rfl, hlt, hc⟩
  · subst h; simp at hi
  · exact ⟨b, off, rfl, hlt, arow_at hc (at_arc hi)⟩
theorem below_dn {B : Nat} {w w' : World} (h : Below B w w') (q : Nat) : Below B w (w'.drewN q) := h.trans ⟨rfl, rfl, rfl, Nat.le_refl _, fun _ _ => rfl⟩
/-- an arc's own block, new -/
theorem arc_new (w : World) {b : Nat} (hb : b = w.heap.size) (x y z : Int) : (w.alloc (.cells #[.int .i64 x, .int .i64 y, .int .i64 z] 53)).cell? ⟨b, 0, none⟩ = some (.int .i64 x) ∧ (w.alloc (.cells #[.int .i64 x, .int .i64 y, .int .i64 z] 53)).cell? ⟨b, 1, none⟩ = some (.int .i64 y) ∧
    (w.alloc (.cells #[.int .i64 x, .int .i64 y, .int .i64 z] 53)).cell? ⟨b, 2, none⟩ = some (.int .i64 z) := by
  subst hb
  exact ⟨World.cell?_alloc_new w _ _ 0, World.cell?_alloc_new w _ _ 1, World.cell?_alloc_new w _ _ 2⟩
theorem held_alloc {w : World} {o : Obj} {a : Addr} {u : Value} (hu : w.cell? a = some u) : (w.alloc o).cell? a = some u :=
  (World.cell?_alloc_lt w o a (World.block_lt_of_cell? w a hu)).trans hu
end Ne
end Go.Proofs.Ytcelggfnfnaajaa
