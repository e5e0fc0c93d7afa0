/-
  Networks as the contracts speak of them: nodes, source, sink, arcs; rows of arcs and of numbers in memory. No condition.
  A block that holds a network's four cells; small facts on cells kept, and on rows taken element by element. No condition.
  Rows that came in, told as lists; an arc in a new block. No condition.
  Plain facts on a row of the call's own: a store into it, its cells, an empty one; stores into a network's block. No condition.
-/
import Derived.Test.YtkeojkddbannpaaIrow
import Derived.LoopTactic
import Derived.Deep.RegionLaw
import Derived.Test.YtkeojkddbannpaaEnd
import Derived.BigRegion
import Derived.Deep.AppendLies
import Derived.Laws.Pointers
import Derived.StillTactics
import Derived.Below
import Derived.Deep.QuietTactic
import Derived.BigQuiet
import Derived.Outline
import Derived.RegionTactic
namespace Go.Proofs.Ytkeojkddbannpaa
open Go.ChangeShapes Go.WideShapes Go.ChangeAt Go.RowKit
set_option linter.unusedVariables false
namespace Ne

structure Arc where
  fr : Int
  to : Int
  cap : Int
  deriving DecidableEq
instance : Inhabited Arc := ⟨⟨0, 0, 0⟩⟩
structure Net where
  n : Int
  s : Int
  t : Int
  l : List Arc
def encA (a : Arc) : List Value := [.int .i64 a.fr, .int .i64 a.to, .int .i64 a.cap]
theorem encA_len (a : Arc) : (encA a).length = 3 := rfl
theorem encA_one (a : Arc) : ∀ u ∈ encA a, u.oneCell' = true := by intro u hu; simp [encA] at hu; rcases hu with rfl | rfl | rfl <;> rfl
theorem elemA : Rw.Elem 53 22 3 24 (.agg #[.int .i64 0, .int .i64 0, .int .i64 0]) := ⟨by kernel_rfl, Try.underlying22, rfl, by decide, by decide⟩
/-- a row of arcs, a row of numbers; a number is one of 64 bits -/
abbrev ARow (w : World) (ao : Option Addr) (l : List Arc) : Prop := Rw.Row 3 encA w ao l
abbrev OwnA (w : World) (B : Nat) (v : Value) (l : List Arc) : Prop := Rw.Own 53 3 encA w B v l
def Arc.ok (a : Arc) : Prop := in64 a.fr ∧ in64 a.to ∧ in64 a.cap
def Net.ok (n : Net) : Prop := in64 n.n ∧ in64 n.s ∧ in64 n.t ∧ ∀ a ∈ n.l, a.ok
/-- the struct's value -/
abbrev encN (n : Net) (ao : Option Addr) (cap : Nat) : Value := .agg #[.int .i64 n.n, .int .i64 n.s, .int .i64 n.t, .slice ao n.l.length cap]

theorem arow_at {w : World} {b off : Nat} {l : List Arc} (h : ∀ (i : Nat) (x : Arc), l[i]? = some x → ∀ (j : Nat) (v : Value), (encA x)[j]? = some v → w.cell? ⟨b, off + (i * 3 + j), none⟩ = some v) {i : Nat} {a : Arc} (hi : l[i]? = some a) :
    w.cell? ⟨b, off + i * 3, none⟩ = some (.int .i64 a.fr) ∧ w.cell? ⟨b, off + i * 3 + 1, none⟩ = some (.int .i64 a.to) ∧ w.cell? ⟨b, off + i * 3 + 2, none⟩ = some (.int .i64 a.cap) := by
  refine ⟨?_, ?_, ?_⟩
  · have := h i a hi 0 _ rfl; simpa using this
  · have := h i a hi 1 _ rfl; rwa [← Nat.add_assoc] at this
  · have := h i a hi 2 _ rfl; rwa [← Nat.add_assoc] at this
/-- the numbers of the arcs that go from a node, that go to it: among the first k -/
def outs (l : List Arc) (v : Int) (k : Nat) : List Int := ((List.range k).filter fun i => decide ((l[i]?.map Arc.fr) = some v)).map fun i : Nat => (i : Int)
def ins (l : List Arc) (v : Int) (k : Nat) : List Int := ((List.range k).filter fun i => decide ((l[i]?.map Arc.to) = some v)).map fun i : Nat => (i : Int)
theorem outs_zero (l : List Arc) (v : Int) : outs l v 0 = [] := rfl
theorem ins_zero (l : List Arc) (v : Int) : ins l v 0 = [] := rfl
theorem outs_hit {l : List Arc} {v : Int} {k : Nat} {a : Arc} (h : l[k]? = some a) (e : a.fr = v) : outs l v (k + 1) = outs l v k ++ [(k : Int)] := by
  unfold outs; rw [List.range_succ, List.filter_append, List.map_append]; simp [h, e]
theorem outs_miss {l : List Arc} {v : Int} {k : Nat} {a : Arc} (h : l[k]? = some a) (e : a.fr ≠ v) : outs l v (k + 1) = outs l v k := by
  unfold outs; rw [List.range_succ, List.filter_append, List.map_append]; simp [h, e]
theorem ins_hit {l : List Arc} {v : Int} {k : Nat} {a : Arc} (h : l[k]? = some a) (e : a.to = v) : ins l v (k + 1) = ins l v k ++ [(k : Int)] := by
  unfold ins; rw [List.range_succ, List.filter_append, List.map_append]; simp [h, e]
theorem ins_miss {l : List Arc} {v : Int} {k : Nat} {a : Arc} (h : l[k]? = some a) (e : a.to ≠ v) : ins l v (k + 1) = ins l v k := by
  unfold ins; rw [List.range_succ, List.filter_append, List.map_append]; simp [h, e]
theorem outs_len (l : List Arc) (v : Int) (k : Nat) : (outs l v k).length ≤ k := by
  unfold outs; rw [List.length_map]; exact Nat.le_trans (List.length_filter_le _ _) (by simp)
theorem ins_len (l : List Arc) (v : Int) (k : Nat) : (ins l v k).length ≤ k := by
  unfold ins; rw [List.length_map]; exact Nat.le_trans (List.length_filter_le _ _) (by simp)

end Ne
end Go.Proofs.Ytkeojkddbannpaa
namespace Go.Proofs.Ytkeojkddbannpaa
open Go.ChangeShapes Go.WideShapes Go.ChangeAt Go.RowKit
set_option linter.unusedVariables false
set_option linter.unusedSimpArgs false
namespace Ne
def turnA (a : Arc) : Arc := ⟨a.to, a.fr, a.cap⟩
def turnN (n : Net) : Net := ⟨n.n, n.t, n.s, n.l.map turnA⟩
/-- a block that holds a network's four cells -/
def NetBox (w : World) (b : Nat) (n s t : Int) (v : Value) : Prop := w.heap[b]? = some (.cells #[.int .i64 n, .int .i64 s, .int .i64 t, v] 24 (0, 0))
theorem netBox_cells {w : World} {b : Nat} {n s t : Int} {v : Value} (h : NetBox w b n s t v) : w.cell? ⟨b, 0, none⟩ = some (.int .i64 n) ∧ w.cell? ⟨b, 1, none⟩ = some (.int .i64 s) ∧ w.cell? ⟨b, 2, none⟩ = some (.int .i64 t) ∧ w.cell? ⟨b, 3, none⟩ = some v := by
  unfold NetBox at h
  refine ⟨?_, ?_, ?_, ?_⟩ <;> simp [World.cell?, h]
theorem netBox_frozen {w : World} {b : Nat} {n s t : Int} {v : Value} (h : NetBox w b n s t v) (o : Nat) : w.frozen? ⟨b, o, none⟩ = false := by
  unfold NetBox at h; simp [World.frozen?, h]
theorem netBox_lt {w : World} {b : Nat} {n s t : Int} {v : Value} (h : NetBox w b n s t v) : b < w.heap.size := Rw.lt_of_heap h
theorem netBox_below {w w2 : World} {b B : Nat} {n s t : Int} {v : Value} (h : NetBox w b n s t v) (hb : Below B w w2) (hB : b < B) : NetBox w2 b n s t v := by
  unfold NetBox at *; rw [hb.block b hB]; exact h
theorem netBox_grown {w w2 : World} {b : Nat} {n s t : Int} {v : Value} {row : Option Nat} (h : NetBox w b n s t v) (hg : w.grownBy w2 row) (hne : some b ≠ row) : NetBox w2 b n s t v := by
  unfold NetBox at *; rw [hg.block b (Rw.lt_of_heap h) hne]; exact h
theorem netBox_alloc {w : World} {b : Nat} {n s t : Int} {v : Value} (h : NetBox w b n s t v) (o : Obj) : NetBox (w.alloc o) b n s t v :=
  netBox_below h ((Below.refl _ _).alloc (Nat.le_refl _) o) (netBox_lt h)
theorem netBox_new (w : World) (n s t : Int) (v : Value) : NetBox (w.alloc (.cells #[.int .i64 n, .int .i64 s, .int .i64 t, v] 24)) w.heap.size n s t v := by
  unfold NetBox; show (w.heap.push _)[w.heap.size]? = _; simp
theorem netBox_at (w : World) {b : Nat} (hb : b = w.heap.size) (n s t : Int) (v : Value) : NetBox (w.alloc (.cells #[.int .i64 n, .int .i64 s, .int .i64 t, v] 24)) b n s t v := by
  subst hb; exact netBox_new w n s t v
theorem netBox_set {w : World} {b : Nat} {n s t : Int} {v v2 : Value} (h : NetBox w b n s t v) : NetBox (w.setCell ⟨b, 3, none⟩ v2) b n s t v2 := by
  unfold NetBox at *
  simp only [World.setCell, Array.getElem?_modify, h, if_true, Option.map_some]
  rfl
theorem netBox_other {w : World} {b b2 : Nat} {n s t : Int} {v v2 : Value} {o : Nat} (h : NetBox w b n s t v) (hne : b ≠ b2) : NetBox (w.setCell ⟨b2, o, none⟩ v2) b n s t v := by
  unfold NetBox at *
  rw [Below.heap_setCell _ _ _ _ hne]; exact h

theorem netBox_all {w : World} {b : Nat} {n s t n2 s2 t2 : Int} {v v2 : Value} (h : NetBox w b n s t v) :
    NetBox ((((w.setCell ⟨b, 0, none⟩ (.int .i64 n2)).setCell ⟨b, 1, none⟩ (.int .i64 s2)).setCell ⟨b, 2, none⟩ (.int .i64 t2)).setCell ⟨b, 3, none⟩ v2) b n2 s2 t2 v2 := by
  unfold NetBox at *
  simp only [World.setCell, Array.getElem?_modify, h, if_true, Option.map_some]
  rfl
end Ne
end Go.Proofs.Ytkeojkddbannpaa
namespace Go.Proofs.Ytkeojkddbannpaa
open Go.ChangeShapes Go.WideShapes Go.ChangeAt Go.RowKit
set_option linter.unusedVariables false
set_option linter.unusedSimpArgs false
namespace Ne
theorem arow_at1 (w : World) {b : Nat} (hb : b = w.heap.size) (a : Arc) : ARow (w.alloc (.cells #[.int .i64 a.fr, .int .i64 a.to, .int .i64 a.cap] 53)) (some ⟨b, 0, none⟩) [a] := by
  subst hb
  refine .inr ⟨w.heap.size, 0, rfl, by simp, ?_⟩
  intro i y hi j v hv
  match i, hi with
  | 0, hi =>
    simp at hi; subst hi
    match j, hv with
    | 0, hv => simp [encA] at hv; subst hv; exact World.cell?_alloc_new w _ _ 0
    | 1, hv => simp [encA] at hv; subst hv; exact World.cell?_alloc_new w _ _ 1
    | 2, hv => simp [encA] at hv; subst hv; exact World.cell?_alloc_new w _ _ 2
    | (j + 3), hv => simp [encA] at hv
  | (i + 1), hi => simp at hi
end Ne
end Go.Proofs.Ytkeojkddbannpaa
namespace Go.Proofs.Ytkeojkddbannpaa
open Go.ChangeShapes Go.WideShapes Go.ChangeAt Go.RowKit
set_option linter.unusedVariables false
set_option linter.unusedSimpArgs false
namespace Ne
theorem netBox_set1 {w : World} {b : Nat} {n s t s2 : Int} {v : Value} (h : NetBox w b n s t v) : NetBox (w.setCell ⟨b, 1, none⟩ (.int .i64 s2)) b n s2 t v := by
  unfold NetBox at *
  simp only [World.setCell, Array.getElem?_modify, h, if_true, Option.map_some]
  rfl
theorem netBox_set2' {w : World} {b : Nat} {n s t t2 : Int} {v : Value} (h : NetBox w b n s t v) : NetBox (w.setCell ⟨b, 2, none⟩ (.int .i64 t2)) b n s t2 v := by
  unfold NetBox at *
  simp only [World.setCell, Array.getElem?_modify, h, if_true, Option.map_some]
  rfl
theorem netBox_drewN {w : World} {b : Nat} {n s t : Int} {v : Value} (h : NetBox w b n s t v) (q : Nat) : NetBox (w.drewN q) b n s t v := h

end Ne
end Go.Proofs.Ytkeojkddbannpaa
