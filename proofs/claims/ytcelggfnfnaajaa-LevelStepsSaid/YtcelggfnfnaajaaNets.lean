/-
  Networks as the contracts speak of them: nodes, source, sink, arcs; rows of arcs and of numbers in memory. No condition.
-/
import Derived.Test.YtcelggfnfnaajaaRowk
import Derived.Test.YtcelggfnfnaajaaPick
namespace Go.Proofs.Ytcelggfnfnaajaa
open Go.ChangeShapes Go.WideShapes Go.ChangeAt Go.RowKit
set_option linter.unusedVariables false
namespace Ne

structure Arc where
  fr : Int
  to : Int
  cap : Int
  deriving DecidableEq
instance : Inhabited Arc := ⟨⟨0, 0, 0⟩⟩
structure Net where
  n : Int
  s : Int
  t : Int
  l : List Arc
def encA (a : Arc) : List Value := [.int .i64 a.fr, .int .i64 a.to, .int .i64 a.cap]
def encI (x : Int) : List Value := [.int .i64 x]
theorem encA_len (a : Arc) : (encA a).length = 3 := rfl
theorem encI_len (x : Int) : (encI x).length = 1 := rfl
theorem encA_one (a : Arc) : ∀ u ∈ encA a, u.oneCell' = true := by intro u hu; simp [encA] at hu; rcases hu with rfl | rfl | rfl <;> rfl
theorem encI_one (x : Int) : ∀ u ∈ encI x, u.oneCell' = true := by intro u hu; simp [encI] at hu; subst hu; rfl
theorem elemA : Rw.Elem 53 22 3 24 (.agg #[.int .i64 0, .int .i64 0, .int .i64 0]) := ⟨by kernel_rfl, Try.underlying22, rfl, by decide, by decide⟩
theorem elemI : Rw.Elem 3 27 1 8 (.int .i64 0) := ⟨by kernel_rfl, Try.underlying27, rfl, by decide, by decide⟩
/-- a row of arcs, a row of numbers; a number is one of 64 bits -/
abbrev ARow (w : World) (ao : Option Addr) (l : List Arc) : Prop := Rw.Row 3 encA w ao l
abbrev IRow (w : World) (ao : Option Addr) (l : List Int) : Prop := Rw.Row 1 encI w ao l
abbrev OwnA (w : World) (B : Nat) (v : Value) (l : List Arc) : Prop := Rw.Own 53 3 encA w B v l
abbrev OwnI (w : World) (B : Nat) (v : Value) (l : List Int) : Prop := Rw.Own 3 1 encI w B v l
def in64 (x : Int) : Prop := -9223372036854775808 ≤ x ∧ x ≤ 9223372036854775807
def Arc.ok (a : Arc) : Prop := in64 a.fr ∧ in64 a.to ∧ in64 a.cap
def Net.ok (n : Net) : Prop := in64 n.n ∧ in64 n.s ∧ in64 n.t ∧ ∀ a ∈ n.l, a.ok
/-- the struct's value -/
abbrev encN (n : Net) (ao : Option Addr) (cap : Nat) : Value := .agg #[.int .i64 n.n, .int .i64 n.s, .int .i64 n.t, .slice ao n.l.length cap]

theorem arow_at {w : World} {b off : Nat} {l : List Arc} (h : ∀ (i : Nat) (x : Arc), l[i]? = some x → ∀ (j : Nat) (v : Value), (encA x)[j]? = some v → w.cell? ⟨b, off + (i * 3 + j), none⟩ = some v) {i : Nat} {a : Arc} (hi : l[i]? = some a) :
    w.cell? ⟨b, off + i * 3, none⟩ = some (.int .i64 a.fr) ∧ w.cell? ⟨b, off + i * 3 + 1, none⟩ = some (.int .i64 a.to) ∧ w.cell? ⟨b, off + i * 3 + 2, none⟩ = some (.int .i64 a.cap) := by
  refine ⟨?_, ?_, ?_⟩
  · have := h i a hi 0 _ rfl; simpa using this
  · have := h i a hi 1 _ rfl; rwa [← Nat.add_assoc] at this
  · have := h i a hi 2 _ rfl; rwa [← Nat.add_assoc] at this
theorem irow_at {w : World} {b off : Nat} {l : List Int} (h : ∀ (i : Nat) (x : Int), l[i]? = some x → ∀ (j : Nat) (v : Value), (encI x)[j]? = some v → w.cell? ⟨b, off + (i * 1 + j), none⟩ = some v) {i : Nat} {x : Int} (hi : l[i]? = some x) :
    w.cell? ⟨b, off + i, none⟩ = some (.int .i64 x) := by
  have := h i x hi 0 _ rfl; simpa using this

/-- the numbers of the arcs that go from a node, that go to it: among the first k -/
def outs (l : List Arc) (v : Int) (k : Nat) : List Int := ((List.range k).filter fun i => decide ((l[i]?.map Arc.fr) = some v)).map fun i : Nat => (i : Int)
def ins (l : List Arc) (v : Int) (k : Nat) : List Int := ((List.range k).filter fun i => decide ((l[i]?.map Arc.to) = some v)).map fun i : Nat => (i : Int)
theorem outs_zero (l : List Arc) (v : Int) : outs l v 0 = [] := rfl
theorem ins_zero (l : List Arc) (v : Int) : ins l v 0 = [] := rfl
theorem outs_hit {l : List Arc} {v : Int} {k : Nat} {a : Arc} (h : l[k]? = some a) (e : a.fr = v) : outs l v (k + 1) = outs l v k ++ [(k : Int)] := by
  unfold outs; rw [List.range_succ, List.filter_append, List.map_append]; simp [h, e]
theorem outs_miss {l : List Arc} {v : Int} {k : Nat} {a : Arc} (h : l[k]? = some a) (e : a.fr ≠ v) : outs l v (k + 1) = outs l v k := by
  unfold outs; rw [List.range_succ, List.filter_append, List.map_append]; simp [h, e]
theorem ins_hit {l : List Arc} {v : Int} {k : Nat} {a : Arc} (h : l[k]? = some a) (e : a.to = v) : ins l v (k + 1) = ins l v k ++ [(k : Int)] := by
  unfold ins; rw [List.range_succ, List.filter_append, List.map_append]; simp [h, e]
theorem ins_miss {l : List Arc} {v : Int} {k : Nat} {a : Arc} (h : l[k]? = some a) (e : a.to ≠ v) : ins l v (k + 1) = ins l v k := by
  unfold ins; rw [List.range_succ, List.filter_append, List.map_append]; simp [h, e]
theorem outs_len (l : List Arc) (v : Int) (k : Nat) : (outs l v k).length ≤ k := by
  unfold outs; rw [List.length_map]; exact Nat.le_trans (List.length_filter_le _ _) (by simp)
theorem ins_len (l : List Arc) (v : Int) (k : Nat) : (ins l v k).length ≤ k := by
  unfold ins; rw [List.length_map]; exact Nat.le_trans (List.length_filter_le _ _) (by simp)

/-- one number in a new block -/
theorem irow_one (w : World) (x : Int) : IRow (w.alloc (.cells #[.int .i64 x] 3)) (some ⟨w.heap.size, 0, none⟩) [x] := by
  refine .inr ⟨w.heap.size, 0, rfl, by simp, ?_⟩
  intro i y hi j v hv
  match i, hi with
  | 0, hi =>
    simp at hi; subst hi
    match j, hv with
    | 0, hv => simp [encI] at hv; subst hv; exact World.cell?_alloc_new w _ _ 0
    | (j + 1), hv => simp [encI] at hv
  | (i + 1), hi => simp at hi

end Ne
end Go.Proofs.Ytcelggfnfnaajaa
