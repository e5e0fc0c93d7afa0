/-
  Networks as the contracts speak of them: nodes, source, sink, arcs; rows of arcs and of numbers in memory. No condition.
  A block that holds a network's four cells; small facts on cells kept, and on rows taken element by element. No condition.
  Rows that came in, told as lists; an arc in a new block. No condition.
  Plain facts on a row of the call's own: a store into it, its cells, an empty one; stores into a network's block. No condition.
-/
import Derived.Test.YtdnchebbdkgccaaRowk
import Derived.Test.YtdnchebbdkgccaaPick
import Derived.LoopTactic
import Derived.Deep.RegionLaw
import Derived.Test.YtdnchebbdkgccaaEnd
import Derived.BigRegion
import Derived.Deep.AppendLies
import Derived.Laws.Pointers
import Derived.StillTactics
import Derived.Below
import Derived.Deep.QuietTactic
import Derived.BigQuiet
import Derived.Outline
import Derived.RegionTactic
namespace Go.Proofs.Ytdnchebbdkgccaa
open Go.ChangeShapes Go.WideShapes Go.ChangeAt Go.RowKit
set_option linter.unusedVariables false
namespace Ne

structure Arc where
  fr : Int
  to : Int
  cap : Int
  deriving DecidableEq
instance : Inhabited Arc := ⟨⟨0, 0, 0⟩⟩
structure Net where
  n : Int
  s : Int
  t : Int
  l : List Arc
def encA (a : Arc) : List Value := [.int .i64 a.fr, .int .i64 a.to, .int .i64 a.cap]
def encI (x : Int) : List Value := [.int .i64 x]
theorem encA_len (a : Arc) : (encA a).length = 3 := rfl
theorem encI_len (x : Int) : (encI x).length = 1 := rfl
theorem encA_one (a : Arc) : ∀ u ∈ encA a, u.oneCell' = true := by intro u hu; simp [encA] at hu; rcases hu with rfl | rfl | rfl <;> rfl
theorem encI_one (x : Int) : ∀ u ∈ encI x, u.oneCell' = true := by intro u hu; simp [encI] at hu; subst hu; rfl
theorem elemA : Rw.Elem 67 22 3 24 (.agg #[.int .i64 0, .int .i64 0, .int .i64 0]) := ⟨by kernel_rfl, Try.underlying22, rfl, by decide, by decide⟩
theorem elemI : Rw.Elem 3 37 1 8 (.int .i64 0) := ⟨by kernel_rfl, Try.underlying37, rfl, by decide, by decide⟩
/-- a row of arcs, a row of numbers; a number is one of 64 bits -/
abbrev ARow (w : World) (ao : Option Addr) (l : List Arc) : Prop := Rw.Row 3 encA w ao l
abbrev IRow (w : World) (ao : Option Addr) (l : List Int) : Prop := Rw.Row 1 encI w ao l
abbrev OwnA (w : World) (B : Nat) (v : Value) (l : List Arc) : Prop := Rw.Own 67 3 encA w B v l
abbrev OwnI (w : World) (B : Nat) (v : Value) (l : List Int) : Prop := Rw.Own 3 1 encI w B v l
def in64 (x : Int) : Prop := -9223372036854775808 ≤ x ∧ x ≤ 9223372036854775807
def Arc.ok (a : Arc) : Prop := in64 a.fr ∧ in64 a.to ∧ in64 a.cap
def Net.ok (n : Net) : Prop := in64 n.n ∧ in64 n.s ∧ in64 n.t ∧ ∀ a ∈ n.l, a.ok
/-- the struct's value -/
abbrev encN (n : Net) (ao : Option Addr) (cap : Nat) : Value := .agg #[.int .i64 n.n, .int .i64 n.s, .int .i64 n.t, .slice ao n.l.length cap]

theorem arow_at {w : World} {b off : Nat} {l : List Arc} (h : ∀ (i : Nat) (x : Arc), l[i]? = some x → ∀ (j : Nat) (v : Value), (encA x)[j]? = some v → w.cell? ⟨b, off + (i * 3 + j), none⟩ = some v) {i : Nat} {a : Arc} (hi : l[i]? = some a) :
    w.cell? ⟨b, off + i * 3, none⟩ = some (.int .i64 a.fr) ∧ w.cell? ⟨b, off + i * 3 + 1, none⟩ = some (.int .i64 a.to) ∧ w.cell? ⟨b, off + i * 3 + 2, none⟩ = some (.int .i64 a.cap) := by
  refine ⟨?_, ?_, ?_⟩
  · have := h i a hi 0 _ rfl; simpa using this
  · have := h i a hi 1 _ rfl; rwa [← Nat.add_assoc] at this
  · have := h i a hi 2 _ rfl; rwa [← Nat.add_assoc] at this
theorem irow_at {w : World} {b off : Nat} {l : List Int} (h : ∀ (i : Nat) (x : Int), l[i]? = some x → ∀ (j : Nat) (v : Value), (encI x)[j]? = some v → w.cell? ⟨b, off + (i * 1 + j), none⟩ = some v) {i : Nat} {x : Int} (hi : l[i]? = some x) :
    w.cell? ⟨b, off + i, none⟩ = some (.int .i64 x) := by
  have := h i x hi 0 _ rfl; simpa using this

/-- the numbers of the arcs that go from a node, that go to it: among the first k -/
def outs (l : List Arc) (v : Int) (k : Nat) : List Int := ((List.range k).filter fun i => decide ((l[i]?.map Arc.fr) = some v)).map fun i : Nat => (i : Int)
def ins (l : List Arc) (v : Int) (k : Nat) : List Int := ((List.range k).filter fun i => decide ((l[i]?.map Arc.to) = some v)).map fun i : Nat => (i : Int)
theorem outs_zero (l : List Arc) (v : Int) : outs l v 0 = [] := rfl
theorem ins_zero (l : List Arc) (v : Int) : ins l v 0 = [] := rfl
theorem outs_hit {l : List Arc} {v : Int} {k : Nat} {a : Arc} (h : l[k]? = some a) (e : a.fr = v) : outs l v (k + 1) = outs l v k ++ [(k : Int)] := by
  unfold outs; rw [List.range_succ, List.filter_append, List.map_append]; simp [h, e]
theorem outs_miss {l : List Arc} {v : Int} {k : Nat} {a : Arc} (h : l[k]? = some a) (e : a.fr ≠ v) : outs l v (k + 1) = outs l v k := by
  unfold outs; rw [List.range_succ, List.filter_append, List.map_append]; simp [h, e]
theorem ins_hit {l : List Arc} {v : Int} {k : Nat} {a : Arc} (h : l[k]? = some a) (e : a.to = v) : ins l v (k + 1) = ins l v k ++ [(k : Int)] := by
  unfold ins; rw [List.range_succ, List.filter_append, List.map_append]; simp [h, e]
theorem ins_miss {l : List Arc} {v : Int} {k : Nat} {a : Arc} (h : l[k]? = some a) (e : a.to ≠ v) : ins l v (k + 1) = ins l v k := by
  unfold ins; rw [List.range_succ, List.filter_append, List.map_append]; simp [h, e]
theorem outs_len (l : List Arc) (v : Int) (k : Nat) : (outs l v k).length ≤ k := by
  unfold outs; rw [List.length_map]; exact Nat.le_trans (List.length_filter_le _ _) (by simp)
theorem ins_len (l : List Arc) (v : Int) (k : Nat) : (ins l v k).length ≤ k := by
  unfold ins; rw [List.length_map]; exact Nat.le_trans (List.length_filter_le _ _) (by simp)

/-- one number in a new block -/
theorem irow_one (w : World) (x : Int) : IRow (w.alloc (.cells #[.int .i64 x] 3)) (some ⟨w.heap.size, 0, none⟩) [x] := by
  refine .inr ⟨w.heap.size, 0, rfl, by simp, ?_⟩
  intro i y hi j v hv
  match i, hi with
  | 0, hi =>
    simp at hi; subst hi
    match j, hv with
    | 0, hv => simp [encI] at hv; subst hv; exact World.cell?_alloc_new w _ _ 0
    | (j + 1), hv => simp [encI] at hv
  | (i + 1), hi => simp at hi

end Ne
end Go.Proofs.Ytdnchebbdkgccaa
namespace Go.Proofs.Ytdnchebbdkgccaa
open Go.ChangeShapes Go.WideShapes Go.ChangeAt Go.RowKit
set_option linter.unusedVariables false
set_option linter.unusedSimpArgs false
namespace Ne
theorem take_succ_eq {α : Type} {a b : List α} {k : Nat} {x y : α} (h : a.take k = b.take k) (ha : a[k]? = some x) (hb : b[k]? = some y) (e : x = y) : a.take (k + 1) = b.take (k + 1) := by
  rw [List.take_add_one, List.take_add_one, h, ha, hb, e]
theorem ne_at {α : Type} {a b : List α} {k : Nat} {x y : α} (ha : a[k]? = some x) (hb : b[k]? = some y) (e : x ≠ y) : a ≠ b := by
  intro h; rw [h, hb] at ha; exact e (Option.some.inj ha).symm

theorem below_drewN (w : World) (q : Nat) : Below w.heap.size w (w.drewN q) := Rw.below_drewN w q

def turnA (a : Arc) : Arc := ⟨a.to, a.fr, a.cap⟩
def turnN (n : Net) : Net := ⟨n.n, n.t, n.s, n.l.map turnA⟩
/-- a block that holds a network's four cells -/
def NetBox (w : World) (b : Nat) (n s t : Int) (v : Value) : Prop := w.heap[b]? = some (.cells #[.int .i64 n, .int .i64 s, .int .i64 t, v] 24 (0, 0))
theorem netBox_cells {w : World} {b : Nat} {n s t : Int} {v : Value} (h : NetBox w b n s t v) : w.cell? ⟨b, 0, none⟩ = some (.int .i64 n) ∧ w.cell? ⟨b, 1, none⟩ = some (.int .i64 s) ∧ w.cell? ⟨b, 2, none⟩ = some (.int .i64 t) ∧ w.cell? ⟨b, 3, none⟩ = some v := by
  unfold NetBox at h
  refine ⟨?_, ?_, ?_, ?_⟩ <;> simp [World.cell?, h]
theorem netBox_frozen {w : World} {b : Nat} {n s t : Int} {v : Value} (h : NetBox w b n s t v) (o : Nat) : w.frozen? ⟨b, o, none⟩ = false := by
  unfold NetBox at h; simp [World.frozen?, h]
theorem netBox_lt {w : World} {b : Nat} {n s t : Int} {v : Value} (h : NetBox w b n s t v) : b < w.heap.size := Rw.lt_of_heap h
theorem netBox_below {w w2 : World} {b B : Nat} {n s t : Int} {v : Value} (h : NetBox w b n s t v) (hb : Below B w w2) (hB : b < B) : NetBox w2 b n s t v := by
  unfold NetBox at *; rw [hb.block b hB]; exact h
theorem netBox_grown {w w2 : World} {b : Nat} {n s t : Int} {v : Value} {row : Option Nat} (h : NetBox w b n s t v) (hg : w.grownBy w2 row) (hne : some b ≠ row) : NetBox w2 b n s t v := by
  unfold NetBox at *; rw [hg.block b (Rw.lt_of_heap h) hne]; exact h
theorem netBox_alloc {w : World} {b : Nat} {n s t : Int} {v : Value} (h : NetBox w b n s t v) (o : Obj) : NetBox (w.alloc o) b n s t v :=
  netBox_below h ((Below.refl _ _).alloc (Nat.le_refl _) o) (netBox_lt h)
theorem netBox_new (w : World) (n s t : Int) (v : Value) : NetBox (w.alloc (.cells #[.int .i64 n, .int .i64 s, .int .i64 t, v] 24)) w.heap.size n s t v := by
  unfold NetBox; show (w.heap.push _)[w.heap.size]? = _; simp
theorem netBox_at (w : World) {b : Nat} (hb : b = w.heap.size) (n s t : Int) (v : Value) : NetBox (w.alloc (.cells #[.int .i64 n, .int .i64 s, .int .i64 t, v] 24)) b n s t v := by
  subst hb; exact netBox_new w n s t v
theorem netBox_set {w : World} {b : Nat} {n s t : Int} {v v2 : Value} (h : NetBox w b n s t v) : NetBox (w.setCell ⟨b, 3, none⟩ v2) b n s t v2 := by
  unfold NetBox at *
  simp only [World.setCell, Array.getElem?_modify, h, if_true, Option.map_some]
  rfl
theorem netBox_other {w : World} {b b2 : Nat} {n s t : Int} {v v2 : Value} {o : Nat} (h : NetBox w b n s t v) (hne : b ≠ b2) : NetBox (w.setCell ⟨b2, o, none⟩ v2) b n s t v := by
  unfold NetBox at *
  rw [Below.heap_setCell _ _ _ _ hne]; exact h

theorem netBox_all {w : World} {b : Nat} {n s t n2 s2 t2 : Int} {v v2 : Value} (h : NetBox w b n s t v) :
    NetBox ((((w.setCell ⟨b, 0, none⟩ (.int .i64 n2)).setCell ⟨b, 1, none⟩ (.int .i64 s2)).setCell ⟨b, 2, none⟩ (.int .i64 t2)).setCell ⟨b, 3, none⟩ v2) b n2 s2 t2 v2 := by
  unfold NetBox at *
  simp only [World.setCell, Array.getElem?_modify, h, if_true, Option.map_some]
  rfl
theorem held_grow {wr w1 : World} {o : Obj} {row : Option Nat} (hg : (wr.alloc o).drew.grownBy w1 row) {a : Addr} (hne : row ≠ some a.block) {u : Value} (hu : wr.cell? a = some u) : w1.cell? a = some u := by
  have hlt := World.block_lt_of_cell? wr a hu
  rw [hg.cell_far a (by show _ < (wr.heap.push _).size; simp; omega) (Ne.symm hne)]
  exact (World.cell?_alloc_lt wr o a hlt).trans hu
theorem held_new {w : World} {o : Obj} {a : Addr} {u : Value} (hu : w.cell? a = some u) : (w.alloc o).drew.cell? a = some u :=
  (World.cell?_alloc_lt w o a (World.block_lt_of_cell? w a hu)).trans hu
theorem held_set {w : World} {a : Addr} {u : Value} {p : Addr} {x : Value} (h : w.cell? a = some u) (hne : p.block ≠ a.block) : (w.setCell p x).cell? a = some u :=
  (World.cell?_setCell_far w p a x hne).trans h
end Ne
end Go.Proofs.Ytdnchebbdkgccaa
namespace Go.Proofs.Ytdnchebbdkgccaa
open Go.ChangeShapes Go.WideShapes Go.ChangeAt Go.RowKit
set_option linter.unusedVariables false
set_option linter.unusedSimpArgs false
namespace Ne
theorem arow_at1 (w : World) {b : Nat} (hb : b = w.heap.size) (a : Arc) : ARow (w.alloc (.cells #[.int .i64 a.fr, .int .i64 a.to, .int .i64 a.cap] 67)) (some ⟨b, 0, none⟩) [a] := by
  subst hb
  refine .inr ⟨w.heap.size, 0, rfl, by simp, ?_⟩
  intro i y hi j v hv
  match i, hi with
  | 0, hi =>
    simp at hi; subst hi
    match j, hv with
    | 0, hv => simp [encA] at hv; subst hv; exact World.cell?_alloc_new w _ _ 0
    | 1, hv => simp [encA] at hv; subst hv; exact World.cell?_alloc_new w _ _ 1
    | 2, hv => simp [encA] at hv; subst hv; exact World.cell?_alloc_new w _ _ 2
    | (j + 3), hv => simp [encA] at hv
  | (i + 1), hi => simp at hi
/-- a row of numbers that came in -/
theorem ints_row {w : World} {a : Option Addr} {len cap : Nat} {zs : List Int} (h : (a = none ∧ len = 0 ∧ cap = 0 ∧ zs = []) ∨
    ∃ x, a = some x ∧ len ≤ cap ∧ cap ≤ maxLen ∧ zs.length = cap ∧ (∀ i, i < zs.length → w.cell? (x.add i) = some (.int .i64 (zs.getD i 0))) ∧ ∀ n ∈ zs, (Lit.int .i64 n).wf = true) :
    ∃ l : List Int, l.length = len ∧ IRow w a l ∧ (∀ n ∈ l, -9223372036854775808 ≤ n ∧ n ≤ 9223372036854775807) ∧ len ≤ cap ∧ cap ≤ maxLen ∧ (a = none → cap = 0) := by
  rcases h with ⟨rfl, rfl, rfl, rfl⟩ | ⟨x, rfl, hl, hm, hz, hcell, hwz⟩
  · exact ⟨[], rfl, .inl rfl, by simp, Nat.le_refl _, by unfold maxLen; omega, fun _ => rfl⟩
  · refine ⟨zs.take len, by simp; omega, ?_, ?_, hl, hm, fun h => by cases h⟩
    · by_cases hn : zs.take len = []
      · exact .inl hn
      · right
        have h0 : 0 < zs.length := by
          rcases zs with _ | ⟨z, r⟩
          · simp at hn
          · simp
        obtain ⟨b, off, spot⟩ := x
        have hc := hcell 0 h0
        have hspot : spot = none := by simpa [Addr.add] using World.cell?_spot hc
        subst hspot
        have e0 : (⟨b, off, none⟩ : Addr).add 0 = ⟨b, off, none⟩ := by unfold Addr.add; simp
        rw [e0] at hc
        refine ⟨b, off, rfl, World.block_lt_of_cell? w _ hc, fun i x hi j v hv => ?_⟩
        have hi2 := (List.getElem?_eq_some_iff.1 hi).1
        have hi' : i < len := by simp at hi2; omega
        have hi3 : i < zs.length := by simp at hi2; omega
        have := hcell i hi3
        rw [Rw.add_at] at this
        match j, hv with
        | 0, hv =>
          simp [encI] at hv; subst hv
          rw [show off + (i * 1 + 0) = off + i by omega, this]
          rw [List.getElem?_take, if_pos hi'] at hi
          simp [List.getD, hi]
        | (j + 1), hv => simp [encI] at hv
    · intro n hn
      have := bounds_i64 (hwz n (List.mem_of_mem_take hn))
      omega
end Ne
end Go.Proofs.Ytdnchebbdkgccaa
namespace Go.Proofs.Ytdnchebbdkgccaa
open Go.ChangeShapes Go.WideShapes Go.ChangeAt Go.RowKit
set_option linter.unusedVariables false
set_option linter.unusedSimpArgs false
namespace Ne
theorem own_empty {α : Type} {e : TypeId} {k : Nat} {enc : α → List Value} (w : World) (B : Nat) (hB : B ≤ w.heap.size) : Rw.Own e k enc (w.alloc (.cells #[] e)) B (.slice (some ⟨w.heap.size, 0, none⟩) 0 0) ([] : List α) := by
  refine ⟨by simp, .inr ⟨w.heap.size, 0, #[], rfl, hB, ?_, by simp, by simp [maxLen], by simp, by simp⟩⟩
  show (w.heap.push _)[w.heap.size]? = _
  simp
/-- a row of the call's own, after a store into one cell of one element -/
theorem own_put {α : Type} {e : TypeId} {k : Nat} {enc : α → List Value} (hk : ∀ x, (enc x).length = k) {w : World} {B g cap : Nat} {xs : List α} {n : Nat} (h : Rw.Own e k enc w B (.slice (some ⟨g, 0, none⟩) n cap) xs) {i : Nat} {x y : α} (hx : xs[i]? = some x) {j : Nat} (hj : j < k) {u : Value} (hy : enc y = (enc x).set j u) :
    Rw.Own e k enc (w.setCell ⟨g, i * k + j, none⟩ u) B (.slice (some ⟨g, 0, none⟩) n cap) (xs.set i y) := by
  obtain ⟨h1, h2⟩ := h
  have hi : i < xs.length := (List.getElem?_eq_some_iff.1 hx).1
  have hflat : (xs.set i y).flatMap enc = (xs.flatMap enc).set (i * k + j) u := by
    clear h1 h2
    induction xs generalizing i with
    | nil => simp at hi
    | cons z zs ih =>
      rcases i with _ | i
      · simp at hx; subst hx
        simp only [List.set_cons_zero, List.flatMap_cons, hy, Nat.zero_mul, Nat.zero_add]
        rw [List.set_append, if_pos (by rw [hk]; exact hj)]
      · simp only [List.set_cons_succ, List.flatMap_cons]
        rw [ih (by simpa using hx) (by simpa using hi), List.set_append, if_neg (by rw [hk, Nat.succ_mul]; omega), hk, show (i + 1) * k + j - k = i * k + j by rw [Nat.succ_mul]; omega]
  refine ⟨by rw [hflat, List.length_set, List.length_set]; exact h1, ?_⟩
  rcases h2 with ⟨hv, hn⟩ | ⟨g', cap', cur, hv, hg, hh, hc, hm, hs, ht⟩
  · simp at hv
  · simp only [Value.slice.injEq, Option.some.injEq, Addr.mk.injEq, and_true, true_and] at hv
    obtain ⟨rfl, rfl, rfl⟩ := hv
    refine .inr ⟨g, cap, cur.setIfInBounds (i * k + j) u, by rw [List.length_set], hg, ?_, by rw [List.length_set]; exact hc, hm, by rw [Array.size_setIfInBounds]; exact hs, ?_⟩
    · simp only [World.setCell, Array.getElem?_modify, hh, if_true, Option.map_some]
      rfl
    · rw [List.length_set, hflat, ← ht, Array.toList_setIfInBounds, List.take_set]

/-- what an element of a row of the call's own tells a walk -/
theorem own_cells {α : Type} {e : TypeId} {k : Nat} {enc : α → List Value} (hk : ∀ x, (enc x).length = k) {w : World} {B n cap : Nat} {ao : Option Addr} {xs : List α} (h : Rw.Own e k enc w B (.slice ao n cap) xs) {i : Nat} {x : α} (hx : xs[i]? = some x) :
    ∃ g, ao = some ⟨g, 0, none⟩ ∧ B ≤ g ∧ g < w.heap.size ∧ (∀ j v, (enc x)[j]? = some v → w.cell? ⟨g, i * k + j, none⟩ = some v) ∧ ∀ o, w.frozen? ⟨g, o, none⟩ = false := by
  have hi : i < xs.length := (List.getElem?_eq_some_iff.1 hx).1
  obtain ⟨ao', cap', hv, _, _, _, hrow, hb, ha⟩ := Rw.own_row hk h
  simp only [Value.slice.injEq] at hv
  obtain ⟨rfl, _, rfl⟩ := hv
  rcases hrow with h0 | ⟨b, off, rfl, hlt, hc⟩
  · rw [h0] at hi; simp at hi
  obtain ⟨b', hb'⟩ := ha _ rfl
  cases hb'
  refine ⟨b, rfl, (hb b 0 rfl).1, hlt, fun j v hv => by have := hc i x hx j v hv; rwa [Nat.zero_add] at this, fun o => ?_⟩
  obtain ⟨_, h2⟩ := h
  rcases h2 with ⟨hv, _⟩ | ⟨g', cap2, cur, hv, hg, hh, _⟩
  · simp at hv
  · simp only [Value.slice.injEq, Option.some.injEq, Addr.mk.injEq, and_true, true_and] at hv
    obtain ⟨rfl, _⟩ := hv
    simp [World.frozen?, hh]
theorem netBox_set1 {w : World} {b : Nat} {n s t s2 : Int} {v : Value} (h : NetBox w b n s t v) : NetBox (w.setCell ⟨b, 1, none⟩ (.int .i64 s2)) b n s2 t v := by
  unfold NetBox at *
  simp only [World.setCell, Array.getElem?_modify, h, if_true, Option.map_some]
  rfl
theorem netBox_set2' {w : World} {b : Nat} {n s t t2 : Int} {v : Value} (h : NetBox w b n s t v) : NetBox (w.setCell ⟨b, 2, none⟩ (.int .i64 t2)) b n s t2 v := by
  unfold NetBox at *
  simp only [World.setCell, Array.getElem?_modify, h, if_true, Option.map_some]
  rfl
theorem below_drew {B : Nat} {w w' : World} (h : Below B w w') : Below B w w'.drew := h.trans ⟨rfl, rfl, rfl, Nat.le_refl _, fun _ _ => rfl⟩
theorem netBox_drewN {w : World} {b : Nat} {n s t : Int} {v : Value} (h : NetBox w b n s t v) (q : Nat) : NetBox (w.drewN q) b n s t v := h

end Ne
end Go.Proofs.Ytdnchebbdkgccaa
