/-
  Stage 15: a variable that holds an item: its block. No condition.
-/
import Derived.Test.YtkeojkddbannpaaItr
namespace Go.Proofs.Ytkeojkddbannpaa
open Go.ChangeShapes Go.WideShapes Go.ChangeAt Go.RowKit
set_option linter.unusedVariables false
set_option linter.unusedSimpArgs false
namespace Dc
open Go.Proofs.Ytkeojkddbannpaa.Ne
def IxB (T : TypeId) (w : World) (b : Nat) (k : Int) (v : Value) (a : Int) : Prop := w.heap[b]? = some (.cells #[.int .u8 k, v, .int .i64 a] T (0, 0))
section
variable {T : TypeId} {w w2 : World} {b : Nat} {k a k2 a2 : Int} {v v2 : Value}
theorem ixb_cells (h : IxB T w b k v a) : w.cell? ⟨b, 0, none⟩ = some (.int .u8 k) ∧ w.cell? ⟨b, 1, none⟩ = some v ∧ w.cell? ⟨b, 2, none⟩ = some (.int .i64 a) := by
  unfold IxB at h
  simp [World.cell?, h]
theorem ixb_frozen (h : IxB T w b k v a) (i : Nat) : w.frozen? ⟨b, i, none⟩ = false := by
  unfold IxB at h
  simp [World.frozen?, h]
theorem ixb_lt (h : IxB T w b k v a) : b < w.heap.size := Rw.lt_of_heap h
theorem ixb_same (h : IxB T w b k v a) (e : w2.heap[b]? = w.heap[b]?) : IxB T w2 b k v a := by unfold IxB at *; rw [e]; exact h
theorem ixb_below (h : IxB T w b k v a) (hb : Below w.heap.size w w2) : IxB T w2 b k v a := ixb_same h (hb.block b (ixb_lt h))
theorem ixb_far (h : IxB T w b k v a) {p : Addr} (hp : b ≠ p.block) (u : Value) : IxB T (w.setCell p u) b k v a := ixb_same h (Below.heap_setCell _ _ _ _ hp)
theorem ixb_new (T : TypeId) (w : World) {b : Nat} (hb : b = w.heap.size) : IxB T (w.alloc (.cells #[.int .u8 0, .slice none 0 0, .int .i64 0] T)) b 0 (.slice none 0 0) 0 := by
  subst hb
  show (w.heap.push _)[w.heap.size]? = _
  simp
theorem ixb_made (T : TypeId) (w : World) {b : Nat} (hb : b = w.heap.size) (k : Int) (v : Value) (a : Int) : IxB T (w.alloc (.cells #[.int .u8 k, v, .int .i64 a] T)) b k v a := by
  subst hb
  show (w.heap.push _)[w.heap.size]? = _
  simp
theorem ixb_am (h : IxB T w b k v a) (y : Int) : IxB T (w.setCell ⟨b, 2, none⟩ (.int .i64 y)) b k v y := by
  unfold IxB at *
  simp only [World.setCell, Array.getElem?_modify, h, if_true, Option.map_some]
  rfl
theorem ixb_all (h : IxB T w b k v a) : IxB T (((w.setCell ⟨b, 0, none⟩ (.int .u8 k2)).setCell ⟨b, 1, none⟩ v2).setCell ⟨b, 2, none⟩ (.int .i64 a2)) b k2 v2 a2 := by
  unfold IxB at *
  simp only [World.setCell, Array.getElem?_modify, h, if_true, Option.map_some]
  rfl
end
theorem mrow_one (w : World) {b : Nat} (hb : b = w.heap.size) (t : TypeId) (k : ItC) : Rw.Row 3 encM (w.alloc (.cells #[.int .u8 k.kind, .slice k.o k.len k.cap, .int .i64 k.am] t)) (some ⟨b, 0, none⟩) [k] := by
  subst hb
  refine .inr ⟨w.heap.size, 0, rfl, by simp, ?_⟩
  intro i y hi j v hv
  match i, hi with
  | 0, hi =>
    cases hi
    match j, hv with
    | 0, hv => cases hv; exact World.cell?_alloc_new w _ _ 0
    | 1, hv => cases hv; exact World.cell?_alloc_new w _ _ 1
    | 2, hv => cases hv; exact World.cell?_alloc_new w _ _ 2
theorem ArcO.base {w : World} {B B' : Nat} {o : Option Addr} {R : List Int} (h : ArcO w B o R) (hB : B' ≤ B) : ArcO w B' o R := by
  obtain ⟨g, c, i, l, hi, ho, h1, h2⟩ := h
  exact ⟨g, c, i, l, hi, Rw.own_base ho hB, h1, h2⟩
theorem ItO.base {e : TypeId} {w : World} {B B' : Nat} {v : Value} {L : List ItZ} (h : ItO e w B v L) (hB : B' ≤ B) : ItO e w B' v L := by
  obtain ⟨Ks, h1, h2, h3⟩ := h
  exact ⟨Ks, Rw.own_base h1 hB, h2, fun i k x hi hx => by obtain ⟨a, b, c, d⟩ := h3 i k x hi hx; exact ⟨a, b, c, d.base hB⟩⟩
/-- a row of the call's own, and its ends -/
theorem arcO_of {w : World} {B B' : Nat} {o : Option Addr} {m c : Nat} {l : List Int} (h : OwnI w B' (.slice o m c) l) (hB : B ≤ B') (hne : l ≠ []) : ∃ q, o = some ⟨q, 0, none⟩ ∧ m = l.length ∧ l.length ≤ c ∧ c ≤ maxLen ∧ B' ≤ q ∧ q < w.heap.size ∧ ∀ i, i < l.length → ArcO w B (some ⟨q, i, none⟩) (l.drop i) := by
  obtain ⟨o', c', h1, h2, h3, h4, h5, h6, h7⟩ := Rw.own_row encI_len h
  simp only [Value.slice.injEq] at h1
  obtain ⟨rfl, rfl, rfl⟩ := h1
  have hl : 0 < l.length := List.length_pos_iff.2 hne
  rcases o with _ | a
  · have := h4 rfl; omega
  · obtain ⟨q, rfl⟩ := h7 a rfl
    obtain ⟨g1, g2⟩ := Rw.own_lt h q rfl
    exact ⟨q, rfl, rfl, h2, h3, g1, g2, fun i hi => ⟨q, c, i, l, hi, Rw.own_base h hB, rfl, rfl⟩⟩
end Dc
end Go.Proofs.Ytkeojkddbannpaa
