/-
  What an object that is changed in place keeps: all blocks but its own are as they were. No condition.
-/
import Derived.Test.YtkeojkddbannpaaIrow
namespace Go.Proofs.Ytkeojkddbannpaa
open Go.ChangeShapes Go.WideShapes Go.ChangeAt Go.RowKit
set_option linter.unusedVariables false
set_option linter.unusedSimpArgs false
namespace Sp
/-- all blocks but those of F are as they were -/
structure Off (F : Nat → Prop) (w w2 : World) : Prop where
  os : w2.os = w.os
  tape : w2.tape = w.tape
  output : w2.output = w.output
  size : w.heap.size ≤ w2.heap.size
  block : ∀ k, k < w.heap.size → ¬ F k → w2.heap[k]? = w.heap[k]?
section
variable {F F' G : Nat → Prop} {w w2 w3 : World} {B : Nat}
theorem Off.refl (F : Nat → Prop) (w : World) : Off F w w := ⟨rfl, rfl, rfl, Nat.le_refl _, fun _ _ _ => rfl⟩
theorem Off.trans (h : Off F w w2) (k : Off F' w2 w3) (hF : ∀ g, F' g → F g ∨ w.heap.size ≤ g) : Off F w w3 :=
  ⟨k.os.trans h.os, k.tape.trans h.tape, k.output.trans h.output, Nat.le_trans h.size k.size, fun i h1 h2 => (k.block i (Nat.lt_of_lt_of_le h1 h.size) fun c => by
    rcases hF i c with c | c
    · exact h2 c
    · omega).trans (h.block i h1 h2)⟩
theorem Off.of_below (h : Below w.heap.size w w2) : Off F w w2 := ⟨h.os, h.tape, h.output, h.size, fun k hk _ => h.block k hk⟩
theorem Off.then (h : Off F w w2) (k : Below w2.heap.size w2 w3) : Off F w w3 := h.trans (.of_below (F := F) k) fun g hg => .inl hg
theorem Off.first (h : Below w.heap.size w w2) (k : Off F w2 w3) : Off F w w3 := (Off.of_below (F := F) h).trans k fun g hg => .inl hg
theorem Off.below (h : Off F w w2) (hF : ∀ g, F g → B ≤ g) (h0 : B ≤ w.heap.size) : Below B w w2 := ⟨h.os, h.tape, h.output, h.size, fun k hk => h.block k (by omega) fun c => by have := hF k c; omega⟩
theorem Off.mono (h : Off F w w2) (hF : ∀ g, F g → G g) : Off G w w2 := ⟨h.os, h.tape, h.output, h.size, fun k h1 h2 => h.block k h1 fun c => h2 (hF k c)⟩
theorem Off.set (h : Off F w w2) {p : Addr} (hp : F p.block ∨ w.heap.size ≤ p.block) (v : Value) : Off F w (w2.setCell p v) :=
  ⟨h.os, h.tape, h.output, by have := h.size; simpa [World.setCell] using this, fun k h1 h2 => (Below.heap_setCell _ _ _ _ fun e => by
    subst e
    rcases hp with c | c
    · exact h2 c
    · omega).trans (h.block k h1 h2)⟩
theorem Off.alloc (h : Off F w w2) (o : Obj) : Off F w (w2.alloc o) := h.then ((Below.refl _ _).alloc (Nat.le_refl _) o)
theorem Off.drewN (h : Off F w w2) (q : Nat) : Off F w (w2.drewN q) := h.then (Ne.below_drewN w2 q)
theorem Off.grown {row : Option Nat} (h : Off F w w2) (hg : w2.grownBy w3 row) (hr : ∀ k, row = some k → F k ∨ w.heap.size ≤ k) : Off F w w3 :=
  ⟨hg.os.trans h.os, hg.tape.trans h.tape, hg.output.trans h.output, Nat.le_trans h.size hg.size, fun k h1 h2 => (hg.block k (Nat.lt_of_lt_of_le h1 h.size) fun e => by
    rcases hr k e.symm with c | c
    · exact h2 c
    · omega).trans (h.block k h1 h2)⟩
end
end Sp
end Go.Proofs.Ytkeojkddbannpaa
