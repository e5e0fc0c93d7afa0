/-
  Two rows of numbers of the call's own that grow side by side. No condition.
-/
import Derived.Test.YthhlfphnokdfaaaIrow
namespace Go.Proofs.Ythhlfphnokdfaaa
open Go.ChangeShapes Go.WideShapes Go.ChangeAt Go.RowKit
set_option linter.unusedVariables false
set_option linter.unusedSimpArgs false
namespace Ne
structure TwoI (w : World) (B : Nat) (y : Value) (a : List Int) (z : Value) (b : List Int) : Prop where
  l : OwnI w B y a
  r : OwnI w B z b
  sep : ∀ g, y.ownBlock = some g → z.ownBlock ≠ some g
variable {w w2 : World} {B : Nat} {y z x : Value} {a b c : List Int}
theorem two_nil (w : World) (B : Nat) : TwoI w B (.slice none 0 0) [] (.slice none 0 0) [] := ⟨Rw.own_nil _ _, Rw.own_nil _ _, fun g h => by simp [Value.ownBlock] at h⟩
theorem TwoI.alloc (h : TwoI w B y a z b) (o : Obj) : TwoI (w.alloc o) B y a z b := ⟨Rw.own_alloc h.l o, Rw.own_alloc h.r o, h.sep⟩
theorem TwoI.swap (h : TwoI w B y a z b) : TwoI w B z b y a := ⟨h.r, h.l, fun g h1 h2 => h.sep g h2 h1⟩
theorem TwoI.put (h : TwoI w B y a z b) (ho : OwnI w2 B x c) (hg : w.grownBy w2 y.ownBlock) (hat : x.ownBlock = y.ownBlock ∨ x.ownBlock = some w.heap.size) : TwoI w2 B x c z b := by
  refine ⟨ho, Rw.own_grown h.r hg fun g h1 h2 => h.sep g h2.symm h1, fun g h1 h2 => ?_⟩
  rcases hat with e | e
  · exact h.sep g (by rw [← e, h1]) h2
  · rw [e] at h1
    have := (Rw.own_lt h.r g h2).2
    simp at h1; omega
end Ne
end Go.Proofs.Ythhlfphnokdfaaa
