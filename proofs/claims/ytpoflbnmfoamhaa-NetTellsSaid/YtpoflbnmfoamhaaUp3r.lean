/-
  The contracts of the document's answers to layer 3 as the law NetTells takes them. Condition: at most a million arcs.
-/
import Derived.Test.YtpoflbnmfoamhaaUp3
import Derived.Test.YtpoflbnmfoamhaaRnet
namespace Go.Proofs.Ytpoflbnmfoamhaa
open Go.ChangeShapes Go.WideShapes Go.ChangeAt Go.RowKit
set_option linter.unusedVariables false
namespace Ne
section
variable (n : Net) (ao : Option Addr) (cap : Nat) (v : Int) (w : World)
theorem rout_s (hr : ARow w ao n.l) (hl : n.l.length ≤ 1000000) : Calls Try.prog 15 #[encN n ao cap, .int .i64 v] w fun e w' => ∃ o c, e = .returned (.slice o (outs n.l v n.l.length).length c) ∧ IRow w' o (outs n.l v n.l.length) ∧ Below w.heap.size w w' :=
  (rout_any n ao cap v w hr hl).mono fun e w' ⟨x, he, ho, hb⟩ => by obtain ⟨o, c, hx, _, hi⟩ := irow_of ho; exact ⟨o, c, by rw [he, hx], hi, hb⟩
theorem rin_s (hr : ARow w ao n.l) (hl : n.l.length ≤ 1000000) : Calls Try.prog 17 #[encN n ao cap, .int .i64 v] w fun e w' => ∃ o c, e = .returned (.slice o (ins n.l v n.l.length).length c) ∧ IRow w' o (ins n.l v n.l.length) ∧ Below w.heap.size w w' :=
  (rin_any n ao cap v w hr hl).mono fun e w' ⟨x, he, ho, hb⟩ => by obtain ⟨o, c, hx, _, hi⟩ := irow_of ho; exact ⟨o, c, by rw [he, hx], hi, hb⟩
end
theorem rsame_s (a : Net) (ao bo : Option Addr) (ca cb : Nat) (w : World) (r1 : ARow w ao a.l) (r2 : ARow w bo a.l) (h1 : a.l.length ≤ 1000000) :
    Calls Try.prog 19 #[encN a ao ca, encN a bo cb] w fun e w' => e = .returned (.bool true) ∧ Below w.heap.size w w' :=
  (rsame_any a a ao bo ca cb w r1 r2 h1 h1).mono fun e w' ⟨he, hb⟩ => ⟨by rw [he, sameN_self], hb⟩
end Ne
end Go.Proofs.Ytpoflbnmfoamhaa
