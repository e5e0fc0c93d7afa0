/-
  The contracts of layer 3 as the laws take them: rows of numbers as slices; what is the same is told to be. Condition: at most a million arcs.
-/
import Derived.Test.YtpoflbnmfoamhaaShown3
import Derived.Test.YtpoflbnmfoamhaaOpen
import Derived.Test.YtpoflbnmfoamhaaDturn
import Derived.Test.YtpoflbnmfoamhaaNumb3
import Derived.Test.YtpoflbnmfoamhaaRsame
import Derived.Test.YtpoflbnmfoamhaaHeld
namespace Go.Proofs.Ytpoflbnmfoamhaa
open Go.ChangeShapes Go.WideShapes Go.ChangeAt Go.RowKit
set_option linter.unusedVariables false
namespace Ne
theorem irow_of {w : World} {B : Nat} {x : Value} {l : List Int} (h : OwnI w B x l) : ∃ ao cap, x = .slice ao l.length cap ∧ (ao = none → cap = 0) ∧ IRow w ao l := by
  obtain ⟨ao, cap, h1, _, _, h4, h5, _⟩ := Rw.own_row encI_len h
  exact ⟨ao, cap, h1, h4, h5⟩
theorem arow_of {w : World} {B n cap : Nat} {ao : Option Addr} {l : List Arc} (h : OwnA w B (.slice ao n cap) l) : n = l.length ∧ (ao = none → cap = 0) ∧ ARow w ao l := by
  obtain ⟨ao', cap', h1, _, _, h4, h5, _⟩ := Rw.own_row encA_len h
  simp only [Value.slice.injEq] at h1
  obtain ⟨rfl, rfl, rfl⟩ := h1
  exact ⟨rfl, h4, h5⟩
section
variable (n : Net) (ao : Option Addr) (cap : Nat) (v : Int) (w : World)
theorem out_s (hr : ARow w ao n.l) (hl : n.l.length ≤ 1000000) : Calls Try.prog 14 #[encN n ao cap, .int .i64 v] w fun e w' => ∃ o c, e = .returned (.slice o (outs n.l v n.l.length).length c) ∧ IRow w' o (outs n.l v n.l.length) ∧ Below w.heap.size w w' :=
  (out_any n ao cap v w hr hl).mono fun e w' ⟨x, he, ho, hb⟩ => by obtain ⟨o, c, hx, _, hi⟩ := irow_of ho; exact ⟨o, c, by rw [he, hx], hi, hb⟩
theorem in_s (hr : ARow w ao n.l) (hl : n.l.length ≤ 1000000) : Calls Try.prog 16 #[encN n ao cap, .int .i64 v] w fun e w' => ∃ o c, e = .returned (.slice o (ins n.l v n.l.length).length c) ∧ IRow w' o (ins n.l v n.l.length) ∧ Below w.heap.size w w' :=
  (in_any n ao cap v w hr hl).mono fun e w' ⟨x, he, ho, hb⟩ => by obtain ⟨o, c, hx, _, hi⟩ := irow_of ho; exact ⟨o, c, by rw [he, hx], hi, hb⟩
end
theorem same_s (a1 a2 : Option Addr) (c1 c2 : Nat) (l : List Int) (w : World) (r1 : IRow w a1 l) (r2 : IRow w a2 l) (h1 : l.length ≤ 1099511627776) :
    Calls Try.prog 13 #[.slice a1 l.length c1, .slice a2 l.length c2] w fun e w' => e = .returned (.bool true) ∧ Below w.heap.size w w' :=
  (same_any a1 a2 c1 c2 l l w r1 r2 h1 h1).mono fun e w' ⟨he, hb⟩ => ⟨by rw [he]; simp, hb⟩
theorem sameN_self (n : Net) : sameN n n = true := by simp [sameN]
theorem dsame_s (a : Net) (ao bo : Option Addr) (ca cb : Nat) (w : World) (r1 : ARow w ao a.l) (r2 : ARow w bo a.l) (h1 : a.l.length ≤ 1000000) :
    Calls Try.prog 18 #[encN a ao ca, encN a bo cb] w fun e w' => e = .returned (.bool true) ∧ Below w.heap.size w w' :=
  (dsame_any a a ao bo ca cb w r1 r2 h1 h1).mono fun e w' ⟨he, hb⟩ => ⟨by rw [he, sameN_self], hb⟩
theorem turn_s (n : Net) (ao : Option Addr) (cap : Nat) (w : World) (hn : ao = none → cap = 0) (hr : ARow w ao n.l) (hl : n.l.length ≤ 1000000) :
    Calls Try.prog 20 #[encN n ao cap] w fun e w' => ∃ ao' cap', e = .returned (encN (turnN n) ao' cap') ∧ ARow w' ao' (turnN n).l ∧ Below w.heap.size w w' :=
  (turn_any n ao cap w hn hr hl).mono fun e w' ⟨o, c, h1, h2, h3⟩ => ⟨o, c, h1, (arow_of h2).2.2, h3⟩
theorem copy_s (n : Net) (ao : Option Addr) (cap : Nat) (w : World) (hn : ao = none → cap = 0) (hr : ARow w ao n.l) (hl : n.l.length ≤ 1000000) :
    Calls Try.prog 22 #[encN n ao cap] w fun e w' => ∃ ao' cap', e = .returned (encN n ao' cap') ∧ ARow w' ao' n.l ∧ Below w.heap.size w w' :=
  (copy_any n ao cap w hn hr hl).mono fun e w' ⟨o, c, h1, h2, h3⟩ => ⟨o, c, h1, (arow_of h2).2.2, h3⟩
end Ne
end Go.Proofs.Ytpoflbnmfoamhaa
