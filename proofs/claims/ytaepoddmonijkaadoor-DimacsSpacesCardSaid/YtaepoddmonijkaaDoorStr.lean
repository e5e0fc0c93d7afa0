/-
  Rows of strings in memory, and the contract of the law's own 'same'. Condition: rows of at most 2^40 elements.
-/
import Derived.Test.YtaepoddmonijkaaDoorDig
import Derived.Deep.QuietTactic
import Derived.BigQuiet
import Derived.LoopTactic
import Derived.Below
namespace Go.Proofs.YtaepoddmonijkaaDoor
open Go.ChangeShapes Go.WideShapes Go.ChangeAt Go.RowKit
set_option linter.unusedVariables false
namespace Txt

/-- a slice whose elements lie in memory, each one cell -/
def Row1 {α : Type} (enc : α → Value) (w : World) (ao : Option Addr) (l : List α) : Prop :=
  l = [] ∨ ∃ b off, ao = some ⟨b, off, none⟩ ∧ b < w.heap.size ∧ ∀ (i : Nat) (x : α), l[i]? = some x → w.cell? ⟨b, off + i, none⟩ = some (enc x)
theorem Row1.below {α : Type} {enc : α → Value} {w w2 : World} {ao : Option Addr} {l : List α} (h : Row1 enc w ao l) (hb : Below w.heap.size w w2) : Row1 enc w2 ao l := by
  rcases h with h | ⟨b, off, rfl, hlt, hc⟩
  · exact .inl h
  · exact .inr ⟨b, off, rfl, Nat.lt_of_lt_of_le hlt hb.size, fun i x hx => by rw [hb.cell (p := ⟨b, off + i, none⟩) hlt]; exact hc i x hx⟩
theorem Row1.drewN {α : Type} {enc : α → Value} {w : World} {ao : Option Addr} {l : List α} (h : Row1 enc w ao l) (q : Nat) : Row1 enc (w.drewN q) ao l := by
  rcases h with h | ⟨b, off, rfl, hlt, hc⟩
  · exact .inl h
  · exact .inr ⟨b, off, rfl, hlt, hc⟩
theorem below_drewN (w : World) (q : Nat) : Below w.heap.size w (w.drewN q) := ⟨rfl, rfl, rfl, Nat.le_refl _, fun _ _ => rfl⟩

/-- a string as a value, out of its bytes -/
def encS (l : List UInt8) : Value := .string ⟨l.toArray⟩
theorem encS_data (s : ByteArray) : encS s.data.toList = .string s := by unfold encS; rw [Lib.mk_data]
theorem mk_inj {a b : List UInt8} (h : (⟨a.toArray⟩ : ByteArray) = ⟨b.toArray⟩) : a = b := by
  have := congrArg (fun s => s.data.toList) h; simpa using this
abbrev SRow (w : World) (ao : Option Addr) (l : List (List UInt8)) : Prop := Row1 encS w ao l

theorem take_succ_eq {α : Type} {a b : List α} {k : Nat} {x y : α} (h : a.take k = b.take k) (ha : a[k]? = some x) (hb : b[k]? = some y) (e : x = y) : a.take (k + 1) = b.take (k + 1) := by
  rw [List.take_add_one, List.take_add_one, h, ha, hb, e]
theorem ne_at {α : Type} {a b : List α} {k : Nat} {x y : α} (ha : a[k]? = some x) (hb : b[k]? = some y) (e : x ≠ y) : a ≠ b := by
  intro h; rw [h, hb] at ha; exact e (Option.some.inj ha).symm

end Txt
end Go.Proofs.YtaepoddmonijkaaDoor
