/-
  The form's own reach: a slice of 64-bit numbers that came in has fewer than 2^45 elements. No condition.
-/
import Derived.Test.YtohfgjaajldccaaRow
import Derived.SizedLaws
namespace Go.Proofs.Ytohfgjaajldccaa
open Go.ChangeShapes Go.WideShapes Go.ChangeAt Go.RowKit
set_option linter.unusedVariables false
namespace Num
theorem bytes_i64 : Try.prog.bytesOf 2 = 8 := by kernel_rfl
theorem reach_ints {H : Type} {enc : TypeId × Value → H} {w : World} {base : Nat} {spare : Nat → Bool} {held : Bool} {ao : Option Addr} {len cap : Nat} {d : DataW H} {p : List MemPlace} {ts : List TypeId} {ds : List (DataW H)} {j : Nat}
    (k : DataW.Trod enc Try.prog w base spare held 22 (.slice ao len cap) d p) (hsz : (DataW.weightsEach Try.prog ts ds).all (· ≤ reachBytes) = true)
    (ht : ts[j]? = some 22) (hd : ds[j]? = some d) : len ≤ 17592186044416 := by
  obtain ⟨fuel, hf⟩ := k
  rcases open_ints Try.underlying22 Try.underlying2 (by kernel_rfl) hf with ⟨hcs, _⟩ | ⟨x, l, c, zs, hcs, _, hl, hm, hz, hx, _⟩
  · simp [Value.cells] at hcs; omega
  · simp [Value.cells] at hcs
    obtain ⟨rfl, rfl, rfl⟩ := hcs
    simp only [Prod.mk.injEq] at hx
    obtain ⟨hx1, _⟩ := hx
    have h := sized_slice (j := j) hsz ht (hd.trans (by rw [hx1])) Try.underlying22
    rw [bytes_i64] at h
    simp only [lits, List.length_map, List.length_take, List.length_drop, reachBytes] at h
    by_cases c : spare x.block = true
    · rw [if_pos c] at hz; omega
    · rw [if_neg c] at hz; omega
end Num
end Go.Proofs.Ytohfgjaajldccaa
