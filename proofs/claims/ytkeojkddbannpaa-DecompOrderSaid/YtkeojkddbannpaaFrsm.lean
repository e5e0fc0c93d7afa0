/-
  Contract of the document's Same: two rows of amounts. Condition: their lengths are below 2^40.
-/
import Derived.Test.YtkeojkddbannpaaNets
import Derived.Deep.QuietTactic
import Derived.BigQuiet
import Derived.LoopTactic
import Derived.Below
namespace Go.Proofs.Ytkeojkddbannpaa
open Go.ChangeShapes Go.WideShapes Go.ChangeAt Go.RowKit
set_option linter.unusedVariables false
namespace Ne

set_option maxHeartbeats 2000000 in
/-- racewayref5.Same -/
theorem rsame_l (a1 a2 : Option Addr) (c1 c2 : Nat) (l1 l2 : List Int) (w : World) (r1 : IRow w a1 l1) (r2 : IRow w a2 l2) (h1 : l1.length ≤ 1099511627776) (h2 : l2.length ≤ 1099511627776) :
    Calls Try.prog 16 #[.slice a1 l1.length c1, .slice a2 l2.length c2] w fun e w' => e = .returned (.bool (decide (l1 = l2))) ∧ Below w.heap.size w w' := by
  by_cases hl : l1.length = l2.length
  · have hne : ((l1.length : Int) == (l2.length : Int)) = true := by simp; omega
    have HL := Lib.hid hl
    rw [← hl] at hne ⊢
    clear hne hl
    have R1 := Lib.hid r1
    have R2 := Lib.hid r2
    clear r1 r2
    go_enter Try.func16, Try.ntmps16
    go_wp2
    go_loopw [5] (fun i wr => ∃ (k q : Nat), k ≤ l1.length ∧ i = .int .i64 k ∧ wr = w.drewN q ∧ l1.take k = l2.take k) (fun i _ => l1.length - (intOf i).toNat)
    case atStart => exact ⟨0, 0, Nat.zero_le _, rfl, rfl, by simp⟩
    case round =>
      obtain ⟨k, q, hk, rfl, rfl, he⟩ := hrel
      by_cases hlt : k < l1.length
      · obtain ⟨x, g1⟩ : ∃ x, l1[k]? = some x := ⟨_, List.getElem?_eq_getElem hlt⟩
        obtain ⟨y, g2⟩ : ∃ y, l2[k]? = some y := ⟨_, List.getElem?_eq_getElem (by have := HL.out; omega)⟩
        rcases R1.out with h | ⟨b1, o1, rfl, _, k1⟩
        · rw [h] at hlt; simp at hlt
        rcases R2.out with h | ⟨b2, o2, rfl, _, k2⟩
        · exfalso; have := HL.out; rw [h] at this; rw [this] at hlt; simp at hlt
        have hc1 := irow_at k1 g1
        have hc2 := irow_at k2 g2
        clear k1 k2
        by_cases hxy : x = y
        · have HN := Lib.hid (take_succ_eq he g1 g2 hxy)
          subst hxy
          clear he g1 g2
          go_wp2
          go_quiet (fail)
          go_wp2
          go_roundw
          case rel => exact ⟨k + 1, q + nq, by omega, by go_num, rfl, HN.out⟩
          case measure => simp [intOf]; omega
        · have HN := Lib.hid (ne_at g1 g2 hxy)
          have hxy' : (x == y) = false := by simpa using hxy
          clear he g1 g2 hxy
          go_wp2
          go_quiet (fail)
          go_wp2
          go_ret
          exact ⟨retB (decide_eq_false HN.out).symm, (below_drewN w q).trans ⟨rfl, rfl, rfl, Nat.le_refl _, fun _ _ => rfl⟩⟩
      · have ek : k = l1.length := by omega
        subst ek
        have t2 : l2.take l1.length = l2 := by rw [HL.out]; exact List.take_length
        rw [List.take_length, t2] at he
        have HN := Lib.hid he
        clear t2
        clear he hlt
        go_wp2
        go_ret
        exact ⟨retB (decide_eq_true HN.out).symm, below_drewN _ _⟩
  · have hne : ((l1.length : Int) == (l2.length : Int)) = false := by simp; omega
    have HN := Lib.hid (show l1 ≠ l2 from fun h => hl (by rw [h]))
    clear hl r1 r2
    go_enter Try.func16, Try.ntmps16
    go_wp2
    go_ret
    exact ⟨retB (decide_eq_false HN.out).symm, Below.refl _ _⟩

end Ne
end Go.Proofs.Ytkeojkddbannpaa
