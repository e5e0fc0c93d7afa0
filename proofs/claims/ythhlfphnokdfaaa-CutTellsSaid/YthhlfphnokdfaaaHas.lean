/-
  Contract of Has: is a number one of a row? Condition: at most a million numbers.
-/
import Derived.Test.YthhlfphnokdfaaaCtr
namespace Go.Proofs.Ythhlfphnokdfaaa
open Go.ChangeShapes Go.WideShapes Go.ChangeAt Go.RowKit
set_option linter.unusedVariables false
set_option linter.unusedSimpArgs false
namespace Ne
theorem has_at {S : List Int} {v : Int} {j : Nat} (hj : j < S.length) (h : amt S j = v) : hasL S v = true := by
  unfold hasL; rw [decide_eq_true_eq, ← h]
  rw [show amt S j = S[j] by simp [amt, hj]]; exact List.getElem_mem hj
theorem has_no {S : List Int} {v : Int} (h : ∀ i, i < S.length → amt S i ≠ v) : hasL S v = false := by
  unfold hasL
  refine decide_eq_false fun hm => ?_
  obtain ⟨i, hi, e⟩ := List.getElem_of_mem hm
  exact h i hi (by simp [amt, hi, e])
set_option maxRecDepth 100000 in
set_option maxHeartbeats 4000000 in
theorem rhas_any (so : Option Addr) (sc : Nat) (S : List Int) (v : Int) (w : World) (hs : IRow w so S) (hl : S.length ≤ 1000000) :
    Calls Try.prog 23 #[.slice so S.length sc, .int .i64 v] w fun e w' => e = .returned (.bool (hasL S v)) ∧ w = w' := by
  have HS := Lib.hid hs
  have HY := Lib.hid (fun (j : Nat) h => has_at (S := S) (v := v) (j := j) h)
  have HN := Lib.hid (has_no (S := S) (v := v))
  clear hs
  generalize hasL S v = b at *
  go_enter Try.func23, Try.ntmps23
  go_wp2
  go_loop [5] (fun i => ∃ j : Nat, i = .int .i64 j ∧ j ≤ S.length ∧ Hid (∀ i, i < j → amt S i ≠ v)) (fun i => S.length - (intOf i).toNat)
  case atStart => exact ⟨0, rfl, Nat.zero_le _, Lib.hid (fun i hi => absurd hi (by omega))⟩
  case round =>
    obtain ⟨j, rfl, hj, HP⟩ := hrel
    by_cases hlt : j < S.length
    · obtain ⟨b9, off, rfl, hb9, d0⟩ := irow_cell HS.out hlt
      have HYJ := Lib.hid (HY.out j hlt)
      have HPJ := Lib.hid (show amt S j ≠ v → ∀ i, i < j + 1 → amt S i ≠ v from fun h i hi => by
        by_cases e : i = j
        · rw [e]; exact h
        · exact HP.out i (by omega))
      generalize amt S j = x at *
      have hji : (j : Int) < (S.length : Int) := by omega
      have hj0 : (0 : Int) ≤ (j : Int) := by omega
      by_cases e : x = v
      · have e' : (x == v) = true := by simp [e]
        have HB := Lib.hid (HYJ.out e)
        clear HYJ HPJ e HY HN
        go_wp2
        go_ret
        rw [HB.out]
        exact ⟨rfl, rfl⟩
      · have e' : (x == v) = false := by simp [e]
        have HP2 := Lib.hid (HPJ.out e)
        clear HYJ HPJ e HY HN
        go_wp2
        go_round
        case rel => exact ⟨j + 1, by go_num, by omega, HP2⟩
        case measure => simp [intOf]; omega
    · have ej : j = S.length := by omega
      subst ej
      have HB := Lib.hid (HN.out HP.out)
      clear hlt hj HY HN
      go_wp2
      go_ret
      rw [HB.out]
      exact ⟨rfl, rfl⟩
end Ne
end Go.Proofs.Ythhlfphnokdfaaa
