/-
  Contracts of text.digits and of the document's own Number: each string gives what Txt says. Condition: the string is no longer than a Go string may be.
-/
import Derived.Test.YtaepoddmonijkaaDoorRows
import Derived.Test.YtaepoddmonijkaaDoorTxt
import Derived.WalkKit
import Derived.ProofKit
import Derived.OpenShut
import Derived.Lib.Hide
import Derived.Lib.Strings
import Derived.Lib.IndexBytes
import Derived.Lib.Slices
import Derived.Lib.Small
import Derived.Lib.Walk
import Derived.WalkSpells
import Derived.WalkLawsBesides
namespace Go.Proofs.YtaepoddmonijkaaDoor
open Go.ChangeShapes Go.WideShapes Go.ChangeAt Go.RowKit
set_option linter.unusedVariables false
namespace Txt

theorem retB {a b : Bool} (h : a = b) : Ending.returned (.bool a) = .returned (.bool b) := by rw [h]
theorem retN {a b c d : Int} (h1 : a = c) (h2 : b = d) : Ending.returned (.tuple #[.int .i64 a, .int .i64 b]) = .returned (.tuple #[.int .i64 c, .int .i64 d]) := by rw [h1, h2]
theorem take_snoc (s : ByteArray) (k : Nat) (h : k < s.size) : s.data.toList.take (k + 1) = s.data.toList.take k ++ [s[k]] := by
  rw [List.take_succ_eq_append_getElem (by simpa using h)]; rfl
theorem get_mem (s : ByteArray) (k : Nat) (h : k < s.size) : s[k] ∈ s.data.toList := by
  have := Lib.data_getElem? s k h
  exact List.mem_of_getElem? this
theorem take_all (s : ByteArray) : s.data.toList.take s.size = s.data.toList := List.take_of_length_le (by rw [Lib.size_eq]; exact Nat.le_refl _)
theorem not_all (s : ByteArray) (k : Nat) (h : k < s.size) (hd : dig s[k] = false) : okB s.data.toList = false := by
  have : s.data.toList.all dig = false := by
    rw [List.all_eq_false]; exact ⟨_, get_mem s k h, by simp [hd]⟩
  unfold okB; simp [this]

set_option maxHeartbeats 1000000 in
/-- text.digits -/
theorem digits_any (s : ByteArray) (w : World) (hs : s.size ≤ 9223372036854775807) :
    Calls Tryd.prog 78 #[.string s] w fun e w' => e = .returned (.bool (okB s.data.toList)) ∧ w = w' := by
  go_enter Tryd.func78, Tryd.ntmps78
  go_wp2
  go_loop [6] (fun i => ∃ k : Nat, k ≤ s.size ∧ i = .int .i64 k ∧ (s.data.toList.take k).all dig = true) (fun i => s.size - (intOf i).toNat)
  case atStart => exact ⟨0, Nat.zero_le _, rfl, by simp⟩
  case round =>
    obtain ⟨k, hk, rfl, hall⟩ := hrel
    by_cases hlt : k < s.size
    · by_cases hd : dig s[k] = true
      · have hd' := (dig_iff _).1 hd
        have h1 : ¬ ((s[k].toNat : Int) < 48) := by omega
        have h2 : ¬ (57 < (s[k].toNat : Int)) := by omega
        have HN := Lib.hid (show (s.data.toList.take (k + 1)).all dig = true by rw [take_snoc s k hlt, List.all_append, hall]; simp [hd])
        clear hall hd hd'
        go_wp2
        go_round
        case rel => exact ⟨k + 1, by omega, by go_num, HN.out⟩
        case measure => simp [intOf]; omega
      · have hd : dig s[k] = false := by simpa using hd
        have HN := Lib.hid (not_all s k hlt hd)
        have hd' : ¬ (48 ≤ s[k].toNat ∧ s[k].toNat ≤ 57) := fun h => by rw [(dig_iff _).2 h] at hd; cases hd
        clear hall hd
        by_cases h1 : (s[k].toNat : Int) < 48
        · go_wp2
          go_ret
          exact ⟨retB HN.out.symm, rfl⟩
        · have h2 : 57 < (s[k].toNat : Int) := by omega
          go_wp2
          go_ret
          exact ⟨retB HN.out.symm, rfl⟩
    · have ek : k = s.size := by omega
      rw [ek, take_all] at hall
      have HA := Lib.hid hall
      clear hall
      go_wp2
      go_ret
      refine ⟨retB ?_, rfl⟩
      unfold okB
      rw [HA.out, Lib.toList_data, Bool.and_true]

end Txt
end Go.Proofs.YtaepoddmonijkaaDoor
