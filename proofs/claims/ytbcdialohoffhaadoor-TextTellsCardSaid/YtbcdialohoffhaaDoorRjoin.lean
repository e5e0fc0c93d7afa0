/-
  Contract of the document's own Join. Condition: what is joined has at most a million bytes.
-/
import Derived.Test.YtbcdialohoffhaaDoorWds
import Derived.Test.YtbcdialohoffhaaDoorWrit
namespace Go.Proofs.YtbcdialohoffhaaDoor
open Go.ChangeShapes Go.WideShapes Go.ChangeAt Go.RowKit
set_option linter.unusedVariables false
namespace Txt

set_option maxHeartbeats 2000000 in
theorem rjoin_any (ao : Option Addr) (cap : Nat) (l : List (List UInt8)) (w : World) (hr : SRow w ao l) (hn : l.length ≤ 1000000) (hl : (Lib.join l [32]).length ≤ 1000000) :
    Calls Tryd.prog 21 #[.slice ao l.length cap] w fun e w' => e = .returned (.string ⟨(Lib.join l [32]).toArray⟩) ∧ w = w' := by
  have HL := Lib.hid hl
  have HR := Lib.hid hr
  clear hl hr
  go_enter Tryd.func21, Tryd.ntmps21
  go_wp2
  go_loop [3, 4] (fun t i => ∃ (k : Nat) (x : ByteArray), i = .int .i64 k ∧ k ≤ l.length ∧ t = .string x ∧ x.data.toList = Lib.join (l.take k) [32]) (fun _ i => l.length - (intOf i).toNat)
  case atStart => exact ⟨0, ⟨#[]⟩, rfl, Nat.zero_le _, rfl, by rw [List.take_zero, Lib.join_nil]⟩
  case round =>
    obtain ⟨k, x, rfl, hk, rfl, hx⟩ := hrel
    have HX := Lib.hid hx
    clear hx
    by_cases hlt : k < l.length
    · obtain ⟨y, hy⟩ : ∃ y, l[k]? = some y := ⟨_, List.getElem?_eq_getElem hlt⟩
      rcases HR.out with h | ⟨b, off, rfl, hb, hcell⟩
      · exfalso; rw [h] at hlt; simp at hlt
      have hc := hcell k y hy
      unfold encS at hc
      have hle := join_le l (k + 1)
      have HLL := Lib.hid (Nat.le_trans hle HL.out)
      clear hcell hle
      by_cases h0 : k = 0
      · subst h0
        have HN := Lib.hid (join_first hy)
        have hx0 : x.size = 0 := by rw [Lib.size_eq, HX.out, List.take_zero, Lib.join_nil]; rfl
        have HX0 := Lib.hid hx0
        have hyl : y.length ≤ 1000000 := by
          have := HLL.out; rw [HN.out] at this; exact this
        rw [Nat.add_zero] at hc
        have hxz : x.size ≤ 1000000 := by omega
        clear hx0 hy
        go_wp2
        go_round
        case rel => exact ⟨1, _, by go_num, by omega, rfl, by rw [data_append, HX.out, HN.out, List.take_zero, Lib.join_nil, List.nil_append]⟩
        case measure => simp [intOf]; omega
      · have HN := Lib.hid (join_take (by omega) hy)
        have hpos : 0 < (k : Int) := by omega
        have hsz : x.size + y.length ≤ 1000000 := by
          have := HLL.out; rw [HN.out, ← HX.out, List.length_append, ← Lib.size_eq] at this; simp at this; omega
        have hxz : x.size ≤ 1000000 := by omega
        have hyl : y.length ≤ 1000000 := by omega
        clear hy
        go_wp2
        go_round
        case rel => exact ⟨k + 1, _, by go_num, by omega, rfl, by rw [data_append, data_append, HX.out, HN.out]; simp⟩
        case measure => simp [intOf]; omega
    · have ek : k = l.length := by omega
      subst ek
      have HE := Lib.hid (show x.data.toList = Lib.join l [32] by rw [HX.out, List.take_length])
      clear HX
      go_wp2
      go_ret
      exact ⟨retS HE.out, rfl⟩
end Txt
end Go.Proofs.YtbcdialohoffhaaDoor
