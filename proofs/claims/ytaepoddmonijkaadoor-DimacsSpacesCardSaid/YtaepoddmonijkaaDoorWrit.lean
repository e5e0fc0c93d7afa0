/-
  Contract of the document's own Write. Condition: a 64-bit number.
-/
import Derived.Test.YtaepoddmonijkaaDoorNumr
namespace Go.Proofs.YtaepoddmonijkaaDoor
open Go.ChangeShapes Go.WideShapes Go.ChangeAt Go.RowKit
set_option linter.unusedVariables false
namespace Txt

theorem digit_piece_fin : ∀ d : Fin 10, ((⟨#[48, 49, 50, 51, 52, 53, 54, 55, 56, 57]⟩ : ByteArray).extract d.val (d.val + 1)).data.toList = [UInt8.ofNat (48 + d.val)] := by decide +kernel
theorem digit_piece (d : Nat) (h : d < 10) : ((⟨#[48, 49, 50, 51, 52, 53, 54, 55, 56, 57]⟩ : ByteArray).extract d (d + 1)).data.toList = [UInt8.ofNat (48 + d)] := digit_piece_fin ⟨d, h⟩
/-- what is written so far (x), and what is left (m), of a number's digits -/
def Part (u m : Nat) (x : List UInt8) : Prop := if x = [] then m = u else if m = 0 then x = Lib.decDigits u else Lib.decDigits m ++ x = Lib.decDigits u
theorem part_start (u : Nat) : Part u u [] := rfl
theorem part_step {u m : Nat} {x : List UInt8} (h : Part u m x) (hm : m ≠ 0 ∨ x = []) : Part u (m / 10) (UInt8.ofNat (48 + m % 10) :: x) := by
  unfold Part at *
  rw [if_neg (by simp)]
  have key : Lib.decDigits m = if m / 10 = 0 then [UInt8.ofNat (48 + m % 10)] else Lib.decDigits (m / 10) ++ [UInt8.ofNat (48 + m % 10)] := by
    conv => lhs; rw [Lib.decDigits]
    by_cases h10 : m < 10
    · rw [dif_pos h10, if_pos (by omega), show m % 10 = m by omega]
    · rw [dif_neg h10, if_neg (by omega)]
  by_cases hx : x = []
  · rw [if_pos hx] at h; subst hx; subst h
    rw [key]; split <;> rfl
  · rw [if_neg hx] at h
    have hm' : m ≠ 0 := by rcases hm with h | h; exact h; exact absurd h hx
    rw [if_neg hm', key] at h
    by_cases hz : m / 10 = 0
    · rw [if_pos hz] at h ⊢; exact h
    · rw [if_neg hz] at h ⊢; rw [← h]; simp
theorem part_end {u m : Nat} {x : List UInt8} (h : Part u m x) (hm : m = 0) (hx : x ≠ []) : x = Lib.decDigits u := by
  unfold Part at h; rw [if_neg hx, if_pos hm] at h; exact h
theorem part_len {u m : Nat} {x : List UInt8} (h : Part u m x) : x.length ≤ (Lib.decDigits u).length := by
  unfold Part at h
  split at h
  · rename_i hx; subst hx; simp
  · split at h
    · rw [h]; exact Nat.le_refl _
    · rw [← h]; simp
theorem digits_len (u : Nat) (h : u ≤ 9223372036854775808) : (Lib.decDigits u).length ≤ 20 := by
  rw [Lib.decDigits_length]
  have := Lib.lt_pow_nDigits
  rcases Nat.lt_or_ge 20 (Lib.nDigits u) with hx | hx
  · exfalso
    have h1 : ∀ u, 10 ^ (Lib.nDigits u - 1) ≤ max u 1 := by
      intro u
      induction u using Nat.strongRecOn with
      | _ u ih =>
        by_cases hu : u < 10
        · rw [Lib.nDigits_small hu]; simp; omega
        · rw [Lib.nDigits_big hu]
          have := ih (u / 10) (by omega)
          have hp := Lib.nDigits_pos (u / 10)
          rw [show Lib.nDigits (u / 10) + 1 - 1 = (Lib.nDigits (u / 10) - 1) + 1 by omega, Nat.pow_succ]
          omega
    have h2 := h1 u
    have h3 : 10 ^ 20 ≤ 10 ^ (Lib.nDigits u - 1) := Nat.pow_le_pow_right (by decide) (by omega)
    have : (10 : Nat) ^ 20 = 100000000000000000000 := by decide
    omega
  · exact hx

theorem mk_eq {a b : List UInt8} (h : a = b) : Value.string ⟨a.toArray⟩ = Value.string ⟨b.toArray⟩ := by rw [h]
theorem data_append (a b : ByteArray) : (a ++ b).data.toList = a.data.toList ++ b.data.toList := by simp

theorem retS {a : ByteArray} {l : List UInt8} (h : a.data.toList = l) : Ending.returned (.string a) = .returned (.string ⟨l.toArray⟩) := by rw [← h, Lib.mk_data]
def strEmpty : Value → Nat
  | .string s => if s.data.toList = [] then 1 else 0
  | _ => 0
theorem strEmpty_le (v : Value) : strEmpty v ≤ 1 := by unfold strEmpty; split <;> (try split) <;> omega
theorem digit_piece0 : ((⟨#[48, 49, 50, 51, 52, 53, 54, 55, 56, 57]⟩ : ByteArray).extract 0 1).data.toList = [48] := digit_piece 0 (by decide)
theorem part_go {u m d e : Nat} {x : ByteArray} (h : Part u (m / 10) (UInt8.ofNat (48 + m % 10) :: x.data.toList)) (hd : d = m % 10) (he : e = d + 1) :
    Part u (m / 10) ((⟨#[48, 49, 50, 51, 52, 53, 54, 55, 56, 57]⟩ : ByteArray).extract d e ++ x).data.toList := by
  rw [data_append, he, digit_piece d (by omega), hd]; exact h
theorem strEmpty_app {d e : Nat} {x : ByteArray} (hd : d < 10) (he : e = d + 1) : strEmpty (.string ((⟨#[48, 49, 50, 51, 52, 53, 54, 55, 56, 57]⟩ : ByteArray).extract d e ++ x)) = 0 := by
  simp only [strEmpty]; rw [data_append, he, digit_piece d hd]; rfl
set_option maxHeartbeats 4000000 in
theorem rwrite_any (n : Int) (w : World) (h0 : -9223372036854775808 ≤ n) (h1 : n ≤ 9223372036854775807) :
    Calls Tryd.prog 32 #[.int .i64 n] w fun e w' => e = .returned (.string ⟨(Lib.itoa n).toArray⟩) ∧ w = w' := by
  have HL := Lib.hid (digits_len n.natAbs (by omega))
  by_cases hn : n < 0
  · go_enter Tryd.func32, Tryd.ntmps32
    go_wp2
    go_loop [0, 3] (fun v t => ∃ (m : Nat) (x : ByteArray), v = .int .i64 (-(m : Int)) ∧ t = .string x ∧ (m : Int) ≤ 9223372036854775808 ∧ Part n.natAbs m x.data.toList) (fun v t => (intOf v).natAbs + strEmpty t)
    case atStart => exact ⟨n.natAbs, ⟨#[]⟩, by congr 1; omega, rfl, by omega, part_start _⟩
    case round =>
      obtain ⟨m, x, rfl, rfl, hm, hP⟩ := hrel
      have hX := part_len hP
      rw [← Lib.size_eq] at hX
      have hxs : x.size ≤ 20 := Nat.le_trans hX HL.out
      clear hX
      by_cases hz : m = 0
      · subst hz
        by_cases hx : x.data.toList = []
        · have HP := Lib.hid (part_step hP (.inr hx))
          have HX := Lib.hid hx
          have h2 : x.toList.isEmpty = true := by rw [Lib.toList_data, hx]; rfl
          clear hx hP
          go_wp2
          go_round
          case rel => exact ⟨0, _, by rfl, rfl, by omega, part_go HP.out rfl rfl⟩
          case measure => simp [intOf, strEmpty, HX.out]
        · have HP := Lib.hid (part_end hP rfl hx)
          have h2 : x.toList.isEmpty = false := by rw [Lib.toList_data]; simpa using hx
          clear hx hP
          go_wp2
          go_ret
          exact ⟨retS (by rw [itoa_form, if_pos hn, ← HP.out, data_append]), rfl⟩
      · have HP := Lib.hid (part_step hP (.inl hz))
        clear hP
        have e1 : (-(m : Int)).tmod 10 = -((m : Int) % 10) := by rw [Int.neg_tmod, Int.tmod_eq_emod_of_nonneg (by omega)]
        have e2 : (-(m : Int)).tdiv 10 = -((m : Int) / 10) := by rw [Int.neg_tdiv, Int.tdiv_eq_ediv_of_nonneg (by omega)]
        by_cases hd : (m : Int) % 10 = 0
        · go_wp2
          go_round
          case rel => exact ⟨m / 10, _, by congr 1, rfl, by omega, part_go HP.out (by omega) rfl⟩
          case measure => simp only [intOf]; rw [strEmpty_app (by decide) rfl]; omega
        · go_wp2
          go_round
          case rel => exact ⟨m / 10, _, by congr 1, rfl, by omega, part_go HP.out (by omega) rfl⟩
          case measure => simp only [intOf]; rw [strEmpty_app (by omega) rfl]; omega
  · go_enter Tryd.func32, Tryd.ntmps32
    go_wp2
    go_loop [0, 3] (fun v t => ∃ (m : Nat) (x : ByteArray), v = .int .i64 ((m : Int)) ∧ t = .string x ∧ (m : Int) ≤ 9223372036854775807 ∧ Part n.natAbs m x.data.toList) (fun v t => (intOf v).natAbs + strEmpty t)
    case atStart => exact ⟨n.natAbs, ⟨#[]⟩, by congr 1; omega, rfl, by omega, part_start _⟩
    case round =>
      obtain ⟨m, x, rfl, rfl, hm, hP⟩ := hrel
      have hX := part_len hP
      rw [← Lib.size_eq] at hX
      have hxs : x.size ≤ 20 := Nat.le_trans hX HL.out
      clear hX
      by_cases hz : m = 0
      · subst hz
        by_cases hx : x.data.toList = []
        · have HP := Lib.hid (part_step hP (.inr hx))
          have HX := Lib.hid hx
          have h2 : x.toList.isEmpty = true := by rw [Lib.toList_data, hx]; rfl
          clear hx hP
          go_wp2
          go_round
          case rel => exact ⟨0, _, by rfl, rfl, by omega, part_go HP.out rfl rfl⟩
          case measure => simp [intOf, strEmpty, HX.out]
        · have HP := Lib.hid (part_end hP rfl hx)
          have h2 : x.toList.isEmpty = false := by rw [Lib.toList_data]; simpa using hx
          clear hx hP
          go_wp2
          go_ret
          exact ⟨retS (by rw [itoa_form, if_neg (by omega), ← HP.out, List.nil_append]), rfl⟩
      · have HP := Lib.hid (part_step hP (.inl hz))
        clear hP
        by_cases hd : (m : Int) % 10 = 0
        · go_wp2
          go_round
          case rel => exact ⟨m / 10, _, by congr 1, rfl, by omega, part_go HP.out (by omega) rfl⟩
          case measure => simp only [intOf]; rw [strEmpty_app (by decide) rfl]; omega
        · go_wp2
          go_round
          case rel => exact ⟨m / 10, _, by congr 1, rfl, by omega, part_go HP.out (by omega) rfl⟩
          case measure => simp only [intOf]; rw [strEmpty_app (by omega) rfl]; omega
end Txt
end Go.Proofs.YtaepoddmonijkaaDoor
