/-
  Contracts of num.Sum and of the document's Sum: called with any row of numbers each returns the row's sum, or that it goes beyond; nothing that was there is changed.
  Conditions: the row reads as 64-bit numbers.
-/
import Derived.Test.YtohfgjaajldccaaNum
import Derived.Defers
import Derived.Recover
import Derived.Below
import Derived.ChangeOld
import Derived.ShutString
namespace Go.Proofs.Ytohfgjaajldccaa
open Go.ChangeShapes Go.WideShapes Go.ChangeAt Go.RowKit
set_option linter.unusedVariables false
namespace Num

/-- the sum of a row, added one behind the other onto s: the sum and the error -/
def sumV : Int → List Int → Int
  | s, [] => s
  | s, x :: r => if inB (s + x) then sumV (s + x) r else 0
def sumE : Int → List Int → Int
  | _, [] => 0
  | s, x :: r => if inB (s + x) then sumE (s + x) r else 3

/-- a row of elements in memory: the first 'zs.length' cells from the address on -/
def Row (w : World) (a : Option Addr) (zs : List Int) : Prop :=
  (zs = [] ∨ ∃ b off, a = some ⟨b, off, none⟩ ∧ ∀ i, i < zs.length → w.cell? ⟨b, off + i, none⟩ = some (.int .i64 (zs.getD i 0))) ∧
  (zs.length ≤ 9223372036854775807) ∧ (∀ n ∈ zs, -9223372036854775808 ≤ n ∧ n ≤ 9223372036854775807)

theorem mustAdd_ok (a b : Int) (w : World) (ha : -9223372036854775808 ≤ a) (ha' : a ≤ 9223372036854775807) (hb : -9223372036854775808 ≤ b) (hb' : b ≤ 9223372036854775807)
    (h0 : -9223372036854775808 ≤ a + b) (h1 : a + b ≤ 9223372036854775807) :
    Calls Try.prog 30 #[.int .i64 a, .int .i64 b] w fun e w' => e = .returned (.int .i64 (a + b)) ∧ w = w' := by
  have ct := add_any a b w ha ha' hb hb'
  rw [valV_in h0 h1, valE_in h0 h1] at ct
  have CT := Lib.hid ct
  clear ct
  go_enter Try.func30, Try.ntmps30
  go_wp2_with (go_at_call 12; refine CT.out.mono ?_; rintro e w' ⟨rfl, rfl⟩)
  go_ret
  exact ⟨rfl, rfl⟩
theorem mustAdd_no (a b : Int) (w : World) (ha : -9223372036854775808 ≤ a) (ha' : a ≤ 9223372036854775807) (hb : -9223372036854775808 ≤ b) (hb' : b ≤ 9223372036854775807)
    (h : a + b < -9223372036854775808 ∨ 9223372036854775807 < a + b) :
    Calls Try.prog 30 #[.int .i64 a, .int .i64 b] w fun e w' => e = .panicked [{ v := .iface 24 (.int .i64 3), recovered := false }] ∧ w = w' := by
  have ct := add_any a b w ha ha' hb hb'
  rw [valV_out h, valE_out h] at ct
  have CT := Lib.hid ct
  clear ct h
  go_enter Try.func30, Try.ntmps30
  go_wp2_with (go_at_call 12; refine CT.out.mono ?_; rintro e w' ⟨rfl, rfl⟩)
  exact ⟨rfl, rfl, rfl⟩

theorem take_snoc (zs : List Int) (k : Nat) (h : k < zs.length) : zs.take (k + 1) = zs.take k ++ [zs.getD k 0] := by
  rw [List.take_succ_eq_append_getElem h]; simp [List.getD, h]
theorem sumV_append (s : Int) (a b : List Int) (h : sumE s a = 0) : sumV s (a ++ b) = sumV (sumV s a) b ∧ sumE s (a ++ b) = sumE (sumV s a) b := by
  induction a generalizing s with
  | nil => exact ⟨rfl, rfl⟩
  | cons x r ih =>
    simp only [List.cons_append, sumV, sumE] at h ⊢
    by_cases c : inB (s + x) = true
    · rw [if_pos c] at h; simp only [if_pos c]; exact ih _ h
    · rw [if_neg c] at h; omega
theorem sumE_append (s : Int) (a b : List Int) (h : sumE s a = 3) : sumV s (a ++ b) = 0 ∧ sumE s (a ++ b) = 3 := by
  induction a generalizing s with
  | nil => simp [sumE] at h
  | cons x r ih =>
    simp only [List.cons_append, sumV, sumE] at h ⊢
    by_cases c : inB (s + x) = true
    · rw [if_pos c] at h; simp only [if_pos c]; exact ih _ h
    · rw [if_neg c, if_neg c]; exact ⟨rfl, rfl⟩
theorem sumE_cases (s : Int) (a : List Int) : sumE s a = 0 ∨ sumE s a = 3 := by
  induction a generalizing s with
  | nil => exact .inl rfl
  | cons x r ih =>
    simp only [sumE]
    by_cases c : inB (s + x) = true
    · simp only [if_pos c]; exact ih _
    · simp only [if_neg c]; exact .inr trivial
theorem inB_iff (x : Int) : inB x = true ↔ -9223372036854775808 ≤ x ∧ x ≤ 9223372036854775807 := by unfold inB; simp
theorem sumV_bd (s : Int) (a : List Int) (h0 : -9223372036854775808 ≤ s) (h1 : s ≤ 9223372036854775807) : -9223372036854775808 ≤ sumV s a ∧ sumV s a ≤ 9223372036854775807 := by
  induction a generalizing s with
  | nil => exact ⟨h0, h1⟩
  | cons x r ih =>
    simp only [sumV]
    by_cases c : inB (s + x) = true
    · simp only [if_pos c]; exact ih _ ((inB_iff _).1 c).1 ((inB_iff _).1 c).2
    · simp only [if_neg c]; omega
/-- what the sum up to k, and one element more, come to -/
theorem step_ok (zs : List Int) (k : Nat) (h : k < zs.length) (e : sumE 0 (zs.take k) = 0) (b : -9223372036854775808 ≤ sumV 0 (zs.take k) + zs.getD k 0 ∧ sumV 0 (zs.take k) + zs.getD k 0 ≤ 9223372036854775807) :
    sumE 0 (zs.take (k + 1)) = 0 ∧ sumV 0 (zs.take (k + 1)) = sumV 0 (zs.take k) + zs.getD k 0 := by
  rw [take_snoc zs k h]
  obtain ⟨a1, a2⟩ := sumV_append 0 (zs.take k) [zs.getD k 0] e
  rw [a1, a2]
  have c := (inB_iff _).2 b
  simp only [sumV, sumE]
  rw [if_pos c, if_pos c]; exact ⟨rfl, rfl⟩
theorem step_no (zs : List Int) (k : Nat) (h : k < zs.length) (e : sumE 0 (zs.take k) = 0) (b : ¬ (-9223372036854775808 ≤ sumV 0 (zs.take k) + zs.getD k 0 ∧ sumV 0 (zs.take k) + zs.getD k 0 ≤ 9223372036854775807)) :
    sumE 0 zs = 3 ∧ sumV 0 zs = 0 := by
  have h1 : sumE 0 (zs.take (k + 1)) = 3 := by
    rw [take_snoc zs k h]
    obtain ⟨a1, a2⟩ := sumV_append 0 (zs.take k) [zs.getD k 0] e
    rw [a2]
    have : ¬ inB (sumV 0 (zs.take k) + zs.getD k 0) = true := fun c => b ((inB_iff _).1 c)
    simp only [sumE]
    rw [if_neg this]
  have := sumE_append 0 (zs.take (k + 1)) (zs.drop (k + 1)) h1
  rw [List.take_append_drop] at this
  exact ⟨this.2, this.1⟩

theorem pan {x y : Int} (h : x = y) : x = y := h
/-- num.row: where the sum stays in bounds -/
theorem row_ok (a : Option Addr) (zs : List Int) (cap : Nat) (w : World) (hr : Row w a zs) (he : sumE 0 zs = 0) :
    Calls Try.prog 28 #[.slice a zs.length cap] w fun e w' => e = .returned (.int .i64 (sumV 0 zs)) ∧ w = w' := by
  obtain ⟨hc, hl, hz⟩ := hr
  have HE := Lib.hid he
  clear he
  rcases hc with rfl | ⟨b, off, rfl, hc⟩
  · go_enter Try.func28, Try.ntmps28
    go_wp2
    go_loop [3, 8] (fun s i => s = .int .i64 0 ∧ i = .int .i64 0) (fun _ _ => 0)
    case atStart => exact ⟨rfl, rfl⟩
    case round =>
      obtain ⟨rfl, rfl⟩ := hrel
      go_wp2
      go_ret
      exact ⟨rfl, rfl⟩
  · have HC := Lib.hid hc
    have HZ := Lib.hid hz
    clear hc hz
    go_enter Try.func28, Try.ntmps28
    go_wp2
    go_loop [3, 8] (fun s i => ∃ k : Nat, k ≤ zs.length ∧ i = .int .i64 k ∧ s = .int .i64 (sumV 0 (zs.take k)) ∧ Hid (sumE 0 (zs.take k) = 0)) (fun _ i => zs.length - (intOf i).toNat)
    case atStart => exact ⟨0, Nat.zero_le _, rfl, by simp [sumV], Lib.hid rfl⟩
    case round =>
      obtain ⟨k, hk, rfl, rfl, HK⟩ := hrel
      by_cases hlt : k < zs.length
      · have hcell := HC.out k hlt
        have hb := sumV_bd 0 (zs.take k) (by omega) (by omega)
        have hzk : zs.getD k 0 ∈ zs := by simp [List.getD, hlt]
        have hzb := HZ.out _ hzk
        have hin : -9223372036854775808 ≤ sumV 0 (zs.take k) + zs.getD k 0 ∧ sumV 0 (zs.take k) + zs.getD k 0 ≤ 9223372036854775807 := by
          by_cases c : -9223372036854775808 ≤ sumV 0 (zs.take k) + zs.getD k 0 ∧ sumV 0 (zs.take k) + zs.getD k 0 ≤ 9223372036854775807
          · exact c
          · have := (step_no zs k hlt HK.out c).1; have := HE.out; omega
        have HS := Lib.hid (step_ok zs k hlt HK.out hin)
        generalize hgz : zs.getD k 0 = z at *
        generalize hgs : sumV 0 (zs.take k) = s at *
        have HGZ := Lib.hid hgz
        have HGS := Lib.hid hgs
        clear hgz hgs hzk
        have CT := Lib.hid (mustAdd_ok s z w (by omega) (by omega) (by omega) (by omega) (by omega) (by omega))
        go_wp2_with (go_at_call 30; refine CT.out.mono ?_; rintro e w' ⟨rfl, rfl⟩)
        go_round
        case rel => exact ⟨k + 1, by omega, by go_num, by rw [HS.out.2], Lib.hid HS.out.1⟩
        case measure => simp [intOf]; omega
      · have : k = zs.length := by omega
        subst this
        go_wp2
        go_ret
        exact ⟨rfl, rfl⟩
/-- num.row: where the sum goes beyond -/
theorem row_no (a : Option Addr) (zs : List Int) (cap : Nat) (w : World) (hr : Row w a zs) (he : sumE 0 zs = 3) :
    Calls Try.prog 28 #[.slice a zs.length cap] w fun e w' => e = .panicked [{ v := .iface 24 (.int .i64 3), recovered := false }] ∧ w = w' := by
  obtain ⟨hc, hl, hz⟩ := hr
  rcases hc with rfl | ⟨b, off, rfl, hc⟩
  · simp [sumE] at he
  · have HE := Lib.hid he
    have HC := Lib.hid hc
    have HZ := Lib.hid hz
    clear hc hz he
    go_enter Try.func28, Try.ntmps28
    go_wp2
    go_loop [3, 8] (fun s i => ∃ k : Nat, k ≤ zs.length ∧ i = .int .i64 k ∧ s = .int .i64 (sumV 0 (zs.take k)) ∧ Hid (sumE 0 (zs.take k) = 0)) (fun _ i => zs.length - (intOf i).toNat)
    case atStart => exact ⟨0, Nat.zero_le _, rfl, by simp [sumV], Lib.hid rfl⟩
    case round =>
      obtain ⟨k, hk, rfl, rfl, HK⟩ := hrel
      by_cases hlt : k < zs.length
      · have hcell := HC.out k hlt
        have hb := sumV_bd 0 (zs.take k) (by omega) (by omega)
        have hzk : zs.getD k 0 ∈ zs := by simp [List.getD, hlt]
        have hzb := HZ.out _ hzk
        by_cases hin : -9223372036854775808 ≤ sumV 0 (zs.take k) + zs.getD k 0 ∧ sumV 0 (zs.take k) + zs.getD k 0 ≤ 9223372036854775807
        · have HS := Lib.hid (step_ok zs k hlt HK.out hin)
          generalize hgz : zs.getD k 0 = z at *
          generalize hgs : sumV 0 (zs.take k) = s at *
          have HGZ := Lib.hid hgz
          have HGS := Lib.hid hgs
          clear hgz hgs hzk
          have CT := Lib.hid (mustAdd_ok s z w (by omega) (by omega) (by omega) (by omega) (by omega) (by omega))
          go_wp2_with (go_at_call 30; refine CT.out.mono ?_; rintro e w' ⟨rfl, rfl⟩)
          go_round
          case rel => exact ⟨k + 1, by omega, by go_num, by rw [HS.out.2], Lib.hid HS.out.1⟩
          case measure => simp [intOf]; omega
        · generalize hgz : zs.getD k 0 = z at *
          generalize hgs : sumV 0 (zs.take k) = s at *
          have HGZ := Lib.hid hgz
          have HGS := Lib.hid hgs
          clear hgz hgs hzk
          have CT := Lib.hid (mustAdd_no s z w (by omega) (by omega) (by omega) (by omega) (by omega))
          clear hin
          go_wp2_with (go_at_call 30; refine CT.out.mono ?_; rintro e w' ⟨rfl, rfl⟩)

          exact ⟨rfl, rfl, rfl⟩
      · exfalso
        have : k = zs.length := by omega
        subst this
        have h1 := HK.out
        have h2 := HE.out
        rw [List.take_length] at h1
        omega
end Num
end Go.Proofs.Ytohfgjaajldccaa
