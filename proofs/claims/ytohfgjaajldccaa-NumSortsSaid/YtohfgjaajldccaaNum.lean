/-
  Contracts of the layer 'num' and of the document's answers to it: each function, called with any numbers, returns what the document's arithmetic says (here: addV, addE and so on), and leaves the world as it was.
  Conditions: the arguments are 64-bit numbers.
-/
import Derived.Test.YtohfgjaajldccaaRows
import Derived.WalkKit
import Derived.ProofKit
import Derived.OpenShut
import Derived.BigQuiet
import Derived.Deep.QuietTactic
import Derived.Lib.Hide
import Derived.Lib.Mul64
import Derived.Lib.BitFns
import Derived.Lib.Strings
import Derived.Lib.Slices
import Derived.Lib.Small
import Derived.Lib.Walk
import Derived.Laws.Bits64b
namespace Go.Proofs.Ytohfgjaajldccaa
open Go.ChangeShapes Go.WideShapes Go.ChangeAt Go.RowKit
set_option linter.unusedVariables false
namespace Num

/-- is it a 64-bit number? -/
def inB (a : Int) : Bool := decide (-9223372036854775808 ≤ a ∧ a ≤ 9223372036854775807)
/-- the answer's number and its error, where the exact number is x -/
def valV (x : Int) : Int := if inB x then x else 0
def valE (x : Int) : Int := if inB x then 0 else 3

theorem valV_in {x : Int} (h0 : -9223372036854775808 ≤ x) (h1 : x ≤ 9223372036854775807) : valV x = x := by
  unfold valV inB; rw [if_pos (decide_eq_true ⟨h0, h1⟩)]
theorem valE_in {x : Int} (h0 : -9223372036854775808 ≤ x) (h1 : x ≤ 9223372036854775807) : valE x = 0 := by
  unfold valE inB; rw [if_pos (decide_eq_true ⟨h0, h1⟩)]
theorem valV_out {x : Int} (h : x < -9223372036854775808 ∨ 9223372036854775807 < x) : valV x = 0 := by
  unfold valV inB; rw [if_neg (by simp; omega)]
theorem valE_out {x : Int} (h : x < -9223372036854775808 ∨ 9223372036854775807 < x) : valE x = 3 := by
  unfold valE inB; rw [if_neg (by simp; omega)]
theorem valV_bd (x : Int) : -9223372036854775808 ≤ valV x ∧ valV x ≤ 9223372036854775807 := by
  by_cases h : -9223372036854775808 ≤ x ∧ x ≤ 9223372036854775807
  · rw [valV_in h.1 h.2]; exact h
  · rw [valV_out (by omega)]; omega
theorem valE_cases (x : Int) : (valE x = 0 ∧ -9223372036854775808 ≤ x ∧ x ≤ 9223372036854775807 ∧ valV x = x) ∨ (valE x = 3 ∧ (x < -9223372036854775808 ∨ 9223372036854775807 < x) ∧ valV x = 0) := by
  by_cases h : -9223372036854775808 ≤ x ∧ x ≤ 9223372036854775807
  · exact .inl ⟨valE_in h.1 h.2, h.1, h.2, valV_in h.1 h.2⟩
  · exact .inr ⟨valE_out (by omega), by omega, valV_out (by omega)⟩

theorem ret2 {a b c d : Int} (h1 : a = c) (h2 : b = d) : Ending.returned (.tuple #[.int .i64 a, .int .i64 b]) = .returned (.tuple #[.int .i64 c, .int .i64 d]) := by rw [h1, h2]

/-- num.Add -/
theorem add_any (a b : Int) (w : World) (ha : -9223372036854775808 ≤ a) (ha' : a ≤ 9223372036854775807) (hb : -9223372036854775808 ≤ b) (hb' : b ≤ 9223372036854775807) :
    Calls Try.prog 12 #[.int .i64 a, .int .i64 b] w fun e w' => e = .returned (.tuple #[.int .i64 (valV (a + b)), .int .i64 (valE (a + b))]) ∧ w = w' := by
  by_cases hi : -9223372036854775808 ≤ a + b ∧ a + b ≤ 9223372036854775807
  · obtain ⟨h0, h1⟩ := hi
    by_cases c : b < 0
    · have c2 : a + b < a := by omega
      go_enter Try.func12, Try.ntmps12
      go_wp2
      go_ret2
      exact ⟨ret2 (valV_in h0 h1).symm (valE_in h0 h1).symm, rfl⟩
    · have c2 : ¬ a + b < a := by omega
      go_enter Try.func12, Try.ntmps12
      go_wp2
      go_ret2
      exact ⟨ret2 (valV_in h0 h1).symm (valE_in h0 h1).symm, rfl⟩
  · have ho : a + b < -9223372036854775808 ∨ 9223372036854775807 < a + b := by omega
    have hw : (decide (wrap64 (a + b) < a) == decide (b < 0)) = false := by unfold wrap64; simp; omega
    have e1 := valV_out ho
    have e2 := valE_out ho
    have E1 := Lib.hid e1
    have E2 := Lib.hid e2
    clear e1 e2 hi
    go_enter Try.func12, Try.ntmps12
    go_wp2
    go_ret2
    exact ⟨ret2 E1.out.symm E2.out.symm, rfl⟩

/-- num.Sub -/
theorem sub_any (a b : Int) (w : World) (ha : -9223372036854775808 ≤ a) (ha' : a ≤ 9223372036854775807) (hb : -9223372036854775808 ≤ b) (hb' : b ≤ 9223372036854775807) :
    Calls Try.prog 14 #[.int .i64 a, .int .i64 b] w fun e w' => e = .returned (.tuple #[.int .i64 (valV (a - b)), .int .i64 (valE (a - b))]) ∧ w = w' := by
  by_cases hi : -9223372036854775808 ≤ a - b ∧ a - b ≤ 9223372036854775807
  · obtain ⟨h0, h1⟩ := hi
    by_cases c : b < 0
    · have c2 : a < a - b := by omega
      go_enter Try.func14, Try.ntmps14
      go_wp2
      go_ret2
      exact ⟨ret2 (valV_in h0 h1).symm (valE_in h0 h1).symm, rfl⟩
    · have c2 : ¬ a < a - b := by omega
      go_enter Try.func14, Try.ntmps14
      go_wp2
      go_ret2
      exact ⟨ret2 (valV_in h0 h1).symm (valE_in h0 h1).symm, rfl⟩
  · have ho : a - b < -9223372036854775808 ∨ 9223372036854775807 < a - b := by omega
    have hw : (decide (a < wrap64 (a - b)) == decide (b < 0)) = false := by unfold wrap64; simp; omega
    have E1 := Lib.hid (valV_out ho)
    have E2 := Lib.hid (valE_out ho)
    clear hi
    go_enter Try.func14, Try.ntmps14
    go_wp2
    go_ret2
    exact ⟨ret2 E1.out.symm E2.out.symm, rfl⟩

/-- the document's Add -/
theorem radd_any (a b : Int) (w : World) (ha : -9223372036854775808 ≤ a) (ha' : a ≤ 9223372036854775807) (hb : -9223372036854775808 ≤ b) (hb' : b ≤ 9223372036854775807) :
    Calls Try.prog 13 #[.int .i64 a, .int .i64 b] w fun e w' => e = .returned (.tuple #[.int .i64 (valV (a + b)), .int .i64 (valE (a + b))]) ∧ w = w' := by
  by_cases c : 0 < b
  · by_cases d : 9223372036854775807 - b < a
    · have E1 := Lib.hid (valV_out (x := a + b) (by omega))
      have E2 := Lib.hid (valE_out (x := a + b) (by omega))
      go_enter Try.func13, Try.ntmps13
      go_wp2
      go_ret2
      exact ⟨ret2 E1.out.symm E2.out.symm, rfl⟩
    · have E1 := Lib.hid (valV_in (x := a + b) (by omega) (by omega))
      have E2 := Lib.hid (valE_in (x := a + b) (by omega) (by omega))
      go_enter Try.func13, Try.ntmps13
      go_wp2
      go_ret2
      exact ⟨ret2 E1.out.symm E2.out.symm, rfl⟩
  · by_cases c' : b < 0
    · by_cases d : a < -9223372036854775808 - b
      · have E1 := Lib.hid (valV_out (x := a + b) (by omega))
        have E2 := Lib.hid (valE_out (x := a + b) (by omega))
        go_enter Try.func13, Try.ntmps13
        go_wp2
        go_ret2
        exact ⟨ret2 E1.out.symm E2.out.symm, rfl⟩
      · have E1 := Lib.hid (valV_in (x := a + b) (by omega) (by omega))
        have E2 := Lib.hid (valE_in (x := a + b) (by omega) (by omega))
        go_enter Try.func13, Try.ntmps13
        go_wp2
        go_ret2
        exact ⟨ret2 E1.out.symm E2.out.symm, rfl⟩
    · have E1 := Lib.hid (valV_in (x := a + b) (by omega) (by omega))
      have E2 := Lib.hid (valE_in (x := a + b) (by omega) (by omega))
      go_enter Try.func13, Try.ntmps13
      go_wp2
      go_ret2
      exact ⟨ret2 E1.out.symm E2.out.symm, rfl⟩

/-- the document's Sub -/
theorem rsub_any (a b : Int) (w : World) (ha : -9223372036854775808 ≤ a) (ha' : a ≤ 9223372036854775807) (hb : -9223372036854775808 ≤ b) (hb' : b ≤ 9223372036854775807) :
    Calls Try.prog 15 #[.int .i64 a, .int .i64 b] w fun e w' => e = .returned (.tuple #[.int .i64 (valV (a - b)), .int .i64 (valE (a - b))]) ∧ w = w' := by
  by_cases c : b < 0
  · by_cases d : 9223372036854775807 + b < a
    · have E1 := Lib.hid (valV_out (x := a - b) (by omega))
      have E2 := Lib.hid (valE_out (x := a - b) (by omega))
      go_enter Try.func15, Try.ntmps15
      go_wp2
      go_ret2
      exact ⟨ret2 E1.out.symm E2.out.symm, rfl⟩
    · have E1 := Lib.hid (valV_in (x := a - b) (by omega) (by omega))
      have E2 := Lib.hid (valE_in (x := a - b) (by omega) (by omega))
      go_enter Try.func15, Try.ntmps15
      go_wp2
      go_ret2
      exact ⟨ret2 E1.out.symm E2.out.symm, rfl⟩
  · by_cases c' : 0 < b
    · by_cases d : a < -9223372036854775808 + b
      · have E1 := Lib.hid (valV_out (x := a - b) (by omega))
        have E2 := Lib.hid (valE_out (x := a - b) (by omega))
        go_enter Try.func15, Try.ntmps15
        go_wp2
        go_ret2
        exact ⟨ret2 E1.out.symm E2.out.symm, rfl⟩
      · have E1 := Lib.hid (valV_in (x := a - b) (by omega) (by omega))
        have E2 := Lib.hid (valE_in (x := a - b) (by omega) (by omega))
        go_enter Try.func15, Try.ntmps15
        go_wp2
        go_ret2
        exact ⟨ret2 E1.out.symm E2.out.symm, rfl⟩
    · have E1 := Lib.hid (valV_in (x := a - b) (by omega) (by omega))
      have E2 := Lib.hid (valE_in (x := a - b) (by omega) (by omega))
      go_enter Try.func15, Try.ntmps15
      go_wp2
      go_ret2
      exact ⟨ret2 E1.out.symm E2.out.symm, rfl⟩

theorem ret1 {k : IntKind} {a b : Int} (h : a = b) : Ending.returned (.int k a) = .returned (.int k b) := by rw [h]

/-- num.size: the size of a number, without its sign -/
theorem size_any (a : Int) (w : World) (ha : -9223372036854775808 ≤ a) (ha' : a ≤ 9223372036854775807) :
    Calls Try.prog 26 #[.int .i64 a] w fun e w' => e = .returned (.int .u64 (a.natAbs : Int)) ∧ w = w' := by
  by_cases c : a < 0
  · go_enter Try.func26, Try.ntmps26
    go_wp2
    go_ret
    exact ⟨ret1 (by rw [IntKind.wrap_u64, IntKind.wrap_u64]; omega), rfl⟩
  · go_enter Try.func26, Try.ntmps26
    go_wp2
    go_ret
    exact ⟨ret1 (by omega), rfl⟩

theorem maskN (a : Nat) (ha : a < 18446744073709551616) : bits .and .u64 (a : Int) 4294967295 = ((a % 4294967296 : Nat) : Int) := by
  have h := bits_and_u64_nat a 4294967295 ha (by omega)
  have e : a &&& 4294967295 = a % 4294967296 := Nat.and_two_pow_sub_one_eq_mod a 32
  rw [e] at h
  exact h
theorem divN (a : Nat) : (a : Int) / 4294967296 = ((a / 4294967296 : Nat) : Int) := by omega
theorem mulN (a b : Nat) : (a : Int) * (b : Int) = ((a * b : Nat) : Int) := (Int.natCast_mul a b).symm
theorem addN (a b : Nat) : (a : Int) + (b : Int) = ((a + b : Nat) : Int) := (Int.natCast_add a b).symm
theorem wrapN (a : Nat) (ha : a < 18446744073709551616) : IntKind.u64.wrap (a : Int) = (a : Int) := by rw [IntKind.wrap_u64]; omega
theorem wrapM (a : Nat) : IntKind.u64.wrap (a : Int) = ((a % 18446744073709551616 : Nat) : Int) := by rw [IntKind.wrap_u64]; omega

/-- the upper and the lower word of a product -/
def hiW (x y : Nat) : Int := ((x * y / 18446744073709551616 : Nat) : Int)
def loW (x y : Nat) : Int := ((x * y % 18446744073709551616 : Nat) : Int)

set_option maxHeartbeats 1000000 in
/-- bits.Mul64 -/
theorem mul64_any (x y : Nat) (w : World) (hx : x < 18446744073709551616) (hy : y < 18446744073709551616) :
    Calls Try.prog 25 #[.int .u64 x, .int .u64 y] w fun e w' => e = .returned (.tuple #[.int .u64 (hiW x y), .int .u64 (loW x y)]) ∧ w = w' := by
  obtain ⟨bd, bt, bw, hhi⟩ := Lib.mul64_hi x y hx hy
  have ba := Lib.half_mul_le (a := x / 4294967296) (b := y / 4294967296) (by omega) (by omega)
  have bb := Lib.half_mul_le (a := x / 4294967296) (b := y % 4294967296) (by omega) (by omega)
  have bc := Lib.half_mul_le (a := x % 4294967296) (b := y / 4294967296) (by omega) (by omega)
  have ba' : x / 4294967296 * (y / 4294967296) < 18446744073709551616 := by omega
  have bb' : x / 4294967296 * (y % 4294967296) < 18446744073709551616 := by omega
  have bc' : x % 4294967296 * (y / 4294967296) < 18446744073709551616 := by omega
  have bh1 : x / 4294967296 * (y / 4294967296) + (x / 4294967296 * (y % 4294967296) + x % 4294967296 * (y % 4294967296) / 4294967296) / 4294967296 < 18446744073709551616 := by omega
  have bh : x / 4294967296 * (y / 4294967296) + (x / 4294967296 * (y % 4294967296) + x % 4294967296 * (y % 4294967296) / 4294967296) / 4294967296 + ((x / 4294967296 * (y % 4294967296) + x % 4294967296 * (y % 4294967296) / 4294967296) % 4294967296 + x % 4294967296 * (y / 4294967296)) / 4294967296 < 18446744073709551616 := by omega
  go_enter Try.func25, Try.ntmps25
  go_wp2
  simp only [maskN x hx, maskN y hy, divN, mulN, addN, wrapN _ bd, wrapN _ bb', wrapN _ bt, maskN _ bt, wrapN _ bc', wrapN _ bw, wrapN _ ba', wrapN _ bh1, wrapN _ bh, wrapM (x * y)]
  rw [hhi]
  go_ret2
  exact ⟨rfl, rfl⟩

/-- what the two words tell of the product -/
theorem words (x y : Nat) (hx : x < 18446744073709551616) (hy : y < 18446744073709551616) :
    0 ≤ hiW x y ∧ 0 ≤ loW x y ∧ loW x y < 18446744073709551616 ∧ hiW x y ≤ 18446744073709551615 ∧ ((x * y : Nat) : Int) = hiW x y * 18446744073709551616 + loW x y := by
  have h : x * y ≤ 18446744073709551615 * 18446744073709551615 := Nat.mul_le_mul (by omega) (by omega)
  unfold hiW loW
  generalize x * y = p at *
  omega

theorem natAbs_mul_int (a b : Int) : ((a.natAbs * b.natAbs : Nat) : Int) = if (decide (a < 0) == decide (b < 0)) = true then a * b else -(a * b) := by
  rw [← Int.natAbs_mul]
  by_cases h1 : a < 0 <;> by_cases h2 : b < 0
  · have := Int.mul_pos_of_neg_of_neg h1 h2; simp [h1, h2]; omega
  · have := Int.mul_nonpos_of_nonpos_of_nonneg (Int.le_of_lt h1) (show 0 ≤ b by omega); simp [h1, h2]; omega
  · have := Int.mul_nonpos_of_nonneg_of_nonpos (show 0 ≤ a by omega) (Int.le_of_lt h2); simp [h1, h2]; omega
  · have := Int.mul_nonneg (show 0 ≤ a by omega) (show 0 ≤ b by omega); simp [h1, h2]; omega

set_option maxHeartbeats 1000000 in
/-- num.Mul -/
theorem mul_any (a b : Int) (w : World) (ha : -9223372036854775808 ≤ a) (ha' : a ≤ 9223372036854775807) (hb : -9223372036854775808 ≤ b) (hb' : b ≤ 9223372036854775807) :
    Calls Try.prog 16 #[.int .i64 a, .int .i64 b] w fun e w' => e = .returned (.tuple #[.int .i64 (valV (a * b)), .int .i64 (valE (a * b))]) ∧ w = w' := by
  have hx : a.natAbs < 18446744073709551616 := by omega
  have hy : b.natAbs < 18446744073709551616 := by omega
  obtain ⟨w0, w1, w2, w3, w4⟩ := words a.natAbs b.natAbs hx hy
  rw [natAbs_mul_int] at w4
  generalize hH : hiW a.natAbs b.natAbs = H at *
  generalize hL : loW a.natAbs b.natAbs = L at *
  have ct := mul64_any a.natAbs b.natAbs w hx hy
  rw [hH, hL] at ct
  have CT := Lib.hid ct
  clear ct hH hL
  by_cases sg : (decide (a < 0) == decide (b < 0)) = true
  · rw [if_pos sg] at w4
    by_cases h0 : H = 0
    · by_cases h1 : 9223372036854775807 < L
      · have E1 := Lib.hid (valV_out (x := a * b) (by omega))
        have E2 := Lib.hid (valE_out (x := a * b) (by omega))
        clear w4
        subst h0
        go_enter Try.func16, Try.ntmps16
        go_wp2_with (first | (go_at_call 26; refine (size_any _ _ (by assumption) (by assumption)).mono ?_; rintro e w' ⟨rfl, rfl⟩) | (go_at_call 25; refine CT.out.mono ?_; rintro e w' ⟨rfl, rfl⟩))
        go_ret2
        exact ⟨ret2 E1.out.symm E2.out.symm, rfl⟩
      · have b1 : -9223372036854775808 ≤ a * b := by omega
        have b2 : a * b ≤ 9223372036854775807 := by omega
        have E1 := Lib.hid (valV_in b1 b2)
        have E2 := Lib.hid (valE_in b1 b2)
        clear w4
        subst h0
        go_enter Try.func16, Try.ntmps16
        go_wp2_with (first | (go_at_call 26; refine (size_any _ _ (by assumption) (by assumption)).mono ?_; rintro e w' ⟨rfl, rfl⟩) | (go_at_call 25; refine CT.out.mono ?_; rintro e w' ⟨rfl, rfl⟩))
        go_ret2
        exact ⟨ret2 E1.out.symm E2.out.symm, rfl⟩
    · have E1 := Lib.hid (valV_out (x := a * b) (by omega))
      have E2 := Lib.hid (valE_out (x := a * b) (by omega))
      clear w4
      go_enter Try.func16, Try.ntmps16
      go_wp2_with (first | (go_at_call 26; refine (size_any _ _ (by assumption) (by assumption)).mono ?_; rintro e w' ⟨rfl, rfl⟩) | (go_at_call 25; refine CT.out.mono ?_; rintro e w' ⟨rfl, rfl⟩))
      go_ret2
      exact ⟨ret2 E1.out.symm E2.out.symm, rfl⟩
  · rw [if_neg sg] at w4
    have sg' : (decide (a < 0) == decide (b < 0)) = false := by simpa using sg
    clear sg
    by_cases h0 : H = 0
    · by_cases h1 : 9223372036854775808 < L
      · have E1 := Lib.hid (valV_out (x := a * b) (by omega))
        have E2 := Lib.hid (valE_out (x := a * b) (by omega))
        clear w4
        subst h0
        go_enter Try.func16, Try.ntmps16
        go_wp2_with (first | (go_at_call 26; refine (size_any _ _ (by assumption) (by assumption)).mono ?_; rintro e w' ⟨rfl, rfl⟩) | (go_at_call 25; refine CT.out.mono ?_; rintro e w' ⟨rfl, rfl⟩))
        go_ret2
        exact ⟨ret2 E1.out.symm E2.out.symm, rfl⟩
      · have b1 : -9223372036854775808 ≤ a * b := by omega
        have b2 : a * b ≤ 9223372036854775807 := by omega
        have E1 := Lib.hid (valV_in b1 b2)
        have E2 := Lib.hid (valE_in b1 b2)
        clear w4
        subst h0
        go_enter Try.func16, Try.ntmps16
        go_wp2_with (first | (go_at_call 26; refine (size_any _ _ (by assumption) (by assumption)).mono ?_; rintro e w' ⟨rfl, rfl⟩) | (go_at_call 25; refine CT.out.mono ?_; rintro e w' ⟨rfl, rfl⟩))
        go_ret2
        exact ⟨ret2 E1.out.symm E2.out.symm, rfl⟩
    · have E1 := Lib.hid (valV_out (x := a * b) (by omega))
      have E2 := Lib.hid (valE_out (x := a * b) (by omega))
      clear w4
      go_enter Try.func16, Try.ntmps16
      go_wp2_with (first | (go_at_call 26; refine (size_any _ _ (by assumption) (by assumption)).mono ?_; rintro e w' ⟨rfl, rfl⟩) | (go_at_call 25; refine CT.out.mono ?_; rintro e w' ⟨rfl, rfl⟩))
      go_ret2
      exact ⟨ret2 E1.out.symm E2.out.symm, rfl⟩

end Num
end Go.Proofs.Ytohfgjaajldccaa
