/-
  Contract of the document's Mul: called with any two 64-bit numbers it returns their product, or that it goes beyond, and leaves the world as it was.
  Conditions: the arguments are 64-bit numbers.
-/
import Derived.Test.YtohfgjaajldccaaNum
namespace Go.Proofs.Ytohfgjaajldccaa
open Go.ChangeShapes Go.WideShapes Go.ChangeAt Go.RowKit
set_option linter.unusedVariables false
namespace Num

theorem div_test (m x y : Int) (hy : 1 ≤ y) : x ≤ m / y ↔ x * y ≤ m := Int.le_ediv_iff_mul_le (by omega)
theorem div_split (m x : Int) (hx : 1 ≤ x) : x * (m / x) + m % x = m ∧ 0 ≤ m % x ∧ m % x < x :=
  ⟨Int.mul_ediv_add_emod m x, Int.emod_nonneg m (by omega), Int.emod_lt_of_pos m (by omega)⟩
theorem edge (m x y : Int) (hx : 1 ≤ x) (h : y = m / x + 1) (h2 : m % x = x - 1) : x * y = m + 1 := by
  obtain ⟨a, b, c⟩ := div_split m x hx
  rw [h, Int.mul_add, Int.mul_one]; omega
theorem edge' (m x y : Int) (hx : 1 ≤ x) (h : x * y = m + 1) : y = m / x + 1 ∧ m % x = x - 1 := by
  have e : m = (x - 1) + x * (y - 1) := by rw [Int.mul_sub, Int.mul_one]; omega
  have hq : m / x = y - 1 := by
    rw [e, Int.add_mul_ediv_left _ _ (by omega), Int.ediv_eq_zero_of_lt (by omega) (by omega)]; omega
  have hr : m % x = x - 1 := by
    rw [e, Int.add_mul_emod_self_left, Int.emod_eq_of_lt (by omega) (by omega)]
  exact ⟨by omega, hr⟩
theorem quo_bd (m x : Int) (hm : 0 ≤ m) (hx : 1 ≤ x) : 0 ≤ m / x ∧ m / x ≤ m := by
  refine ⟨Int.ediv_nonneg hm (by omega), Int.ediv_le_self x hm⟩
theorem quo_bd2 (x : Int) (hx : 2 ≤ x) : 9223372036854775807 / x ≤ 4611686018427387903 := by
  obtain ⟨a, b, c⟩ := div_split 9223372036854775807 x (by omega)
  have h : 2 * (9223372036854775807 / x) ≤ x * (9223372036854775807 / x) := Int.mul_le_mul_of_nonneg_right hx (Int.ediv_nonneg (by omega) (by omega))
  omega

/-- what the walk is told of two sizes -/
theorem sizes (x y : Int) (hx : 1 ≤ x) (hy : 1 ≤ y) (hx' : x ≤ 9223372036854775807) (hy' : y ≤ 9223372036854775807) :
    (x ≤ 9223372036854775807 / y ∧ x * y ≤ 9223372036854775807 ∧ 1 ≤ x * y) ∨
    (9223372036854775807 / y < x ∧ 2 ≤ x ∧ 9223372036854775807 < x * y ∧ 0 ≤ 9223372036854775807 / x ∧ 9223372036854775807 / x ≤ 4611686018427387903 ∧
      ((y = 9223372036854775807 / x + 1 ∧ 9223372036854775807 % x = x - 1 ∧ x * y = 9223372036854775808) ∨
       (9223372036854775808 < x * y ∧ ¬ (y = 9223372036854775807 / x + 1 ∧ 9223372036854775807 % x = x - 1)))) := by
  have hp : 1 * 1 ≤ x * y := Int.mul_le_mul hx hy (by omega) (by omega)
  by_cases h : x ≤ 9223372036854775807 / y
  · exact .inl ⟨h, (div_test _ _ _ hy).1 h, by omega⟩
  · have h1 : ¬ x * y ≤ 9223372036854775807 := fun g => h ((div_test _ _ _ hy).2 g)
    have h2 : 2 ≤ x := by
      by_cases e : x = 1
      · rw [e, Int.one_mul] at h1; omega
      · omega
    refine .inr ⟨by omega, h2, by omega, (quo_bd _ _ (by omega) hx).1, quo_bd2 x h2, ?_⟩
    by_cases g : x * y = 9223372036854775808
    · exact .inl ⟨(edge' 9223372036854775807 x y hx (by omega)).1, (edge' 9223372036854775807 x y hx (by omega)).2, g⟩
    · exact .inr ⟨by omega, fun ⟨c, d⟩ => g (by rw [edge 9223372036854775807 x y hx c d]; rfl)⟩

theorem rmul_pp (x y : Int) (w : World) (ha : 2 ≤ x) (ha' : x ≤ 9223372036854775807) (hb : 2 ≤ y) (hb' : y ≤ 9223372036854775807) :
    Calls Try.prog 17 #[.int .i64 (x), .int .i64 (y)] w fun e w' => e = .returned (.tuple #[.int .i64 (valV (x * y)), .int .i64 (valE (x * y))]) ∧ w = w' := by
  rcases sizes x y (by omega) (by omega) (by omega) (by omega) with ⟨h1, h2, h3⟩ | ⟨h1, h2, h3, h4, h5, h6⟩
  · have E1 := Lib.hid (valV_in (x := x * y) (by omega) (by omega))
    have E2 := Lib.hid (valE_in (x := x * y) (by omega) (by omega))
    have z1 : ((x) == 0) = false := by simp; omega
    have z2 : ((y) == 0) = false := by simp; omega
    have z3 : ((x) == 1) = false := by simp; omega
    have z4 : ((y) == 1) = false := by simp; omega
    have z5 : ((x) == -9223372036854775808) = false := by simp; omega
    have z6 : ((y) == -9223372036854775808) = false := by simp; omega
    have s1 : decide ((x) < 0) = false := by simp; omega
    have s2 : decide ((y) < 0) = false := by simp; omega
    go_enter Try.func17, Try.ntmps17
    go_wp2
    go_ret2
    exact ⟨ret2 (by rw [E1.out]; try omega) E2.out.symm, rfl⟩
  · have E1 := Lib.hid (valV_out (x := x * y) (.inr (by omega)))
    have E2 := Lib.hid (valE_out (x := x * y) (.inr (by omega)))
    have h1' : ¬ x ≤ 9223372036854775807 / y := by omega
    clear h6 h3 h2 h1
    have z1 : ((x) == 0) = false := by simp; omega
    have z2 : ((y) == 0) = false := by simp; omega
    have z3 : ((x) == 1) = false := by simp; omega
    have z4 : ((y) == 1) = false := by simp; omega
    have z5 : ((x) == -9223372036854775808) = false := by simp; omega
    have z6 : ((y) == -9223372036854775808) = false := by simp; omega
    have s1 : decide ((x) < 0) = false := by simp; omega
    have s2 : decide ((y) < 0) = false := by simp; omega
    go_enter Try.func17, Try.ntmps17
    go_wp2
    go_ret2
    exact ⟨ret2 (by rw [E1.out]; try omega) E2.out.symm, rfl⟩
theorem rmul_nn (x y : Int) (w : World) (ha : 1 ≤ x) (ha' : x ≤ 9223372036854775807) (hb : 1 ≤ y) (hb' : y ≤ 9223372036854775807) :
    Calls Try.prog 17 #[.int .i64 (-x), .int .i64 (-y)] w fun e w' => e = .returned (.tuple #[.int .i64 (valV (x * y)), .int .i64 (valE (x * y))]) ∧ w = w' := by
  rcases sizes x y (by omega) (by omega) (by omega) (by omega) with ⟨h1, h2, h3⟩ | ⟨h1, h2, h3, h4, h5, h6⟩
  · have E1 := Lib.hid (valV_in (x := x * y) (by omega) (by omega))
    have E2 := Lib.hid (valE_in (x := x * y) (by omega) (by omega))
    have z1 : ((-x) == 0) = false := by simp; omega
    have z2 : ((-y) == 0) = false := by simp; omega
    have z3 : ((-x) == 1) = false := by simp; omega
    have z4 : ((-y) == 1) = false := by simp; omega
    have z5 : ((-x) == -9223372036854775808) = false := by simp; omega
    have z6 : ((-y) == -9223372036854775808) = false := by simp; omega
    have s1 : decide ((-x) < 0) = true := by simp; omega
    have s2 : decide ((-y) < 0) = true := by simp; omega
    go_enter Try.func17, Try.ntmps17
    go_wp2
    go_ret2
    exact ⟨ret2 (by rw [E1.out]; try omega) E2.out.symm, rfl⟩
  · have E1 := Lib.hid (valV_out (x := x * y) (.inr (by omega)))
    have E2 := Lib.hid (valE_out (x := x * y) (.inr (by omega)))
    have h1' : ¬ x ≤ 9223372036854775807 / y := by omega
    clear h6 h3 h2 h1
    have z1 : ((-x) == 0) = false := by simp; omega
    have z2 : ((-y) == 0) = false := by simp; omega
    have z3 : ((-x) == 1) = false := by simp; omega
    have z4 : ((-y) == 1) = false := by simp; omega
    have z5 : ((-x) == -9223372036854775808) = false := by simp; omega
    have z6 : ((-y) == -9223372036854775808) = false := by simp; omega
    have s1 : decide ((-x) < 0) = true := by simp; omega
    have s2 : decide ((-y) < 0) = true := by simp; omega
    go_enter Try.func17, Try.ntmps17
    go_wp2
    go_ret2
    exact ⟨ret2 (by rw [E1.out]; try omega) E2.out.symm, rfl⟩
theorem rmul_np (x y : Int) (w : World) (ha : 1 ≤ x) (ha' : x ≤ 9223372036854775807) (hb : 2 ≤ y) (hb' : y ≤ 9223372036854775807) :
    Calls Try.prog 17 #[.int .i64 (-x), .int .i64 (y)] w fun e w' => e = .returned (.tuple #[.int .i64 (valV (-(x * y))), .int .i64 (valE (-(x * y)))]) ∧ w = w' := by
  rcases sizes x y (by omega) (by omega) (by omega) (by omega) with ⟨h1, h2, h3⟩ | ⟨h1, h2, h3, h4, h5, h6⟩
  · have E1 := Lib.hid (valV_in (x := -(x * y)) (by omega) (by omega))
    have E2 := Lib.hid (valE_in (x := -(x * y)) (by omega) (by omega))
    have z1 : ((-x) == 0) = false := by simp; omega
    have z2 : ((y) == 0) = false := by simp; omega
    have z3 : ((-x) == 1) = false := by simp; omega
    have z4 : ((y) == 1) = false := by simp; omega
    have z5 : ((-x) == -9223372036854775808) = false := by simp; omega
    have z6 : ((y) == -9223372036854775808) = false := by simp; omega
    have s1 : decide ((-x) < 0) = true := by simp; omega
    have s2 : decide ((y) < 0) = false := by simp; omega
    go_enter Try.func17, Try.ntmps17
    go_wp2
    go_ret2
    exact ⟨ret2 (by rw [E1.out]; try omega) E2.out.symm, rfl⟩
  · have h1' : ¬ x ≤ 9223372036854775807 / y := by omega
    rcases h6 with ⟨k1, k2, k3⟩ | ⟨k1, k2⟩
    · have E1 := Lib.hid (valV_in (x := -(x * y)) (by omega) (by omega))
      have E2 := Lib.hid (valE_in (x := -(x * y)) (by omega) (by omega))
      have E3 : Hid (-(x * y) = -9223372036854775808) := Lib.hid (by omega)
      have t1 : (y == 9223372036854775807 / x + 1) = true := by simpa using k1
      have t2 : (9223372036854775807 % x == x - 1) = true := by simpa using k2
      clear h3 h1 k1 k2 k3
      have z1 : ((-x) == 0) = false := by simp; omega
      have z2 : ((y) == 0) = false := by simp; omega
      have z3 : ((-x) == 1) = false := by simp; omega
      have z4 : ((y) == 1) = false := by simp; omega
      have z5 : ((-x) == -9223372036854775808) = false := by simp; omega
      have z6 : ((y) == -9223372036854775808) = false := by simp; omega
      have s1 : decide ((-x) < 0) = true := by simp; omega
      have s2 : decide ((y) < 0) = false := by simp; omega
      go_enter Try.func17, Try.ntmps17
      go_wp2
      go_ret2
      exact ⟨ret2 (by rw [E1.out, E3.out]) E2.out.symm, rfl⟩
    · have E1 := Lib.hid (valV_out (x := -(x * y)) (.inl (by omega)))
      have E2 := Lib.hid (valE_out (x := -(x * y)) (.inl (by omega)))
      clear h3 h1 k1
      have z1 : ((-x) == 0) = false := by simp; omega
      have z2 : ((y) == 0) = false := by simp; omega
      have z3 : ((-x) == 1) = false := by simp; omega
      have z4 : ((y) == 1) = false := by simp; omega
      have z5 : ((-x) == -9223372036854775808) = false := by simp; omega
      have z6 : ((y) == -9223372036854775808) = false := by simp; omega
      have s1 : decide ((-x) < 0) = true := by simp; omega
      have s2 : decide ((y) < 0) = false := by simp; omega
      by_cases t1 : y = 9223372036854775807 / x + 1
      · have t2 : (9223372036854775807 % x == x - 1) = false := by simp; exact fun h => k2 ⟨t1, h⟩
        have t1' : (y == 9223372036854775807 / x + 1) = true := by simpa using t1
        clear t1 k2
        go_enter Try.func17, Try.ntmps17
        go_wp2
        go_ret2
        exact ⟨ret2 E1.out.symm E2.out.symm, rfl⟩
      · have t1' : (y == 9223372036854775807 / x + 1) = false := by simpa using t1
        clear t1 k2
        go_enter Try.func17, Try.ntmps17
        go_wp2
        go_ret2
        exact ⟨ret2 E1.out.symm E2.out.symm, rfl⟩
theorem rmul_pn (x y : Int) (w : World) (ha : 2 ≤ x) (ha' : x ≤ 9223372036854775807) (hb : 1 ≤ y) (hb' : y ≤ 9223372036854775807) :
    Calls Try.prog 17 #[.int .i64 (x), .int .i64 (-y)] w fun e w' => e = .returned (.tuple #[.int .i64 (valV (-(x * y))), .int .i64 (valE (-(x * y)))]) ∧ w = w' := by
  rcases sizes x y (by omega) (by omega) (by omega) (by omega) with ⟨h1, h2, h3⟩ | ⟨h1, h2, h3, h4, h5, h6⟩
  · have E1 := Lib.hid (valV_in (x := -(x * y)) (by omega) (by omega))
    have E2 := Lib.hid (valE_in (x := -(x * y)) (by omega) (by omega))
    have z1 : ((x) == 0) = false := by simp; omega
    have z2 : ((-y) == 0) = false := by simp; omega
    have z3 : ((x) == 1) = false := by simp; omega
    have z4 : ((-y) == 1) = false := by simp; omega
    have z5 : ((x) == -9223372036854775808) = false := by simp; omega
    have z6 : ((-y) == -9223372036854775808) = false := by simp; omega
    have s1 : decide ((x) < 0) = false := by simp; omega
    have s2 : decide ((-y) < 0) = true := by simp; omega
    go_enter Try.func17, Try.ntmps17
    go_wp2
    go_ret2
    exact ⟨ret2 (by rw [E1.out]; try omega) E2.out.symm, rfl⟩
  · have h1' : ¬ x ≤ 9223372036854775807 / y := by omega
    rcases h6 with ⟨k1, k2, k3⟩ | ⟨k1, k2⟩
    · have E1 := Lib.hid (valV_in (x := -(x * y)) (by omega) (by omega))
      have E2 := Lib.hid (valE_in (x := -(x * y)) (by omega) (by omega))
      have E3 : Hid (-(x * y) = -9223372036854775808) := Lib.hid (by omega)
      have t1 : (y == 9223372036854775807 / x + 1) = true := by simpa using k1
      have t2 : (9223372036854775807 % x == x - 1) = true := by simpa using k2
      clear h3 h1 k1 k2 k3
      have z1 : ((x) == 0) = false := by simp; omega
      have z2 : ((-y) == 0) = false := by simp; omega
      have z3 : ((x) == 1) = false := by simp; omega
      have z4 : ((-y) == 1) = false := by simp; omega
      have z5 : ((x) == -9223372036854775808) = false := by simp; omega
      have z6 : ((-y) == -9223372036854775808) = false := by simp; omega
      have s1 : decide ((x) < 0) = false := by simp; omega
      have s2 : decide ((-y) < 0) = true := by simp; omega
      go_enter Try.func17, Try.ntmps17
      go_wp2
      go_ret2
      exact ⟨ret2 (by rw [E1.out, E3.out]) E2.out.symm, rfl⟩
    · have E1 := Lib.hid (valV_out (x := -(x * y)) (.inl (by omega)))
      have E2 := Lib.hid (valE_out (x := -(x * y)) (.inl (by omega)))
      clear h3 h1 k1
      have z1 : ((x) == 0) = false := by simp; omega
      have z2 : ((-y) == 0) = false := by simp; omega
      have z3 : ((x) == 1) = false := by simp; omega
      have z4 : ((-y) == 1) = false := by simp; omega
      have z5 : ((x) == -9223372036854775808) = false := by simp; omega
      have z6 : ((-y) == -9223372036854775808) = false := by simp; omega
      have s1 : decide ((x) < 0) = false := by simp; omega
      have s2 : decide ((-y) < 0) = true := by simp; omega
      by_cases t1 : y = 9223372036854775807 / x + 1
      · have t2 : (9223372036854775807 % x == x - 1) = false := by simp; exact fun h => k2 ⟨t1, h⟩
        have t1' : (y == 9223372036854775807 / x + 1) = true := by simpa using t1
        clear t1 k2
        go_enter Try.func17, Try.ntmps17
        go_wp2
        go_ret2
        exact ⟨ret2 E1.out.symm E2.out.symm, rfl⟩
      · have t1' : (y == 9223372036854775807 / x + 1) = false := by simpa using t1
        clear t1 k2
        go_enter Try.func17, Try.ntmps17
        go_wp2
        go_ret2
        exact ⟨ret2 E1.out.symm E2.out.symm, rfl⟩
theorem rmul_0x (b : Int) (w : World)  :
    Calls Try.prog 17 #[.int .i64 0, .int .i64 b] w fun e w' => e = .returned (.tuple #[.int .i64 (0), .int .i64 0]) ∧ w = w' := by
  go_enter Try.func17, Try.ntmps17
  go_wp2
  go_ret2
  exact ⟨rfl, rfl⟩
theorem rmul_x0 (a : Int) (w : World) (h : ¬ a = 0) :
    Calls Try.prog 17 #[.int .i64 a, .int .i64 0] w fun e w' => e = .returned (.tuple #[.int .i64 (0), .int .i64 0]) ∧ w = w' := by
  go_enter Try.func17, Try.ntmps17
  go_wp2
  go_ret2
  exact ⟨rfl, rfl⟩
theorem rmul_1x (b : Int) (w : World) (h : ¬ b = 0) :
    Calls Try.prog 17 #[.int .i64 1, .int .i64 b] w fun e w' => e = .returned (.tuple #[.int .i64 (b), .int .i64 0]) ∧ w = w' := by
  go_enter Try.func17, Try.ntmps17
  go_wp2
  go_ret2
  exact ⟨rfl, rfl⟩
theorem rmul_x1 (a : Int) (w : World) (h : ¬ a = 0) (h1 : ¬ a = 1) :
    Calls Try.prog 17 #[.int .i64 a, .int .i64 1] w fun e w' => e = .returned (.tuple #[.int .i64 (a), .int .i64 0]) ∧ w = w' := by
  go_enter Try.func17, Try.ntmps17
  go_wp2
  go_ret2
  exact ⟨rfl, rfl⟩
theorem rmul_mx (b : Int) (w : World) (h : ¬ b = 0) (h1 : ¬ b = 1) :
    Calls Try.prog 17 #[.int .i64 (-9223372036854775808), .int .i64 b] w fun e w' => e = .returned (.tuple #[.int .i64 (0), .int .i64 3]) ∧ w = w' := by
  go_enter Try.func17, Try.ntmps17
  go_wp2
  go_ret2
  exact ⟨rfl, rfl⟩
theorem rmul_xm (a : Int) (w : World) (h : ¬ a = 0) (h1 : ¬ a = 1) (h2 : ¬ a = -9223372036854775808) :
    Calls Try.prog 17 #[.int .i64 a, .int .i64 (-9223372036854775808)] w fun e w' => e = .returned (.tuple #[.int .i64 (0), .int .i64 3]) ∧ w = w' := by
  have z : (a == -9223372036854775808) = false := by simp; omega
  go_enter Try.func17, Try.ntmps17
  go_wp2
  go_ret2
  exact ⟨rfl, rfl⟩

theorem back {x y a b : Int} (h : x = a) (h2 : y = b) : Ending.returned (.tuple #[.int .i64 x, .int .i64 y]) = .returned (.tuple #[.int .i64 a, .int .i64 b]) := by rw [h, h2]
/-- the document's Mul -/
theorem rmul_any (a b : Int) (w : World) (ha : -9223372036854775808 ≤ a) (ha' : a ≤ 9223372036854775807) (hb : -9223372036854775808 ≤ b) (hb' : b ≤ 9223372036854775807) :
    Calls Try.prog 17 #[.int .i64 a, .int .i64 b] w fun e w' => e = .returned (.tuple #[.int .i64 (valV (a * b)), .int .i64 (valE (a * b))]) ∧ w = w' := by
  by_cases c1 : a = 0
  · subst c1
    rw [Int.zero_mul]
    exact (rmul_0x b w).mono fun e w' ⟨h1, h2⟩ => ⟨h1.trans (back (valV_in (by omega) (by omega)).symm (valE_in (by omega) (by omega)).symm), h2⟩
  by_cases c2 : b = 0
  · subst c2
    rw [Int.mul_zero]
    exact (rmul_x0 a w c1).mono fun e w' ⟨h1, h2⟩ => ⟨h1.trans (back (valV_in (by omega) (by omega)).symm (valE_in (by omega) (by omega)).symm), h2⟩
  by_cases c3 : a = 1
  · subst c3
    rw [Int.one_mul]
    exact (rmul_1x b w c2).mono fun e w' ⟨h1, h2⟩ => ⟨h1.trans (back (valV_in (by omega) (by omega)).symm (valE_in (by omega) (by omega)).symm), h2⟩
  by_cases c4 : b = 1
  · subst c4
    rw [Int.mul_one]
    exact (rmul_x1 a w c1 c3).mono fun e w' ⟨h1, h2⟩ => ⟨h1.trans (back (valV_in (by omega) (by omega)).symm (valE_in (by omega) (by omega)).symm), h2⟩
  by_cases c5 : a = -9223372036854775808
  · subst c5
    exact (rmul_mx b w c2 c4).mono fun e w' ⟨h1, h2⟩ => ⟨h1.trans (back (valV_out (by omega)).symm (valE_out (by omega)).symm), h2⟩
  by_cases c6 : b = -9223372036854775808
  · subst c6
    exact (rmul_xm a w c1 c3 c5).mono fun e w' ⟨h1, h2⟩ => ⟨h1.trans (back (valV_out (by omega)).symm (valE_out (by omega)).symm), h2⟩
  by_cases d1 : a < 0
  · obtain ⟨x, rfl⟩ : ∃ x, a = -x := ⟨-a, by omega⟩
    by_cases d2 : b < 0
    · obtain ⟨y, rfl⟩ : ∃ y, b = -y := ⟨-b, by omega⟩
      rw [Int.neg_mul_neg]
      exact rmul_nn x y w (by omega) (by omega) (by omega) (by omega)
    · rw [Int.neg_mul]
      exact rmul_np x b w (by omega) (by omega) (by omega) (by omega)
  · by_cases d2 : b < 0
    · obtain ⟨y, rfl⟩ : ∃ y, b = -y := ⟨-b, by omega⟩
      rw [Int.mul_neg]
      exact rmul_pn a y w (by omega) (by omega) (by omega) (by omega)
    · exact rmul_pp a b w (by omega) (by omega) (by omega) (by omega)
end Num
end Go.Proofs.Ytohfgjaajldccaa
