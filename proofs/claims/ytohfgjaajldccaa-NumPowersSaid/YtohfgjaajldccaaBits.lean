/-
  Contracts of num.Log and num.Floor, and of the document's answers to them: each returns the power of two that the document names, and leaves the world as it was.
  Conditions: the argument is a 64-bit number.
-/
import Derived.Test.YtohfgjaajldccaaNum
import Derived.Lib.ItoaNum
import Derived.Deep.Light
namespace Go.Proofs.Ytohfgjaajldccaa
open Go.ChangeShapes Go.WideShapes Go.ChangeAt Go.RowKit
set_option linter.unusedVariables false
namespace Num

/-- how many bits a number has -/
def lenF (n : Nat) : Nat := Lib.bitLen n
theorem lenF_zero : lenF 0 = 0 := by unfold lenF Lib.bitLen; exact Lib.bitLenAux_zero 64
theorem lenF_bounds (n : Nat) (h : n < 18446744073709551616) (h0 : n ≠ 0) : 1 ≤ lenF n ∧ 2 ^ (lenF n - 1) ≤ n ∧ n < 2 ^ lenF n :=
  Lib.bitLenAux_bounds 64 n h h0
theorem lenF_le (n k : Nat) (hk : k ≤ 64) (h : n < 2 ^ k) : lenF n ≤ k := Lib.bitLen_le n k hk h

set_option maxRecDepth 100000 in
theorem tab_size : (Lib.len8tab.size : Int) = 256 := by
  have : Lib.len8tab.size = 256 := by decide
  omega
theorem wrap_add (k a b : Nat) (hk : k ≤ 56) (ha : a ≤ 8) (hb : b = k + a) : wrap64 ((k : Int) + wrap64 (a : Int)) = (b : Int) := by
  unfold wrap64
  omega
theorem wrap_wrap (a : Nat) (ha : a ≤ 8) : wrap64 (wrap64 (a : Int)) = (a : Int) := by
  unfold wrap64
  omega
theorem len8_get (y : Int) (h : y.toNat < Lib.len8tab.size) : ((Lib.len8tab[y.toNat]'h).toNat : Int) = Lib.len8 y := by
  unfold Lib.len8
  rw [getElem?_pos Lib.len8tab y.toNat h]
  rfl
theorem shift8 (x : Nat) (h : 2 ^ 8 ≤ x) (hx : x < 2 ^ 64) : Lib.bitLen x = 8 + Lib.bitLen (x / 2 ^ 8) := Lib.bitLen_shift 8 x h hx

set_option maxHeartbeats 32000000 in
set_option maxRecDepth 1000000 in
/-- bits.Len64 -/
theorem len64_any (x : Int) (w : World) (h0 : 0 ≤ x) (h1 : x ≤ 18446744073709551615) :
    Calls Try.prog 29 #[.int .u64 x] w fun e w' => e = .returned (.int .i64 (lenF x.toNat)) ∧ w = w' := by
  unfold lenF
  go_enter Try.func29, Try.ntmps29
  go_wp2
  all_goals first
    | (go_ret; refine ⟨congrArg Ending.returned (congrArg (Value.int IntKind.i64) ?_), rfl⟩; go_light)
    | (exfalso
       go_light
       have hs := tab_size
       omega)
  all_goals first
    | (rw [len8_get (x / 4294967296 / 65536 / 256) _, Lib.len8_of (x / 4294967296 / 65536 / 256) (by omega) (by omega)]
       have e : (x / 4294967296 / 65536 / 256).toNat = x.toNat / 72057594037927936 := by omega
       have l := Lib.bitLen_le8' (x / 4294967296 / 65536 / 256) (by omega) (by omega)
       have s := Lib.bitLen_shift56 x.toNat (by omega) (by omega)
       rw [e] at l ⊢
       exact wrap_add 56 _ _ (by decide) l s)
    | (rw [len8_get (x / 4294967296 / 65536) _, Lib.len8_of (x / 4294967296 / 65536) (by omega) (by omega)]
       have e : (x / 4294967296 / 65536).toNat = x.toNat / 281474976710656 := by omega
       have l := Lib.bitLen_le8' (x / 4294967296 / 65536) (by omega) (by omega)
       have s := Lib.bitLen_shift48 x.toNat (by omega) (by omega)
       rw [e] at l ⊢
       exact wrap_add 48 _ _ (by decide) l s)
    | (rw [len8_get (x / 4294967296 / 256) _, Lib.len8_of (x / 4294967296 / 256) (by omega) (by omega)]
       have e : (x / 4294967296 / 256).toNat = x.toNat / 1099511627776 := by omega
       have l := Lib.bitLen_le8' (x / 4294967296 / 256) (by omega) (by omega)
       have s := Lib.bitLen_shift40 x.toNat (by omega) (by omega)
       rw [e] at l ⊢
       exact wrap_add 40 _ _ (by decide) l s)
    | (rw [len8_get (x / 4294967296) _, Lib.len8_of (x / 4294967296) (by omega) (by omega)]
       have e : (x / 4294967296).toNat = x.toNat / 4294967296 := by omega
       have l := Lib.bitLen_le8' (x / 4294967296) (by omega) (by omega)
       have s := Lib.bitLen_shift32 x.toNat (by omega) (by omega)
       rw [e] at l ⊢
       exact wrap_add 32 _ _ (by decide) l s)
    | (rw [len8_get (x / 65536 / 256) _, Lib.len8_of (x / 65536 / 256) (by omega) (by omega)]
       have e : (x / 65536 / 256).toNat = x.toNat / 16777216 := by omega
       have l := Lib.bitLen_le8' (x / 65536 / 256) (by omega) (by omega)
       have s := Lib.bitLen_shift24 x.toNat (by omega) (by omega)
       rw [e] at l ⊢
       exact wrap_add 24 _ _ (by decide) l s)
    | (rw [len8_get (x / 65536) _, Lib.len8_of (x / 65536) (by omega) (by omega)]
       have e : (x / 65536).toNat = x.toNat / 65536 := by omega
       have l := Lib.bitLen_le8' (x / 65536) (by omega) (by omega)
       have s := Lib.bitLen_shift16 x.toNat (by omega) (by omega)
       rw [e] at l ⊢
       exact wrap_add 16 _ _ (by decide) l s)
    | (rw [len8_get (x / 256) _, Lib.len8_of (x / 256) (by omega) (by omega)]
       have e : (x / 256).toNat = x.toNat / 256 := by omega
       have l := Lib.bitLen_le8' (x / 256) (by omega) (by omega)
       have s := Lib.bitLen_shift8 x.toNat (by omega) (by omega)
       rw [e] at l ⊢
       exact wrap_add 8 _ _ (by decide) l s)
    | (rw [len8_get x _, Lib.len8_of x (by omega) (by omega)]
       have l := Lib.bitLen_le8' x (by omega) (by omega)
       exact wrap_wrap _ l)

/-- the least power of two that is no less -/
def logF (n : Int) : Int := if n < 2 then 0 else (lenF (n - 1).toNat : Int)
/-- the greatest power of two that is no more -/
def floorF (n : Int) : Int := if n < 1 then 0 else 2 ^ (lenF n.toNat - 1)

theorem logF_lo {n : Int} (h : n < 2) : logF n = 0 := by unfold logF; rw [if_pos h]
theorem floorF_lo {n : Int} (h : n < 1) : floorF n = 0 := by unfold floorF; rw [if_pos h]
theorem pc (k : Nat) : (((2 : Nat) ^ k : Nat) : Int) = (2 : Int) ^ k := Int.natCast_pow 2 k
/-- the least power of two that is no less, told by its two sides -/
theorem logF_spec (n : Int) (h0 : 2 ≤ n) (h1 : n ≤ 9223372036854775807) : ∃ k : Nat, logF n = k ∧ 1 ≤ k ∧ k ≤ 63 ∧ n ≤ 2 ^ k ∧ 2 ^ (k - 1) < n := by
  refine ⟨lenF (n - 1).toNat, by unfold logF; rw [if_neg (by omega)], ?_⟩
  obtain ⟨b1, b2, b3⟩ := lenF_bounds (n - 1).toNat (by omega) (by omega)
  have b4 := lenF_le (n - 1).toNat 63 (by omega) (by omega)
  generalize lenF (n - 1).toNat = L at *
  have e1 := pc L
  have e2 := pc (L - 1)
  generalize (2 : Nat) ^ L = p1 at *
  generalize (2 : Nat) ^ (L - 1) = p2 at *
  refine ⟨b1, b4, by omega, by omega⟩
theorem floorF_spec (n : Int) (h0 : 1 ≤ n) (h1 : n ≤ 9223372036854775807) : ∃ k : Nat, floorF n = 2 ^ k ∧ lenF n.toNat = k + 1 ∧ k ≤ 62 ∧ (2 : Int) ^ k ≤ n ∧ n < 2 ^ (k + 1) := by
  obtain ⟨b1, b2, b3⟩ := lenF_bounds n.toNat (by omega) (by omega)
  have b4 := lenF_le n.toNat 63 (by omega) (by omega)
  refine ⟨lenF n.toNat - 1, by unfold floorF; rw [if_neg (by omega)], by omega, by omega, ?_⟩
  obtain ⟨L, hL⟩ : ∃ L, lenF n.toNat = L + 1 := ⟨lenF n.toNat - 1, by omega⟩
  rw [hL] at b1 b2 b3 b4 ⊢
  rw [Nat.add_sub_cancel] at b2 ⊢
  have e1 := pc L
  have e2 := pc (L + 1)
  generalize (2 : Nat) ^ L = p1 at *
  generalize (2 : Nat) ^ (L + 1) = p2 at *
  refine ⟨by omega, by omega⟩
theorem pow_le62 (k : Nat) (h : k ≤ 62) : (1 : Int) ≤ 2 ^ k ∧ (2 : Int) ^ k ≤ 4611686018427387904 := by
  have h1 : (2 : Nat) ^ k ≤ 2 ^ 62 := Nat.pow_le_pow_right (by omega) h
  have h2 : 1 ≤ (2 : Nat) ^ k := Nat.one_le_two_pow
  have h3 : (((2 : Nat) ^ k : Nat) : Int) = (2 : Int) ^ k := Int.natCast_pow 2 k
  omega

theorem log_any (n : Int) (w : World) (h0 : -9223372036854775808 ≤ n) (h1 : n ≤ 9223372036854775807) :
    Calls Try.prog 20 #[.int .i64 n] w fun e w' => e = .returned (.int .i64 (logF n)) ∧ w = w' := by
  by_cases c : n < 2
  · have E := Lib.hid (logF_lo c)
    go_enter Try.func20, Try.ntmps20
    go_wp2
    go_ret
    exact ⟨ret1 E.out.symm, rfl⟩
  · have E := Lib.hid (show logF n = (lenF (n.toNat - 1) : Int) by unfold logF; rw [if_neg c]; congr 2; omega)
    go_enter Try.func20, Try.ntmps20
    go_wp2_with (go_at_call 29; refine (len64_any _ _ (by omega) (by omega)).mono ?_; rintro e w' ⟨rfl, rfl⟩)
    go_ret
    exact ⟨ret1 E.out.symm, rfl⟩

theorem floor_any (n : Int) (w : World) (h0 : -9223372036854775808 ≤ n) (h1 : n ≤ 9223372036854775807) :
    Calls Try.prog 22 #[.int .i64 n] w fun e w' => e = .returned (.int .i64 (floorF n)) ∧ w = w' := by
  by_cases c : n < 1
  · have E := Lib.hid (floorF_lo c)
    go_enter Try.func22, Try.ntmps22
    go_wp2
    go_ret
    exact ⟨ret1 E.out.symm, rfl⟩
  · obtain ⟨k, k1, k2, k3, k4, k5⟩ := floorF_spec n (by omega) h1
    obtain ⟨p1, p2⟩ := pow_le62 k k3
    have ct := len64_any n w (by omega) (by omega)
    rw [k2] at ct
    have CT := Lib.hid ct
    have E := Lib.hid k1
    clear ct k1 k2 k4 k5
    go_enter Try.func22, Try.ntmps22
    go_wp2_with (go_at_call 29; refine CT.out.mono ?_; rintro e w' ⟨rfl, rfl⟩)
    go_ret
    exact ⟨ret1 E.out.symm, rfl⟩
theorem pow_mono {a b : Nat} (h : a ≤ b) : (2 : Int) ^ a ≤ 2 ^ b := by
  have := Nat.pow_le_pow_right (n := 2) (by omega) h
  have e1 := pc a
  have e2 := pc b
  generalize (2 : Nat) ^ a = p1 at *
  generalize (2 : Nat) ^ b = p2 at *
  omega
theorem pow_lt {a b : Nat} (h : (2 : Int) ^ a < 2 ^ b) : a < b := by
  by_cases c : a < b
  · exact c
  · have := pow_mono (a := b) (b := a) (by omega); omega
theorem logF_is (n : Int) (k : Nat) (h1 : n ≤ 9223372036854775807) (hk : k ≤ 63) (lo : k = 0 ∨ (2 : Int) ^ (k - 1) < n) (hi : k = 63 ∨ n ≤ 2 ^ k) : logF n = k := by
  by_cases c : n < 2
  · rw [logF_lo c]
    rcases lo with rfl | lo
    · rfl
    · have := pow_mono (a := 0) (b := k - 1) (by omega)
      rw [Int.pow_zero] at this; omega
  · obtain ⟨j, j1, j2, j3, j4, j5⟩ := logF_spec n (by omega) h1
    rw [j1]
    have a1 : j ≤ k := by
      by_cases d : k = 63
      · omega
      · have h := pow_lt (a := j - 1) (b := k) (by omega); omega
    have a2 : k ≤ j := by
      by_cases d : k = 0
      · omega
      · have h := pow_lt (a := k - 1) (b := j) (by omega); omega
    omega

/-- the document's Log -/
theorem rlog_any (n : Int) (w : World) (h0 : -9223372036854775808 ≤ n) (h1 : n ≤ 9223372036854775807) :
    Calls Try.prog 21 #[.int .i64 n] w fun e w' => e = .returned (.int .i64 (logF n)) ∧ w = w' := by
  go_enter Try.func21, Try.ntmps21
  go_wp2
  go_loop [3] (fun i => ∃ k : Nat, k ≤ 63 ∧ (k = 0 ∨ (2 : Int) ^ (k - 1) < n) ∧ i = .int .i64 k) (fun i => 63 - (intOf i).toNat)
  case atStart => exact ⟨0, by omega, .inl rfl, rfl⟩
  case round =>
    obtain ⟨k, hk, lo, rfl⟩ := hrel
    have LO := Lib.hid lo
    clear lo
    by_cases c : k < 63
    · obtain ⟨p1, p2⟩ := pow_le62 k (by omega)
      by_cases d : (2 : Int) ^ k < n
      · have D := Lib.hid d
        go_wp2
        go_round
        case rel => exact ⟨k + 1, by omega, .inr (by rw [Nat.add_sub_cancel]; exact D.out), by go_num⟩
        case measure => simp [intOf]; omega
      · have E := Lib.hid (logF_is n k h1 hk LO.out (.inr (by omega)))
        go_wp2
        go_ret
        exact ⟨ret1 E.out.symm, rfl⟩
    · have hd : decide ((k : Int) < 63) = false := by simp; omega
      have E := Lib.hid (logF_is n k h1 hk LO.out (.inl (by omega)))
      go_wp2
      go_ret
      exact ⟨ret1 E.out.symm, rfl⟩

theorem floorF_is (n : Int) (k : Nat) (h0 : 1 ≤ n) (h1 : n ≤ 9223372036854775807) (lo : (2 : Int) ^ k ≤ n) (hi : n < 2 ^ (k + 1)) : floorF n = 2 ^ k := by
  obtain ⟨j, j1, j2, j3, j4, j5⟩ := floorF_spec n h0 h1
  rw [j1]
  have a1 := pow_lt (a := j) (b := k + 1) (by omega)
  have a2 := pow_lt (a := k) (b := j + 1) (by omega)
  rw [show j = k from by omega]

/-- the document's Floor -/
theorem rfloor_any (n : Int) (w : World) (h0 : -9223372036854775808 ≤ n) (h1 : n ≤ 9223372036854775807) :
    Calls Try.prog 23 #[.int .i64 n] w fun e w' => e = .returned (.int .i64 (floorF n)) ∧ w = w' := by
  by_cases c : n < 1
  · have E := Lib.hid (floorF_lo c)
    go_enter Try.func23, Try.ntmps23
    go_wp2
    go_ret
    exact ⟨ret1 E.out.symm, rfl⟩
  · go_enter Try.func23, Try.ntmps23
    go_wp2
    go_loop [3] (fun i => ∃ p : Int, 1 ≤ p ∧ p ≤ n ∧ Hid (∃ k : Nat, p = 2 ^ k) ∧ i = .int .i64 p) (fun i => (n - intOf i).toNat)
    case atStart => exact ⟨1, by omega, by omega, Lib.hid ⟨0, rfl⟩, rfl⟩
    case round =>
      obtain ⟨p, hp1, hp2, HK, rfl⟩ := hrel
      by_cases d : p ≤ n / 2
      · go_wp2
        go_round
        case rel => exact ⟨p * 2, by omega, by omega, Lib.hid (by obtain ⟨k, hk⟩ := HK.out; exact ⟨k + 1, by rw [hk, Int.pow_succ]⟩), rfl⟩
        case measure => simp [intOf]; omega
      · have E : Hid (floorF n = p) := Lib.hid (by obtain ⟨k, hk⟩ := HK.out; rw [hk]; exact floorF_is n k (by omega) h1 (by omega) (by rw [Int.pow_succ]; omega))
        go_wp2
        go_ret
        exact ⟨ret1 E.out.symm, rfl⟩
end Num
end Go.Proofs.Ytohfgjaajldccaa
