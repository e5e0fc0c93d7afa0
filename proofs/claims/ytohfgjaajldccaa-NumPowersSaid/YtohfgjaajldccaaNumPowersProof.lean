/- NumPowers: for every input the law returns true and its arguments read as they did. No condition. -/
import Derived.Test.YtohfgjaajldccaaNum
import Derived.Test.YtohfgjaajldccaaBits
import Derived.Test.YtohfgjaajldccaaShown1
import Derived.Deep.DeepCutAuto
import Derived.Test.YtohfgjaajldccaaRows
import Derived.WalkKit
import Derived.ProofKit
import Derived.OpenShut
import Derived.ShutString
namespace Go.Proofs.Ytohfgjaajldccaa.numPowers
open Go.ChangeShapes Go.WideShapes Go.ChangeAt Go.RowKit
open Go.ChangeMaps (open_string shut_string)
set_option linter.unusedVariables false

theorem own : ownKnob Try.prog.godebug = none := by kernel_rfl

theorem log_pow (E : Nat) (h : E ≤ 61) : Num.logF (2 ^ E) = E := by
  obtain ⟨p1, p2⟩ := Num.pow_le62 E (by omega)
  refine Num.logF_is _ E (by omega) (by omega) ?_ (.inr (by omega))
  by_cases c : E = 0
  · exact .inl c
  · obtain ⟨D, rfl⟩ : ∃ D, E = D + 1 := ⟨E - 1, by omega⟩
    rw [Nat.add_sub_cancel, Int.pow_succ]
    obtain ⟨q1, q2⟩ := Num.pow_le62 D (by omega)
    exact .inr (by omega)
theorem floor_pow (E : Nat) (h : E ≤ 61) : Num.floorF (2 ^ E) = 2 ^ E := by
  obtain ⟨p1, p2⟩ := Num.pow_le62 E (by omega)
  exact Num.floorF_is _ E (by omega) (by omega) (by omega) (by rw [Int.pow_succ]; omega)
theorem log_below (E : Nat) (h0 : 1 < E) (h : E ≤ 61) : Num.logF (2 ^ E - 1) = E := by
  obtain ⟨p1, p2⟩ := Num.pow_le62 E (by omega)
  obtain ⟨D, rfl⟩ : ∃ D, E = D + 2 := ⟨E - 2, by omega⟩
  obtain ⟨q1, q2⟩ := Num.pow_le62 D (by omega)
  refine Num.logF_is _ _ (by omega) (by omega) (.inr ?_) (.inr (by omega))
  rw [show D + 2 - 1 = D + 1 from by omega, Int.pow_succ, Int.pow_succ]
  rw [Int.pow_succ] ; omega
theorem floor_below (E : Nat) (h0 : 1 < E) (h : E ≤ 61) : Num.floorF (2 ^ E - 1) = 2 ^ E / 2 := by
  obtain ⟨p1, p2⟩ := Num.pow_le62 E (by omega)
  obtain ⟨D, rfl⟩ : ∃ D, E = D + 1 := ⟨E - 1, by omega⟩
  obtain ⟨q1, q2⟩ := Num.pow_le62 D (by omega)
  have e : (2 : Int) ^ (D + 1) / 2 = 2 ^ D := by rw [Int.pow_succ]; omega
  rw [e]
  have := Num.pow_mono (a := 1) (b := D) (by omega)
  refine Num.floorF_is _ _ (by omega) (by omega) ?_ (by omega)
  rw [Int.pow_succ]; omega
theorem log_above (E : Nat) (h : E < 61) : Num.logF (2 ^ E + 1) = E + 1 := by
  obtain ⟨p1, p2⟩ := Num.pow_le62 E (by omega)
  have := Num.logF_is (2 ^ E + 1) (E + 1) (by omega) (by omega) (.inr (by rw [Nat.add_sub_cancel]; omega)) (.inr (by rw [Int.pow_succ]; omega))
  rw [this]; rfl
theorem tmod_cases (k : Int) : ∃ E : Nat, E ≤ 61 ∧ (k.tmod 62 = E ∨ k.tmod 62 = -(E : Int) ∧ 0 < E) := by
  by_cases c : 0 ≤ k
  · have := Int.tmod_nonneg 62 c
    have := Int.tmod_lt_of_pos k (b := 62) (by omega)
    exact ⟨(k.tmod 62).toNat, by omega, .inl (by omega)⟩
  · have e : k.tmod 62 = -((-k).tmod 62) := by rw [Int.neg_tmod]; omega
    have := Int.tmod_nonneg (a := -k) 62 (by omega)
    have := Int.tmod_lt_of_pos (-k) (b := 62) (by omega)
    by_cases z : (-k).tmod 62 = 0
    · exact ⟨0, by omega, .inl (by omega)⟩
    · exact ⟨((-k).tmod 62).toNat, by omega, .inr ⟨by omega, by omega⟩⟩
/-- what is told of a number above nothing -/
def Side (n : Int) (l : Int) : Prop :=
  l = 63 ∧ 4611686018427387904 < n ∨ l = 0 ∧ n ≤ 1 ∨ ∃ M : Nat, l = ((M + 1 : Nat) : Int) ∧ M ≤ 61 ∧ n ≤ 2 ^ (M + 1) ∧ (2 : Int) ^ M < n
theorem side (n : Int) (h0 : 1 ≤ n) (h1 : n ≤ 9223372036854775807) : Side n (Num.logF n) := by
  by_cases c : n < 2
  · exact .inr (.inl ⟨Num.logF_lo c, by omega⟩)
  · obtain ⟨k, k1, k2, k3, k4, k5⟩ := Num.logF_spec n (by omega) h1
    by_cases d : k = 63
    · subst d; exact .inl ⟨k1, k5⟩
    · obtain ⟨M, rfl⟩ : ∃ M, k = M + 1 := ⟨k - 1, by omega⟩
      exact .inr (.inr ⟨M, k1, by omega, k4, by simpa using k5⟩)
theorem fl (n : Int) (h0 : 1 ≤ n) (h1 : n ≤ 9223372036854775807) : 1 ≤ Num.floorF n ∧ Num.floorF n ≤ n ∧ ¬ Num.floorF n ≤ n / 2 := by
  obtain ⟨k, k1, k2, k3, k4, k5⟩ := Num.floorF_spec n h0 h1
  obtain ⟨p1, p2⟩ := Num.pow_le62 k k3
  rw [Int.pow_succ] at k5
  rw [k1]; omega
set_option maxRecDepth 100000 in
set_option maxHeartbeats 4000000 in
theorem walk (a0 : Int) (a1 : Int) (w0 : (Lit.int .i64 a0).wf = true) (w1 : (Lit.int .i64 a1).wf = true) (w : World) :
    Calls Try.prog 5 #[.int .i64 a0, .int .i64 a1] w fun e w' => e = .returned (.bool true) ∧ Grown w w' := by
  have bn := bounds_i64 w0
  clear w0 w1
  obtain ⟨E, hE, hk⟩ := tmod_cases a1
  obtain ⟨p1, p2⟩ := Num.pow_le62 E (by omega)
  have c1 := Num.log_any (2 ^ E) w (by omega) (by omega)
  rw [log_pow E hE] at c1
  have c2 := Num.floor_any (2 ^ E) w (by omega) (by omega)
  rw [floor_pow E hE] at c2
  have C1 := Lib.hid c1
  have C2 := Lib.hid c2
  have LN := Lib.hid (Num.log_any a0 w (by omega) (by omega))
  have FN := Lib.hid (Num.floor_any a0 w (by omega) (by omega))
  have HS := Lib.hid (side a0)
  have HF := Lib.hid (fl a0)
  have HK := Lib.hid hk
  clear c1 c2 hk
  go_enter Try.func5, Try.ntmps5
  go_upto_if 16 with (go_at_call 11; refine (Num.shown_any _).mono ?_; rintro e w' ⟨rfl, rfl⟩)
  go_cut [6] (fun s wc => s = .int .i64 (E : Int) ∧ w = wc)
  case first =>
    rcases HK.out with hk | ⟨hk, hp⟩
    · have hneg : decide ((E : Int) < 0) = false := by simp
      go_wp2
      go_meet
      case rel => exact ⟨congrArg (Value.int IntKind.i64) (by omega), rfl⟩
    · have hneg : decide (-(E : Int) < 0) = true := by simp; omega
      go_wp2
      go_meet
      case rel => exact ⟨by simp, rfl⟩
  case rest =>
  obtain ⟨rfl, rfl⟩ := hcut
  go_upto_region 8 with fail
  go_cut [62] (fun s wc => s = .bool false ∧ w = wc)
  case first =>
    by_cases r1 : 1 < E
    · by_cases r2 : E < 61
      · have c3 := Num.log_any (2 ^ E - 1) w (by omega) (by omega)
        rw [log_below E (by omega) (by omega)] at c3
        have C3 := Lib.hid c3
        have c4 := Num.floor_any (2 ^ E - 1) w (by omega) (by omega)
        rw [floor_below E (by omega) (by omega)] at c4
        have C4 := Lib.hid c4
        clear c3 c4
        have c5 := Num.log_any (2 ^ E + 1) w (by omega) (by omega)
        rw [log_above E (by omega)] at c5
        have C5 := Lib.hid c5
        clear c5
        go_wp2_with fail
        refine C1.out.mono ?_; rintro e w' ⟨rfl, rfl⟩
        go_wp2_with fail
        refine C2.out.mono ?_; rintro e w' ⟨rfl, rfl⟩
        go_wp2_with fail
        refine C3.out.mono ?_; rintro e w' ⟨rfl, rfl⟩
        go_wp2_with fail
        refine C4.out.mono ?_; rintro e w' ⟨rfl, rfl⟩
        go_wp2_with fail
        refine C5.out.mono ?_; rintro e w' ⟨rfl, rfl⟩
        go_wp2
        go_meet
        case rel => exact ⟨congrArg Value.bool (by first | rfl | (simp; omega)), rfl⟩
      · have c3 := Num.log_any (2 ^ E - 1) w (by omega) (by omega)
        rw [log_below E (by omega) (by omega)] at c3
        have C3 := Lib.hid c3
        have c4 := Num.floor_any (2 ^ E - 1) w (by omega) (by omega)
        rw [floor_below E (by omega) (by omega)] at c4
        have C4 := Lib.hid c4
        clear c3 c4
        go_wp2_with fail
        refine C1.out.mono ?_; rintro e w' ⟨rfl, rfl⟩
        go_wp2_with fail
        refine C2.out.mono ?_; rintro e w' ⟨rfl, rfl⟩
        go_wp2_with fail
        refine C3.out.mono ?_; rintro e w' ⟨rfl, rfl⟩
        go_wp2_with fail
        refine C4.out.mono ?_; rintro e w' ⟨rfl, rfl⟩
        go_wp2
        go_meet
        case rel => exact ⟨congrArg Value.bool (by first | rfl | (simp; omega)), rfl⟩
    · have c5 := Num.log_any (2 ^ E + 1) w (by omega) (by omega)
      rw [log_above E (by omega)] at c5
      have C5 := Lib.hid c5
      clear c5
      have r3 : decide (1 < (E : Int)) = false := by simp; omega
      go_wp2_with fail
      refine C1.out.mono ?_; rintro e w' ⟨rfl, rfl⟩
      go_wp2_with fail
      refine C2.out.mono ?_; rintro e w' ⟨rfl, rfl⟩
      go_wp2_with fail
      refine C5.out.mono ?_; rintro e w' ⟨rfl, rfl⟩
      go_wp2
      go_meet
      case rel => exact ⟨congrArg Value.bool (by first | rfl | (simp; omega)), rfl⟩
  case rest =>
  obtain ⟨rfl, rfl⟩ := hcut
  clear C1 C2
  by_cases hn : a0 < 1
  · have q1 := LN.out
    have q2 := FN.out
    rw [Num.logF_lo (n := a0) (by omega)] at q1
    rw [Num.floorF_lo (n := a0) hn] at q2
    have Q1 := Lib.hid q1
    have Q2 := Lib.hid q2
    clear q1 q2
    go_wp2_with fail
    refine Q1.out.mono ?_; rintro e w' ⟨rfl, rfl⟩
    go_wp2_with fail
    refine Q2.out.mono ?_; rintro e w' ⟨rfl, rfl⟩
    go_wp2
    go_ret
    exact ⟨rfl, Grown.refl _⟩
  · have hs := HS.out (by omega) (by omega)
    obtain ⟨f1, f2, f3⟩ := HF.out (by omega) (by omega)
    have LN' := LN.out
    have FN' := FN.out
    generalize Num.logF a0 = l at *
    generalize Num.floorF a0 = f at *
    have F' := Lib.hid FN'
    have L' := Lib.hid LN'
    clear FN' LN' LN FN HS HF
    rcases hs with ⟨rfl, g⟩ | ⟨rfl, g⟩ | ⟨M, rfl, g1, g2, g3⟩
    · go_wp2_with fail
      refine F'.out.mono ?_; rintro e w' ⟨rfl, rfl⟩
      go_wp2_with fail
      refine L'.out.mono ?_; rintro e w' ⟨rfl, rfl⟩
      go_wp2
      go_ret
      exact ⟨rfl, Grown.refl _⟩
    · go_wp2_with fail
      refine F'.out.mono ?_; rintro e w' ⟨rfl, rfl⟩
      go_wp2_with fail
      refine L'.out.mono ?_; rintro e w' ⟨rfl, rfl⟩
      go_wp2
      go_ret
      exact ⟨rfl, Grown.refl _⟩
    · obtain ⟨o1, o2⟩ := Num.pow_le62 M (by omega)
      obtain ⟨o3, o4⟩ := Num.pow_le62 (M + 1) (by omega)
      have t1 : ((M : Int) + 1 == 63) = false := by simp; omega
      have t2 : ((M : Int) + 1 == 0) = false := by simp; omega
      go_wp2_with fail
      refine F'.out.mono ?_; rintro e w' ⟨rfl, rfl⟩
      go_wp2_with fail
      refine L'.out.mono ?_; rintro e w' ⟨rfl, rfl⟩
      go_wp2
      go_ret
      exact ⟨rfl, Grown.refl _⟩

set_option maxRecDepth 100000 in
theorem lifted (os : Os) (started : os.Started) (H : Type) (enc : TypeId × Value → H) :
    ReturnsInHanded {} Try.checked os 5 .any (Rows.numPowersSpec.pre6 enc Try.prog Try.f5 Rows.numPowersRow.domain false) (Rows.numPowersSpec.post enc Try.prog Try.f5 false true false false) := by
  refine returnsInHanded_of_change (C := Try.checked) own started (by kernel_rfl) Try.func5
    (ChangeSpec.witness6 (enc := enc) (C := Try.checked) false ⟨#[], #[.int .i64 0, .int .i64 0], []⟩ 8 (by kernel_rfl) (by kernel_rfl) (by kernel_rfl) (by kernel_rfl)) ?_
  intro W base args ds gs before hval0 hW hcnd _
  have hval : ∀ (j : Nat) t v, Try.f5.params[j]? = some t → args[j]? = some v → Value.okWide Try.prog W .any base t v := hval0
  have hW' := hW
  obtain ⟨p, q, hA0, hV, rfl, hfz, hnd⟩ := hW
  have hA : DataW.TrodAll enc Try.prog W 0 (fun _ => true) true Try.f5.params.toList args.toList ds p := hA0
  rw [Try.params5] at hA hval
  obtain ⟨v0, vs0, d0, ds0, p0, q0, hargs, rfl, rfl, h0, r0⟩ := trodAll_cons hA
  obtain ⟨v1, vs1, d1, ds1, p1, q1, rfl, rfl, rfl, h1, r1⟩ := trodAll_cons r0
  obtain ⟨rfl, rfl, rfl⟩ := trodAll_nil r1
  obtain rfl : args = #[v0, v1] := by cases args; simp_all
  obtain ⟨rfl, rfl⟩ := trodVars_none hV
  obtain ⟨a0, rfl, rfl, rfl, w0⟩ := open_int Try.underlying2 (hval 0 2 v0 rfl rfl) h0
  obtain ⟨a1, rfl, rfl, rfl, w1⟩ := open_int Try.underlying3 (hval 1 3 v1 rfl rfl) h1
  clear hA0 hval0
  simp only [List.append_nil] at hW'
  refine (walk a0 a1 w0 w1 W).mono fun e W' ⟨he, hg⟩ => ?_
  subst he
  exact ⟨_, rfl, post_of_same (pa := []) (pv := []) hW' (fun _ _ _ => (trodAll_cons_mk (shut_bool Try.underlying4 _) trodAll_mk0)) (fun sp _ => (trodAll_cons_mk (shut_int Try.underlying2 w0) (trodAll_cons_mk (shut_int Try.underlying3 w1) trodAll_mk0))) (fun _ _ => rfl) rfl
    (hg.frame _) hg.2.1 (ok_one (by kernel_rfl) rfl (okWide_bool_mk Try.underlying4 _))⟩

theorem over : Rows.numPowersRow.holds Try.pinned (OpenSpec.ofChange Rows.numPowersSpec) :=
  OpenClaim.holds_of_wide 5 Try.f5 rfl rfl rfl rfl rfl rfl rfl ⟨rfl, rfl, rfl, rfl, rfl⟩ rfl rfl rfl rfl rfl (by kernel_rfl) Try.func5 (by kernel_rfl)
    (of_decide_eq_true (by kernel_rfl)) (by unfold Func.isWrapper; first | (rw [if_pos (by decide +kernel)]; kernel_rfl) | (rw [if_neg (by decide +kernel)]; exact ⟨rfl, rfl⟩))
    (fun os started H enc _ => lifted os started H enc)

theorem proved : Rows.NumPowersSaid :=
  over
#print axioms proved
end Go.Proofs.Ytohfgjaajldccaa.numPowers
