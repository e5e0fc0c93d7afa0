/- NumSpread: for every input the law returns true and its arguments read as they did. No condition. -/
import Derived.Test.YtohfgjaajldccaaNum
import Derived.Test.YtohfgjaajldccaaBits
import Derived.Test.YtohfgjaajldccaaShown1
import Derived.Test.YtohfgjaajldccaaRows
import Derived.WalkKit
import Derived.ProofKit
import Derived.OpenShut
import Derived.ShutString
namespace Go.Proofs.Ytohfgjaajldccaa.numSpread
open Go.ChangeShapes Go.WideShapes Go.ChangeAt Go.RowKit
open Go.ChangeMaps (open_string shut_string)
set_option linter.unusedVariables false

theorem own : ownKnob Try.prog.godebug = none := by kernel_rfl

theorem log_le (n : Int) (h1 : n ≤ 9223372036854775807) : 0 ≤ Num.logF n ∧ Num.logF n ≤ 63 := by
  by_cases c : n < 2
  · rw [Num.logF_lo c]; omega
  · obtain ⟨k, k1, k2, k3, k4, k5⟩ := Num.logF_spec n (by omega) h1
    omega
theorem le_log (n : Int) (h0 : 1 ≤ n) (h1 : n ≤ 9223372036854775807) : ∃ k : Nat, Num.logF n = k ∧ n ≤ 2 ^ k := by
  by_cases c : n < 2
  · exact ⟨0, Num.logF_lo c, by rw [Int.pow_zero]; omega⟩
  · obtain ⟨k, k1, k2, k3, k4, k5⟩ := Num.logF_spec n (by omega) h1
    exact ⟨k, k1, k4⟩
theorem log_mul (a b : Int) (ha : 1 ≤ a) (hb : 1 ≤ b) (ha' : a ≤ 9223372036854775807) (hb' : b ≤ 9223372036854775807) (h : a * b ≤ 9223372036854775807) :
    Num.logF (a * b) ≤ Num.logF a + Num.logF b := by
  obtain ⟨j, j1, j2⟩ := le_log a ha ha'
  obtain ⟨k, k1, k2⟩ := le_log b hb hb'
  have hp : a * b ≤ 2 ^ (j + k) := by
    rw [Int.pow_add]
    exact Int.mul_le_mul j2 k2 (by omega) (by have := Num.pc j; omega)
  by_cases c : a * b < 2
  · rw [Num.logF_lo c]; omega
  · obtain ⟨m, m1, m2, m3, m4, m5⟩ := Num.logF_spec (a * b) (by omega) h
    have := Num.pow_lt (a := m - 1) (b := j + k) (by omega)
    omega
theorem floor_mono (a b : Int) (ha : 1 ≤ a) (hab : a ≤ b) (hb' : b ≤ 9223372036854775807) : Num.floorF a ≤ Num.floorF b := by
  obtain ⟨j, j1, j2, j3, j4, j5⟩ := Num.floorF_spec a ha (by omega)
  obtain ⟨k, k1, k2, k3, k4, k5⟩ := Num.floorF_spec b (by omega) hb'
  rw [j1, k1]
  have := Num.pow_lt (a := j) (b := k + 1) (by omega)
  exact Num.pow_mono (by omega)
set_option maxRecDepth 100000 in
set_option maxHeartbeats 4000000 in
theorem walk (a0 : Int) (a1 : Int) (a2 : Int) (w0 : (Lit.int .i64 a0).wf = true) (w1 : (Lit.int .i64 a1).wf = true) (w2 : (Lit.int .i64 a2).wf = true) (w : World) :
    Calls Try.prog 8 #[.int .i64 a0, .int .i64 a1, .int .i64 a2] w fun e w' => e = .returned (.bool true) ∧ Grown w w' := by
  have ba := bounds_i64 w0
  have bb := bounds_i64 w1
  have bc := bounds_i64 w2
  clear w0 w1 w2
  have x1 := Num.add_any a1 a2 w (by omega) (by omega) (by omega) (by omega)
  have bx := Num.valV_bd (a1 + a2)
  have y1 := Num.mul_any a0 (Num.valV (a1 + a2)) w (by omega) (by omega) (by omega) (by omega)
  have p1 := Num.mul_any a0 a1 w (by omega) (by omega) (by omega) (by omega)
  have q1 := Num.mul_any a0 a2 w (by omega) (by omega) (by omega) (by omega)
  have bp := Num.valV_bd (a0 * a1)
  have bq := Num.valV_bd (a0 * a2)
  have z1 := Num.add_any (Num.valV (a0 * a1)) (Num.valV (a0 * a2)) w (by omega) (by omega) (by omega) (by omega)
  have key : Num.valE (a1 + a2) = 0 → Num.valE (a0 * Num.valV (a1 + a2)) = 0 → Num.valE (a0 * a1) = 0 → Num.valE (a0 * a2) = 0 →
      Num.valE (Num.valV (a0 * a1) + Num.valV (a0 * a2)) = 0 ∧ Num.valV (a0 * Num.valV (a1 + a2)) = Num.valV (Num.valV (a0 * a1) + Num.valV (a0 * a2)) := by
    intro h1 h2 h3 h4
    rcases Num.valE_cases (a1 + a2) with ⟨_, _, _, e4⟩ | ⟨e1, _⟩
    · rw [e4] at h2 ⊢
      rcases Num.valE_cases (a0 * (a1 + a2)) with ⟨_, f2, f3, f4⟩ | ⟨f1, _⟩
      · rcases Num.valE_cases (a0 * a1) with ⟨_, _, _, g4⟩ | ⟨g1, _⟩
        · rcases Num.valE_cases (a0 * a2) with ⟨_, _, _, i4⟩ | ⟨i1, _⟩
          · rw [g4, i4, ← Int.mul_add]; exact ⟨h2, rfl⟩
          · omega
        · omega
      · omega
    · omega
  have logs : Num.valE (a0 * a1) = 0 → 1 ≤ a0 → 1 ≤ a1 → Num.logF (Num.valV (a0 * a1)) ≤ Num.logF a0 + Num.logF a1 ∧ Num.floorF a0 ≤ Num.floorF (Num.valV (a0 * a1)) ∧ Num.floorF a1 ≤ Num.floorF (Num.valV (a0 * a1)) := by
    intro h1 h2 h3
    rcases Num.valE_cases (a0 * a1) with ⟨_, e2, e3, e4⟩ | ⟨e1, _⟩
    · rw [e4]
      have m1 : a0 * 1 ≤ a0 * a1 := Int.mul_le_mul_of_nonneg_left h3 (by omega)
      have m2 : 1 * a1 ≤ a0 * a1 := Int.mul_le_mul_of_nonneg_right h2 (by omega)
      rw [Int.mul_one] at m1
      rw [Int.one_mul] at m2
      exact ⟨log_mul a0 a1 h2 h3 (by omega) (by omega) e3, floor_mono _ _ h2 m1 e3, floor_mono _ _ h3 m2 e3⟩
    · omega
  have l1 := log_le a0 (by omega)
  have l2 := log_le a1 (by omega)
  have X1 := Lib.hid x1
  have Y1 := Lib.hid y1
  have P1 := Lib.hid p1
  have Q1 := Lib.hid q1
  have Z1 := Lib.hid z1
  have LA := Lib.hid (Num.log_any a0 w (by omega) (by omega))
  have LB := Lib.hid (Num.log_any a1 w (by omega) (by omega))
  have FA := Lib.hid (Num.floor_any a0 w (by omega) (by omega))
  have FB := Lib.hid (Num.floor_any a1 w (by omega) (by omega))
  have LP := Lib.hid (Num.log_any (Num.valV (a0 * a1)) w (by omega) (by omega))
  have FP := Lib.hid (Num.floor_any (Num.valV (a0 * a1)) w (by omega) (by omega))
  have E3 := Num.valE_cases (a0 * a1)
  have g3 : Num.valE (a0 * a1) = 0 ∨ Num.valE (a0 * a1) = 3 := by omega
  clear x1 y1 p1 q1 z1 bx bp bq E3
  generalize Num.valV (a0 * Num.valV (a1 + a2)) = y at *
  generalize Num.valE (a0 * Num.valV (a1 + a2)) = f at *
  generalize Num.valV (Num.valV (a0 * a1) + Num.valV (a0 * a2)) = z at *
  generalize Num.valE (Num.valV (a0 * a1) + Num.valV (a0 * a2)) = i at *
  generalize Num.valV (a1 + a2) = x at *
  generalize Num.valE (a1 + a2) = e at *
  generalize Num.valV (a0 * a1) = p at *
  generalize Num.valE (a0 * a1) = g at *
  generalize Num.valV (a0 * a2) = q at *
  generalize Num.valE (a0 * a2) = h at *
  generalize Num.logF p = lp at *
  generalize Num.logF a0 = la at *
  generalize Num.logF a1 = lb at *
  generalize Num.floorF p = fp at *
  generalize Num.floorF a0 = fa at *
  generalize Num.floorF a1 = fb at *
  have KEY := Lib.hid key
  have LOGS := Lib.hid logs
  clear key logs
  have W1 : (e == 0) = false ∨ e = 0 ∧ (f == 0) = false ∨ e = 0 ∧ f = 0 ∧ g = 3 ∨ e = 0 ∧ f = 0 ∧ g = 0 ∧ (h == 0) = false ∨ e = 0 ∧ f = 0 ∧ g = 0 ∧ h = 0 ∧ i = 0 ∧ y = z := by
    by_cases c1 : e = 0
    · by_cases c2 : f = 0
      · rcases g3 with c3 | c3
        · by_cases c4 : h = 0
          · exact .inr (.inr (.inr (.inr ⟨c1, c2, c3, c4, KEY.out c1 c2 c3 c4⟩)))
          · exact .inr (.inr (.inr (.inl ⟨c1, c2, c3, by simpa using c4⟩)))
        · exact .inr (.inr (.inl ⟨c1, c2, c3⟩))
      · exact .inr (.inl ⟨c1, by simpa using c2⟩)
    · exact .inl (by simpa using c1)
  have W2 : g = 3 ∨ g = 0 ∧ a0 < 1 ∨ g = 0 ∧ 1 ≤ a0 ∧ a1 < 1 ∨ g = 0 ∧ 1 ≤ a0 ∧ 1 ≤ a1 ∧ lp ≤ la + lb ∧ fa ≤ fp ∧ fb ≤ fp := by
    rcases g3 with c3 | c3
    · by_cases c1 : a0 < 1
      · exact .inr (.inl ⟨c3, c1⟩)
      · by_cases c2 : a1 < 1
        · exact .inr (.inr (.inl ⟨c3, by omega, c2⟩))
        · exact .inr (.inr (.inr ⟨c3, by omega, by omega, LOGS.out c3 (by omega) (by omega)⟩))
    · exact .inl c3
  clear KEY LOGS g3
  rcases W2 with v1 | ⟨v1, v2⟩ | ⟨v1, v2, v3⟩ | ⟨v1, v2, v3, v4, v5, v6⟩ <;> subst v1 <;> rcases W1 with u1 | ⟨rfl, u2⟩ | ⟨rfl, rfl, u3⟩ | ⟨rfl, rfl, u3, u4⟩ | ⟨rfl, rfl, u3, rfl, rfl, rfl⟩ <;> try (first | (exfalso; omega) | clear u3)
  all_goals
    go_enter Try.func8, Try.ntmps8
    go_wp2_with (go_at_call 11; refine (Num.shown_any _).mono ?_; rintro e w' ⟨rfl, rfl⟩)
    refine X1.out.mono ?_; rintro e w' ⟨rfl, rfl⟩
    go_wp2_with fail
    refine Y1.out.mono ?_; rintro e w' ⟨rfl, rfl⟩
    go_wp2_with fail
    refine P1.out.mono ?_; rintro e w' ⟨rfl, rfl⟩
    go_wp2_with fail
    refine Q1.out.mono ?_; rintro e w' ⟨rfl, rfl⟩
    go_wp2_with fail
    refine Z1.out.mono ?_; rintro e w' ⟨rfl, rfl⟩
    go_wp2_with fail
    first
      | (go_ret; exact ⟨rfl, Grown.refl _⟩)
      | (refine LP.out.mono ?_; rintro e w' ⟨rfl, rfl⟩
         go_wp2_with fail
         refine LA.out.mono ?_; rintro e w' ⟨rfl, rfl⟩
         go_wp2_with fail
         refine LB.out.mono ?_; rintro e w' ⟨rfl, rfl⟩
         go_wp2_with fail
         refine FP.out.mono ?_; rintro e w' ⟨rfl, rfl⟩
         go_wp2_with fail
         refine FA.out.mono ?_; rintro e w' ⟨rfl, rfl⟩
         go_wp2_with fail
         refine FP.out.mono ?_; rintro e w' ⟨rfl, rfl⟩
         go_wp2_with fail
         refine FB.out.mono ?_; rintro e w' ⟨rfl, rfl⟩
         go_wp2
         go_ret
         exact ⟨rfl, Grown.refl _⟩)

set_option maxRecDepth 100000 in
theorem lifted (os : Os) (started : os.Started) (H : Type) (enc : TypeId × Value → H) :
    ReturnsInHanded {} Try.checked os 8 .any (Rows.numSpreadSpec.pre6 enc Try.prog Try.f8 Rows.numSpreadRow.domain false) (Rows.numSpreadSpec.post enc Try.prog Try.f8 false true false false) := by
  refine returnsInHanded_of_change (C := Try.checked) own started (by kernel_rfl) Try.func8
    (ChangeSpec.witness6 (enc := enc) (C := Try.checked) false ⟨#[], #[.int .i64 0, .int .i64 0, .int .i64 0], []⟩ 8 (by kernel_rfl) (by kernel_rfl) (by kernel_rfl) (by kernel_rfl)) ?_
  intro W base args ds gs before hval0 hW hcnd _
  have hval : ∀ (j : Nat) t v, Try.f8.params[j]? = some t → args[j]? = some v → Value.okWide Try.prog W .any base t v := hval0
  have hW' := hW
  obtain ⟨p, q, hA0, hV, rfl, hfz, hnd⟩ := hW
  have hA : DataW.TrodAll enc Try.prog W 0 (fun _ => true) true Try.f8.params.toList args.toList ds p := hA0
  rw [Try.params8] at hA hval
  obtain ⟨v0, vs0, d0, ds0, p0, q0, hargs, rfl, rfl, h0, r0⟩ := trodAll_cons hA
  obtain ⟨v1, vs1, d1, ds1, p1, q1, rfl, rfl, rfl, h1, r1⟩ := trodAll_cons r0
  obtain ⟨v2, vs2, d2, ds2, p2, q2, rfl, rfl, rfl, h2, r2⟩ := trodAll_cons r1
  obtain ⟨rfl, rfl, rfl⟩ := trodAll_nil r2
  obtain rfl : args = #[v0, v1, v2] := by cases args; simp_all
  obtain ⟨rfl, rfl⟩ := trodVars_none hV
  obtain ⟨a0, rfl, rfl, rfl, w0⟩ := open_int Try.underlying2 (hval 0 2 v0 rfl rfl) h0
  obtain ⟨a1, rfl, rfl, rfl, w1⟩ := open_int Try.underlying2 (hval 1 2 v1 rfl rfl) h1
  obtain ⟨a2, rfl, rfl, rfl, w2⟩ := open_int Try.underlying2 (hval 2 2 v2 rfl rfl) h2
  clear hA0 hval0
  simp only [List.append_nil] at hW'
  refine (walk a0 a1 a2 w0 w1 w2 W).mono fun e W' ⟨he, hg⟩ => ?_
  subst he
  exact ⟨_, rfl, post_of_same (pa := []) (pv := []) hW' (fun _ _ _ => (trodAll_cons_mk (shut_bool Try.underlying4 _) trodAll_mk0)) (fun sp _ => (trodAll_cons_mk (shut_int Try.underlying2 w0) (trodAll_cons_mk (shut_int Try.underlying2 w1) (trodAll_cons_mk (shut_int Try.underlying2 w2) trodAll_mk0)))) (fun _ _ => rfl) rfl
    (hg.frame _) hg.2.1 (ok_one (by kernel_rfl) rfl (okWide_bool_mk Try.underlying4 _))⟩

theorem over : Rows.numSpreadRow.holds Try.pinned (OpenSpec.ofChange Rows.numSpreadSpec) :=
  OpenClaim.holds_of_wide 8 Try.f8 rfl rfl rfl rfl rfl rfl rfl ⟨rfl, rfl, rfl, rfl, rfl⟩ rfl rfl rfl rfl rfl (by kernel_rfl) Try.func8 (by kernel_rfl)
    (of_decide_eq_true (by kernel_rfl)) (by unfold Func.isWrapper; first | (rw [if_pos (by decide +kernel)]; kernel_rfl) | (rw [if_neg (by decide +kernel)]; exact ⟨rfl, rfl⟩))
    (fun os started H enc _ => lifted os started H enc)

theorem proved : Rows.NumSpreadSaid :=
  over
#print axioms proved
end Go.Proofs.Ytohfgjaajldccaa.numSpread
