/- NumBounds: for every input the law returns true and its arguments read as they did. No condition. -/
import Derived.Test.YtohfgjaajldccaaNum
import Derived.Test.YtohfgjaajldccaaShown1
import Derived.Test.YtohfgjaajldccaaRows
import Derived.WalkKit
import Derived.ProofKit
import Derived.OpenShut
import Derived.ShutString
namespace Go.Proofs.Ytohfgjaajldccaa.numBounds
open Go.ChangeShapes Go.WideShapes Go.ChangeAt Go.RowKit
open Go.ChangeMaps (open_string shut_string)
set_option linter.unusedVariables false

theorem own : ownKnob Try.prog.godebug = none := by kernel_rfl

/-- is twice a half, and a rest, beyond 64 bits? -/
def byd (h r : Int) : Bool := decide (2 * h + r < -9223372036854775808 ∨ 9223372036854775807 < 2 * h + r)
theorem byd_yes {h r : Int} (c : 2 * h + r < -9223372036854775808 ∨ 9223372036854775807 < 2 * h + r) : byd h r = true := decide_eq_true c
theorem byd_no {h r : Int} (c0 : -9223372036854775808 ≤ 2 * h + r) (c1 : 2 * h + r ≤ 9223372036854775807) : byd h r = false := decide_eq_false (by omega)
theorem retb {a b : Bool} (h : a = b) : Ending.returned (.bool a) = .returned (.bool b) := by rw [h]
set_option maxRecDepth 100000 in
theorem beyond_any (h r : Int) (w : World) (h0 : -9223372036854775808 ≤ h) (h1 : h ≤ 9223372036854775807) (r0 : -2 ≤ r) (r1 : r ≤ 2) :
    Calls Try.prog 24 #[.int .i64 h, .int .i64 r] w fun e w' => e = .returned (.bool (byd h r)) ∧ w = w' := by
  by_cases c1 : 4611686018427387904 < h
  · have E := Lib.hid (byd_yes (h := h) (r := r) (by omega))
    go_enter Try.func24, Try.ntmps24
    go_wp2
    go_ret
    exact ⟨retb E.out.symm, rfl⟩
  by_cases c2 : h = 4611686018427387904
  · subst c2
    by_cases d : 0 ≤ r
    · have E := Lib.hid (byd_yes (h := 4611686018427387904) (r := r) (by omega))
      go_enter Try.func24, Try.ntmps24
      go_wp2
      go_ret
      exact ⟨retb E.out.symm, rfl⟩
    · have E := Lib.hid (byd_no (h := 4611686018427387904) (r := r) (by omega) (by omega))
      go_enter Try.func24, Try.ntmps24
      go_wp2
      go_ret
      exact ⟨retb E.out.symm, rfl⟩
  by_cases c3 : h = 4611686018427387903
  · subst c3
    by_cases d : 1 < r
    · have E := Lib.hid (byd_yes (h := 4611686018427387903) (r := r) (by omega))
      go_enter Try.func24, Try.ntmps24
      go_wp2
      go_ret
      exact ⟨retb E.out.symm, rfl⟩
    · have E := Lib.hid (byd_no (h := 4611686018427387903) (r := r) (by omega) (by omega))
      go_enter Try.func24, Try.ntmps24
      go_wp2
      go_ret
      exact ⟨retb E.out.symm, rfl⟩
  by_cases c4 : h < -4611686018427387905
  · have E := Lib.hid (byd_yes (h := h) (r := r) (by omega))
    have z1 : (h == 4611686018427387904) = false := by simpa using c2
    have z2 : (h == 4611686018427387903) = false := by simpa using c3
    go_enter Try.func24, Try.ntmps24
    go_wp2
    go_ret
    exact ⟨retb E.out.symm, rfl⟩
  by_cases c5 : h = -4611686018427387905
  · subst c5
    by_cases d : r < 2
    · have E := Lib.hid (byd_yes (h := -4611686018427387905) (r := r) (by omega))
      go_enter Try.func24, Try.ntmps24
      go_wp2
      go_ret
      exact ⟨retb E.out.symm, rfl⟩
    · have E := Lib.hid (byd_no (h := -4611686018427387905) (r := r) (by omega) (by omega))
      go_enter Try.func24, Try.ntmps24
      go_wp2
      go_ret
      exact ⟨retb E.out.symm, rfl⟩
  by_cases c6 : h = -4611686018427387904
  · subst c6
    by_cases d : r < 0
    · have E := Lib.hid (byd_yes (h := -4611686018427387904) (r := r) (by omega))
      go_enter Try.func24, Try.ntmps24
      go_wp2
      go_ret
      exact ⟨retb E.out.symm, rfl⟩
    · have E := Lib.hid (byd_no (h := -4611686018427387904) (r := r) (by omega) (by omega))
      go_enter Try.func24, Try.ntmps24
      go_wp2
      go_ret
      exact ⟨retb E.out.symm, rfl⟩
  have E := Lib.hid (byd_no (h := h) (r := r) (by omega) (by omega))
  have z1 : (h == 4611686018427387904) = false := by simpa using c2
  have z2 : (h == 4611686018427387903) = false := by simpa using c3
  have z3 : (h == -4611686018427387905) = false := by simpa using c5
  have z4 : (h == -4611686018427387904) = false := by simpa using c6
  go_enter Try.func24, Try.ntmps24
  go_wp2
  go_ret
  exact ⟨retb E.out.symm, rfl⟩
theorem halves (a : Int) : ∃ h r : Int, a.tdiv 2 = h ∧ a.tmod 2 = r ∧ a = 2 * h + r ∧ -1 ≤ r ∧ r ≤ 1 ∧ (r < 0 → a < 0) ∧ (0 < r → 0 < a) := by
  refine ⟨a.tdiv 2, a.tmod 2, rfl, rfl, (Int.mul_tdiv_add_tmod a 2).symm, ?_⟩
  have h1 := Int.mul_tdiv_add_tmod a 2
  by_cases c : 0 ≤ a
  · have := Int.tmod_nonneg 2 c
    have := Int.tmod_lt_of_pos a (b := 2) (by omega)
    omega
  · have e : a.tmod 2 = -((-a).tmod 2) := by rw [Int.neg_tmod]; omega
    have := Int.tmod_nonneg (a := -a) 2 (by omega)
    have := Int.tmod_lt_of_pos (-a) (b := 2) (by omega)
    omega
theorem same_out (x : Int) (h r : Int) (e : x = 2 * h + r) : (Num.valE x != 0) = byd h r := by
  rcases Num.valE_cases x with ⟨a, b, c, d⟩ | ⟨a, b, c⟩
  · rw [a, byd_no (by omega) (by omega)]; rfl
  · rw [a, byd_yes (by omega)]; rfl
set_option maxRecDepth 100000 in
set_option maxHeartbeats 4000000 in
theorem walk (a0 : Int) (a1 : Int) (w0 : (Lit.int .i64 a0).wf = true) (w1 : (Lit.int .i64 a1).wf = true) (w : World) :
    Calls Try.prog 9 #[.int .i64 a0, .int .i64 a1] w fun e w' => e = .returned (.bool true) ∧ Grown w w' := by
  have ba := bounds_i64 w0
  have bb := bounds_i64 w1
  clear w0 w1
  obtain ⟨p, r, h1, h2, h3, h4, h5, h6, h7⟩ := halves a0
  obtain ⟨q, s, g1, g2, g3, g4, g5, g6, g7⟩ := halves a1
  have A1 := Lib.hid (Num.add_any a0 a1 w (by omega) (by omega) (by omega) (by omega))
  have S1 := Lib.hid (Num.sub_any a0 a1 w (by omega) (by omega) (by omega) (by omega))
  have B1 := Lib.hid (beyond_any (p + q) (r + s) w (by omega) (by omega) (by omega) (by omega))
  have B2 := Lib.hid (beyond_any (p - q) (r - s) w (by omega) (by omega) (by omega) (by omega))
  have t1 := same_out (a0 + a1) (p + q) (r + s) (by omega)
  have t2 := same_out (a0 - a1) (p - q) (r - s) (by omega)
  have H3 := Lib.hid h3
  have G3 := Lib.hid g3
  have k1 : -4611686018427387904 ≤ p := by omega
  have k2 : p ≤ 4611686018427387903 := by omega
  have k3 : -4611686018427387904 ≤ q := by omega
  have k4 : q ≤ 4611686018427387903 := by omega
  clear h3 g3 h6 h7 g6 g7
  go_enter Try.func9, Try.ntmps9
  go_wp2_with (go_at_call 11; refine (Num.shown_any _).mono ?_; rintro e w' ⟨rfl, rfl⟩)
  refine A1.out.mono ?_; rintro e w' ⟨rfl, rfl⟩
  go_wp2_with fail
  refine S1.out.mono ?_; rintro e w' ⟨rfl, rfl⟩
  go_wp2_with fail
  refine B1.out.mono ?_; rintro e w' ⟨rfl, rfl⟩
  go_wp2_with fail
  refine B2.out.mono ?_; rintro e w' ⟨rfl, rfl⟩
  go_wp2
  go_ret
  exact ⟨rfl, Grown.refl _⟩

set_option maxRecDepth 100000 in
theorem lifted (os : Os) (started : os.Started) (H : Type) (enc : TypeId × Value → H) :
    ReturnsInHanded {} Try.checked os 9 .any (Rows.numBoundsSpec.pre6 enc Try.prog Try.f9 Rows.numBoundsRow.domain false) (Rows.numBoundsSpec.post enc Try.prog Try.f9 false true false false) := by
  refine returnsInHanded_of_change (C := Try.checked) own started (by kernel_rfl) Try.func9
    (ChangeSpec.witness6 (enc := enc) (C := Try.checked) false ⟨#[], #[.int .i64 0, .int .i64 0], []⟩ 8 (by kernel_rfl) (by kernel_rfl) (by kernel_rfl) (by kernel_rfl)) ?_
  intro W base args ds gs before hval0 hW hcnd _
  have hval : ∀ (j : Nat) t v, Try.f9.params[j]? = some t → args[j]? = some v → Value.okWide Try.prog W .any base t v := hval0
  have hW' := hW
  obtain ⟨p, q, hA0, hV, rfl, hfz, hnd⟩ := hW
  have hA : DataW.TrodAll enc Try.prog W 0 (fun _ => true) true Try.f9.params.toList args.toList ds p := hA0
  rw [Try.params9] at hA hval
  obtain ⟨v0, vs0, d0, ds0, p0, q0, hargs, rfl, rfl, h0, r0⟩ := trodAll_cons hA
  obtain ⟨v1, vs1, d1, ds1, p1, q1, rfl, rfl, rfl, h1, r1⟩ := trodAll_cons r0
  obtain ⟨rfl, rfl, rfl⟩ := trodAll_nil r1
  obtain rfl : args = #[v0, v1] := by cases args; simp_all
  obtain ⟨rfl, rfl⟩ := trodVars_none hV
  obtain ⟨a0, rfl, rfl, rfl, w0⟩ := open_int Try.underlying2 (hval 0 2 v0 rfl rfl) h0
  obtain ⟨a1, rfl, rfl, rfl, w1⟩ := open_int Try.underlying2 (hval 1 2 v1 rfl rfl) h1
  clear hA0 hval0
  simp only [List.append_nil] at hW'
  refine (walk a0 a1 w0 w1 W).mono fun e W' ⟨he, hg⟩ => ?_
  subst he
  exact ⟨_, rfl, post_of_same (pa := []) (pv := []) hW' (fun _ _ _ => (trodAll_cons_mk (shut_bool Try.underlying4 _) trodAll_mk0)) (fun sp _ => (trodAll_cons_mk (shut_int Try.underlying2 w0) (trodAll_cons_mk (shut_int Try.underlying2 w1) trodAll_mk0))) (fun _ _ => rfl) rfl
    (hg.frame _) hg.2.1 (ok_one (by kernel_rfl) rfl (okWide_bool_mk Try.underlying4 _))⟩

theorem over : Rows.numBoundsRow.holds Try.pinned (OpenSpec.ofChange Rows.numBoundsSpec) :=
  OpenClaim.holds_of_wide 9 Try.f9 rfl rfl rfl rfl rfl rfl rfl ⟨rfl, rfl, rfl, rfl, rfl⟩ rfl rfl rfl rfl rfl (by kernel_rfl) Try.func9 (by kernel_rfl)
    (of_decide_eq_true (by kernel_rfl)) (by unfold Func.isWrapper; first | (rw [if_pos (by decide +kernel)]; kernel_rfl) | (rw [if_neg (by decide +kernel)]; exact ⟨rfl, rfl⟩))
    (fun os started H enc _ => lifted os started H enc)

theorem proved : Rows.NumBoundsSaid :=
  over
#print axioms proved
end Go.Proofs.Ytohfgjaajldccaa.numBounds
