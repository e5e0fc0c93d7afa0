/- NumBack: for every input the law returns true and its arguments read as they did. No condition. -/
import Derived.Test.YtohfgjaajldccaaNum
import Derived.Test.YtohfgjaajldccaaShown1
import Derived.Test.YtohfgjaajldccaaRows
import Derived.WalkKit
import Derived.ProofKit
import Derived.OpenShut
import Derived.ShutString
namespace Go.Proofs.Ytohfgjaajldccaa.numBack
open Go.ChangeShapes Go.WideShapes Go.ChangeAt Go.RowKit
open Go.ChangeMaps (open_string shut_string)
set_option linter.unusedVariables false

theorem own : ownKnob Try.prog.godebug = none := by kernel_rfl

set_option maxRecDepth 100000 in
set_option maxHeartbeats 4000000 in
theorem walk (a0 : Int) (a1 : Int) (w0 : (Lit.int .i64 a0).wf = true) (w1 : (Lit.int .i64 a1).wf = true) (w : World) :
    Calls Try.prog 4 #[.int .i64 a0, .int .i64 a1] w fun e w' => e = .returned (.bool true) ∧ Grown w w' := by
  have ba := bounds_i64 w0
  have bb := bounds_i64 w1
  clear w0 w1
  have A1 := Lib.hid (Num.add_any a0 a1 w (by omega) (by omega) (by omega) (by omega))
  have a2 := Num.add_any a1 a0 w (by omega) (by omega) (by omega) (by omega)
  rw [Int.add_comm a1 a0] at a2
  have A2 := Lib.hid a2
  have M1 := Lib.hid (Num.mul_any a0 a1 w (by omega) (by omega) (by omega) (by omega))
  have m2 := Num.mul_any a1 a0 w (by omega) (by omega) (by omega) (by omega)
  rw [Int.mul_comm a1 a0] at m2
  have M2 := Lib.hid m2
  have s1 : ∀ x : Int, x = a0 + a1 → -9223372036854775808 ≤ x → x ≤ 9223372036854775807 → Calls Try.prog 14 #[.int .i64 x, .int .i64 a1] w fun e w' => e = .returned (.tuple #[.int .i64 a0, .int .i64 0]) ∧ w = w' := by
    intro x hx h1 h2
    have := Num.sub_any x a1 w h1 h2 (by omega) (by omega)
    rw [show x - a1 = a0 from by omega, Num.valV_in (by omega) (by omega), Num.valE_in (by omega) (by omega)] at this
    exact this
  have S1 := Lib.hid s1
  clear a2 m2 s1
  rcases Num.valE_cases (a0 * a1) with ⟨e1, e2, e3, e4⟩ | ⟨e1, e2, e3⟩ <;> rcases Num.valE_cases (a0 + a1) with ⟨d1, d2, d3, d4⟩ | ⟨d1, d2, d3⟩
  · have D2 := d2; have D3 := d3
    rw [d1, d4] at A1 A2
    rw [e1, e4] at M1 M2
    have q1 : a1 ≠ 0 → (a0 * a1).tdiv a1 = a0 := fun h => Int.mul_tdiv_cancel a0 h
    have q2 : (a0 * a1).tmod a1 = 0 := Int.mul_tmod_left a0 a1
    have q3 : a1 = 0 → a0 * a1 = 0 := fun h => by rw [h, Int.mul_zero]
    have HX := Lib.hid (rfl : a0 + a1 = a0 + a1)
    clear d1 d4 e1 e4
    by_cases z : a1 = 0
    · have z' : (a1 == 0) = true := by simpa using z
      have q4 : (a0 * a1 == 0) = true := by simpa using q3 z
      clear q1 q2 q3 z
      go_enter Try.func4, Try.ntmps4
      go_wp2_with (go_at_call 11; refine (Num.shown_any _).mono ?_; rintro e w' ⟨rfl, rfl⟩)
      refine A1.out.mono ?_; rintro e w' ⟨rfl, rfl⟩
      go_wp2_with fail
      refine A2.out.mono ?_; rintro e w' ⟨rfl, rfl⟩
      go_wp2_with fail
      refine M1.out.mono ?_; rintro e w' ⟨rfl, rfl⟩
      go_wp2_with fail
      refine M2.out.mono ?_; rintro e w' ⟨rfl, rfl⟩
      go_wp2_with fail
      refine (S1.out _ rfl (by omega) (by omega)).mono ?_; rintro e w' ⟨rfl, rfl⟩
      go_wp2
      go_ret
      exact ⟨rfl, Grown.refl _⟩
    · have q4 := q1 z
      clear q1 q3
      generalize hp : a0 * a1 = p at *
      have HP := Lib.hid hp
      clear hp
      go_enter Try.func4, Try.ntmps4
      go_wp2_with (go_at_call 11; refine (Num.shown_any _).mono ?_; rintro e w' ⟨rfl, rfl⟩)
      refine A1.out.mono ?_; rintro e w' ⟨rfl, rfl⟩
      go_wp2_with fail
      refine A2.out.mono ?_; rintro e w' ⟨rfl, rfl⟩
      go_wp2_with fail
      refine M1.out.mono ?_; rintro e w' ⟨rfl, rfl⟩
      go_wp2_with fail
      refine M2.out.mono ?_; rintro e w' ⟨rfl, rfl⟩
      go_wp2_with fail
      refine (S1.out _ rfl (by omega) (by omega)).mono ?_; rintro e w' ⟨rfl, rfl⟩
      go_wp2
      go_ret
      exact ⟨rfl, Grown.refl _⟩
  · rw [d1, d3] at A1 A2
    rw [e1, e4] at M1 M2
    have q1 : a1 ≠ 0 → (a0 * a1).tdiv a1 = a0 := fun h => Int.mul_tdiv_cancel a0 h
    have q2 : (a0 * a1).tmod a1 = 0 := Int.mul_tmod_left a0 a1
    have q3 : a1 = 0 → a0 * a1 = 0 := fun h => by rw [h, Int.mul_zero]
    clear d1 d2 d3 e1 e4
    by_cases z : a1 = 0
    · have z' : (a1 == 0) = true := by simpa using z
      have q4 : (a0 * a1 == 0) = true := by simpa using q3 z
      clear q1 q2 q3 z
      go_enter Try.func4, Try.ntmps4
      go_wp2_with (go_at_call 11; refine (Num.shown_any _).mono ?_; rintro e w' ⟨rfl, rfl⟩)
      refine A1.out.mono ?_; rintro e w' ⟨rfl, rfl⟩
      go_wp2_with fail
      refine A2.out.mono ?_; rintro e w' ⟨rfl, rfl⟩
      go_wp2_with fail
      refine M1.out.mono ?_; rintro e w' ⟨rfl, rfl⟩
      go_wp2_with fail
      refine M2.out.mono ?_; rintro e w' ⟨rfl, rfl⟩
      go_wp2
      go_ret
      exact ⟨rfl, Grown.refl _⟩
    · have q4 := q1 z
      clear q1 q3
      generalize hp : a0 * a1 = p at *
      have HP := Lib.hid hp
      clear hp
      go_enter Try.func4, Try.ntmps4
      go_wp2_with (go_at_call 11; refine (Num.shown_any _).mono ?_; rintro e w' ⟨rfl, rfl⟩)
      refine A1.out.mono ?_; rintro e w' ⟨rfl, rfl⟩
      go_wp2_with fail
      refine A2.out.mono ?_; rintro e w' ⟨rfl, rfl⟩
      go_wp2_with fail
      refine M1.out.mono ?_; rintro e w' ⟨rfl, rfl⟩
      go_wp2_with fail
      refine M2.out.mono ?_; rintro e w' ⟨rfl, rfl⟩
      go_wp2
      go_ret
      exact ⟨rfl, Grown.refl _⟩
  · have D2 := d2; have D3 := d3
    rw [d1, d4] at A1 A2
    rw [e1, e3] at M1 M2
    clear d1 d4 e1 e2 e3
    go_enter Try.func4, Try.ntmps4
    go_wp2_with (go_at_call 11; refine (Num.shown_any _).mono ?_; rintro e w' ⟨rfl, rfl⟩)
    refine A1.out.mono ?_; rintro e w' ⟨rfl, rfl⟩
    go_wp2_with fail
    refine A2.out.mono ?_; rintro e w' ⟨rfl, rfl⟩
    go_wp2_with fail
    refine M1.out.mono ?_; rintro e w' ⟨rfl, rfl⟩
    go_wp2_with fail
    refine M2.out.mono ?_; rintro e w' ⟨rfl, rfl⟩
    go_wp2_with fail
    refine (S1.out _ rfl (by omega) (by omega)).mono ?_; rintro e w' ⟨rfl, rfl⟩
    go_wp2
    go_ret
    exact ⟨rfl, Grown.refl _⟩
  · rw [d1, d3] at A1 A2
    rw [e1, e3] at M1 M2
    clear d1 d2 d3 e1 e2 e3
    go_enter Try.func4, Try.ntmps4
    go_wp2_with (go_at_call 11; refine (Num.shown_any _).mono ?_; rintro e w' ⟨rfl, rfl⟩)
    refine A1.out.mono ?_; rintro e w' ⟨rfl, rfl⟩
    go_wp2_with fail
    refine A2.out.mono ?_; rintro e w' ⟨rfl, rfl⟩
    go_wp2_with fail
    refine M1.out.mono ?_; rintro e w' ⟨rfl, rfl⟩
    go_wp2_with fail
    refine M2.out.mono ?_; rintro e w' ⟨rfl, rfl⟩
    go_wp2
    go_ret
    exact ⟨rfl, Grown.refl _⟩

set_option maxRecDepth 100000 in
theorem lifted (os : Os) (started : os.Started) (H : Type) (enc : TypeId × Value → H) :
    ReturnsInHanded {} Try.checked os 4 .any (Rows.numBackSpec.pre6 enc Try.prog Try.f4 Rows.numBackRow.domain false) (Rows.numBackSpec.post enc Try.prog Try.f4 false true false false) := by
  refine returnsInHanded_of_change (C := Try.checked) own started (by kernel_rfl) Try.func4
    (ChangeSpec.witness6 (enc := enc) (C := Try.checked) false ⟨#[], #[.int .i64 0, .int .i64 0], []⟩ 8 (by kernel_rfl) (by kernel_rfl) (by kernel_rfl) (by kernel_rfl)) ?_
  intro W base args ds gs before hval0 hW hcnd _
  have hval : ∀ (j : Nat) t v, Try.f4.params[j]? = some t → args[j]? = some v → Value.okWide Try.prog W .any base t v := hval0
  have hW' := hW
  obtain ⟨p, q, hA0, hV, rfl, hfz, hnd⟩ := hW
  have hA : DataW.TrodAll enc Try.prog W 0 (fun _ => true) true Try.f4.params.toList args.toList ds p := hA0
  rw [Try.params4] at hA hval
  obtain ⟨v0, vs0, d0, ds0, p0, q0, hargs, rfl, rfl, h0, r0⟩ := trodAll_cons hA
  obtain ⟨v1, vs1, d1, ds1, p1, q1, rfl, rfl, rfl, h1, r1⟩ := trodAll_cons r0
  obtain ⟨rfl, rfl, rfl⟩ := trodAll_nil r1
  obtain rfl : args = #[v0, v1] := by cases args; simp_all
  obtain ⟨rfl, rfl⟩ := trodVars_none hV
  obtain ⟨a0, rfl, rfl, rfl, w0⟩ := open_int Try.underlying2 (hval 0 2 v0 rfl rfl) h0
  obtain ⟨a1, rfl, rfl, rfl, w1⟩ := open_int Try.underlying2 (hval 1 2 v1 rfl rfl) h1
  clear hA0 hval0
  simp only [List.append_nil] at hW'
  refine (walk a0 a1 w0 w1 W).mono fun e W' ⟨he, hg⟩ => ?_
  subst he
  exact ⟨_, rfl, post_of_same (pa := []) (pv := []) hW' (fun _ _ _ => (trodAll_cons_mk (shut_bool Try.underlying4 _) trodAll_mk0)) (fun sp _ => (trodAll_cons_mk (shut_int Try.underlying2 w0) (trodAll_cons_mk (shut_int Try.underlying2 w1) trodAll_mk0))) (fun _ _ => rfl) rfl
    (hg.frame _) hg.2.1 (ok_one (by kernel_rfl) rfl (okWide_bool_mk Try.underlying4 _))⟩

theorem over : Rows.numBackRow.holds Try.pinned (OpenSpec.ofChange Rows.numBackSpec) :=
  OpenClaim.holds_of_wide 4 Try.f4 rfl rfl rfl rfl rfl rfl rfl ⟨rfl, rfl, rfl, rfl, rfl⟩ rfl rfl rfl rfl rfl (by kernel_rfl) Try.func4 (by kernel_rfl)
    (of_decide_eq_true (by kernel_rfl)) (by unfold Func.isWrapper; first | (rw [if_pos (by decide +kernel)]; kernel_rfl) | (rw [if_neg (by decide +kernel)]; exact ⟨rfl, rfl⟩))
    (fun os started H enc _ => lifted os started H enc)

theorem proved : Rows.NumBackSaid :=
  over
#print axioms proved
end Go.Proofs.Ytohfgjaajldccaa.numBack
