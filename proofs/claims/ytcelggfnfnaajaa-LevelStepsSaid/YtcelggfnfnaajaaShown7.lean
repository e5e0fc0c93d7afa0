/-
  Contract of stage 7's shown. No condition.
-/
import Derived.Test.YtcelggfnfnaajaaLev
import Derived.Test.YtcelggfnfnaajaaNbox
namespace Go.Proofs.Ytcelggfnfnaajaa
open Go.ChangeShapes Go.WideShapes Go.ChangeAt Go.RowKit
set_option linter.unusedVariables false
set_option linter.unusedSimpArgs false
namespace Ne
def net7 : Net := ⟨2, 1, 2, [⟨1, 2, 5⟩]⟩
theorem net7_ok : chkF net7 [5] = 0 := by decide
theorem net7_far {k : Nat} {v : Int} (h : Dst net7 [5] 1 k v) : k = 0 ∧ v = 1 := by
  induction h with
  | base => exact ⟨rfl, rfl⟩
  | @step k r hr hx _ ih =>
    exfalso
    obtain ⟨_, e⟩ := ih
    have hr2 : r < 2 := hr
    match r, hr2 with
    | 0, _ => revert hx; decide
    | 1, _ => revert e; decide
theorem net7_lev : reE net7 [5] 1 = 0 → IsLev net7 [5] 1 [-1, 0, -1] := fun _ => by
  refine ⟨rfl, fun i hi => ?_, fun k v hd => ?_⟩
  · have hi2 : i < 3 := hi
    match i, hi2 with
    | 0, _ => exact .inl rfl
    | 1, _ => exact .inr ⟨0, rfl, .base⟩
    | 2, _ => exact .inl rfl
  · obtain ⟨rfl, rfl⟩ := net7_far hd
    exact ⟨by decide, by decide⟩
set_option maxHeartbeats 2000000 in
theorem shown_any (w : World) : Calls Try.prog 10 #[] w fun e w' => e = .returned (.bool true) ∧ Below w.heap.size w w' := by
  have hA := arow_at1 w rfl ⟨1, 2, 5⟩
  have HB := Lib.hid (((Below.refl w.heap.size w).alloc (Nat.le_refl _) (.cells #[.int .i64 1, .int .i64 2, .int .i64 5] 53)).alloc (by simp) (.cells #[.int .i64 5] 2))
  have hA2 := hA.kept ((Below.refl _ _).alloc (Nat.le_refl _) (.cells #[.int .i64 5] 2))
  have hI := irow_one' (w.alloc (.cells #[.int .i64 1, .int .i64 2, .int .i64 5] 53)) (b := w.heap.size + 1) (by simp) 5 2
  have e0 : reE net7 [5] 1 = 0 := by decide
  have C := Lib.hid (dlevels_any net7 (some ⟨w.heap.size, 0, none⟩) 1 (some ⟨w.heap.size + 1, 0, none⟩) 1 [5] 1 [-1, 0, -1] _ hA2 hI (by decide) (by simp [in64, net7]) net7_lev)
  rw [e0, (lvV_ok e0).1] at C
  unfold net7 at C
  clear hA hA2 hI e0
  go_enter Try.func10, Try.ntmps10
  go_wp2_with fail
  refine C.out.mono ?_
  rintro e w1 ⟨o, c, rfl, hi, hb⟩
  have HB1 := Lib.hid (HB.out.trans (hb.mono (by simp; omega)))
  obtain ⟨b0, o0, rfl, _, d0⟩ := irow_cell hi (i := 0) (by simp)
  obtain ⟨b1, o1, he1, _, d1⟩ := irow_cell hi (i := 1) (by simp)
  obtain ⟨b2, o2, he2, _, d2⟩ := irow_cell hi (i := 2) (by simp)
  simp only [Option.some.injEq, Addr.mk.injEq, and_true] at he1 he2
  obtain ⟨rfl, rfl⟩ := he1
  obtain ⟨rfl, rfl⟩ := he2
  simp [amt] at d0 d1 d2
  clear hb hi
  go_wp2
  go_ret
  exact ⟨rfl, HB1.out⟩
end Ne
end Go.Proofs.Ytcelggfnfnaajaa
