/-
  Contract of stage 15's shown. No condition.
-/
import Derived.Test.YtkeojkddbannpaaRsh
namespace Go.Proofs.Ytkeojkddbannpaa
open Go.ChangeShapes Go.WideShapes Go.ChangeAt Go.RowKit
set_option linter.unusedVariables false
set_option linter.unusedSimpArgs false
namespace Dc
open Go.Proofs.Ytkeojkddbannpaa.Ne
def net15 : Net := ⟨2, 1, 2, [⟨1, 2, 5⟩, ⟨2, 1, 2⟩]⟩
theorem net15_chk : chkF net15 [5, 2] = 0 := by decide
theorem net15_spl : (splA net15 [5, 2]).map Itm.z = [⟨112, [0], 3⟩, ⟨99, [0, 1], 2⟩] := by rfl
theorem arow_pair (w : World) {b : Nat} (hb : b = w.heap.size) (p q : Arc) (T : TypeId) : ARow (w.alloc (.cells #[.int .i64 p.fr, .int .i64 p.to, .int .i64 p.cap, .int .i64 q.fr, .int .i64 q.to, .int .i64 q.cap] T)) (some ⟨b, 0, none⟩) [p, q] := by
  subst hb
  refine .inr ⟨w.heap.size, 0, rfl, by simp, ?_⟩
  intro i y hi j v hv
  match i, hi with
  | 0, hi =>
    cases hi
    match j, hv with
    | 0, hv => cases hv; exact World.cell?_alloc_new w _ _ 0
    | 1, hv => cases hv; exact World.cell?_alloc_new w _ _ 1
    | 2, hv => cases hv; exact World.cell?_alloc_new w _ _ 2
  | 1, hi =>
    cases hi
    match j, hv with
    | 0, hv => cases hv; exact World.cell?_alloc_new w _ _ 3
    | 1, hv => cases hv; exact World.cell?_alloc_new w _ _ 4
    | 2, hv => cases hv; exact World.cell?_alloc_new w _ _ 5
theorem irow_pair (w : World) {b : Nat} (hb : b = w.heap.size) (x y : Int) (T : TypeId) : IRow (w.alloc (.cells #[.int .i64 x, .int .i64 y] T)) (some ⟨b, 0, none⟩) [x, y] := by
  subst hb
  refine .inr ⟨w.heap.size, 0, rfl, by simp, ?_⟩
  intro i z hi j v hv
  match i, hi with
  | 0, hi =>
    cases hi
    match j, hv with
    | 0, hv => cases hv; exact World.cell?_alloc_new w _ _ 0
  | 1, hi =>
    cases hi
    match j, hv with
    | 0, hv => cases hv; exact World.cell?_alloc_new w _ _ 1
set_option maxHeartbeats 2000000 in
theorem shown_any (w : World) : Calls Try.prog 9 #[] w fun e w' => e = .returned (.bool true) ∧ Below w.heap.size w w' := by
  have hA := arow_pair w rfl ⟨1, 2, 5⟩ ⟨2, 1, 2⟩ 53
  have HB := Lib.hid (((Below.refl w.heap.size w).alloc (Nat.le_refl _) (.cells #[.int .i64 1, .int .i64 2, .int .i64 5, .int .i64 2, .int .i64 1, .int .i64 2] 53)).alloc (by simp) (.cells #[.int .i64 5, .int .i64 2] 2))
  have hA2 := hA.kept ((Below.refl _ _).alloc (Nat.le_refl _) (.cells #[.int .i64 5, .int .i64 2] 2))
  have hI := irow_pair (w.alloc (.cells #[.int .i64 1, .int .i64 2, .int .i64 5, .int .i64 2, .int .i64 1, .int .i64 2] 53)) (b := w.heap.size + 1) (by simp) 5 2 2
  have C := Lib.hid (split_any net15 (some ⟨w.heap.size, 0, none⟩) 2 (some ⟨w.heap.size + 1, 0, none⟩) 2 [5, 2] _ hA2 hI (by decide) (by simp [in64, net15]))
  rw [net15_chk] at C
  unfold net15 at C
  clear hA hA2 hI
  go_enter Try.func9, Try.ntmps9
  go_wp2_with fail
  refine C.out.mono ?_
  rintro e w1 ⟨v, rfl, hs, hb⟩
  have HB1 := Lib.hid (HB.out.trans (hb.mono (by simp; omega)))
  have hg := hs.good net15_chk
  have hz := net15_spl
  unfold net15 at hz
  rw [hz] at hg
  obtain ⟨o, c, rfl, _, _, _, hr, _⟩ := hg.val
  obtain ⟨b, off, ao, c1, rfl, _, d0, d1, d2, _⟩ := hr.at (i := 0) (by simp)
  obtain ⟨b', off', ao2, c2, e, _, e0, e1, e2, _⟩ := hr.at (i := 1) (by simp)
  simp only [Option.some.injEq, Addr.mk.injEq, and_true] at e
  obtain ⟨rfl, rfl⟩ := e
  simp [itAt] at d0 d1 d2 e0 e1 e2
  clear hb hs hg hz hr C
  go_wp2
  go_ret
  exact ⟨rfl, HB1.out⟩
end Dc
end Go.Proofs.Ytkeojkddbannpaa
