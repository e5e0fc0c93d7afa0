/-
  Contract of stage 14's shown. No condition.
-/
import Derived.Test.YthhlfphnokdfaaaCfl
import Derived.Test.YthhlfphnokdfaaaSamei
namespace Go.Proofs.Ythhlfphnokdfaaa
open Go.ChangeShapes Go.WideShapes Go.ChangeAt Go.RowKit
set_option linter.unusedVariables false
set_option linter.unusedSimpArgs false
namespace Ne
def net14 : Net := ⟨3, 1, 3, [⟨1, 2, 5⟩, ⟨2, 3, 3⟩]⟩
theorem net14_rch {v : Int} (h : Rch net14 [3, 3] 1 v) : v = 1 ∨ v = 2 := by
  induction h with
  | base => exact .inl rfl
  | @step r hr hx _ ih =>
    have hr2 : r < 4 := hr
    match r, hr2 with
    | 0, _ => exact .inr (by decide)
    | 1, _ => exact .inl (by decide)
    | 2, _ => exact absurd hx (by decide)
    | 3, _ => exact .inr (by decide)
theorem net14_reach : IsReach net14 [3, 3] 1 [false, true, true, false] := by
  refine ⟨rfl, rfl, fun i hi => ?_, fun r hr hx hm => ?_⟩
  · match i, hi with
    | 0, hi => cases hi
    | 1, _ => exact .base (n := net14)
    | 2, _ => exact Rch.step (n := net14) (r := 0) (by decide) (by decide) .base
    | 3, hi => cases hi
    | (i + 4), hi => simp at hi
  · have hr2 : r < 4 := hr
    match r, hr2 with
    | 0, _ => rfl
    | 1, _ => rfl
    | 2, _ => exact absurd hx (by decide)
    | 3, _ => rfl
theorem arow_pair (w : World) {b : Nat} (hb : b = w.heap.size) (a c : Arc) (t : TypeId) : ARow (w.alloc (.cells #[.int .i64 a.fr, .int .i64 a.to, .int .i64 a.cap, .int .i64 c.fr, .int .i64 c.to, .int .i64 c.cap] t)) (some ⟨b, 0, none⟩) [a, c] := by
  subst hb
  refine .inr ⟨w.heap.size, 0, rfl, by simp, ?_⟩
  intro i z hi j v hv
  have h := fun k => World.cell?_alloc_new w #[.int .i64 a.fr, .int .i64 a.to, .int .i64 a.cap, .int .i64 c.fr, .int .i64 c.to, .int .i64 c.cap] t k
  match i, hi with
  | 0, hi =>
    simp at hi; subst hi
    match j, hv with
    | 0, hv => simp [encA] at hv; subst hv; exact h 0
    | 1, hv => simp [encA] at hv; subst hv; exact h 1
    | 2, hv => simp [encA] at hv; subst hv; exact h 2
    | (j + 3), hv => simp [encA] at hv
  | 1, hi =>
    simp at hi; subst hi
    match j, hv with
    | 0, hv => simp [encA] at hv; subst hv; exact h 3
    | 1, hv => simp [encA] at hv; subst hv; exact h 4
    | 2, hv => simp [encA] at hv; subst hv; exact h 5
    | (j + 3), hv => simp [encA] at hv
  | (i + 2), hi => simp at hi
theorem irow_two (w : World) {b : Nat} (hb : b = w.heap.size) (x y : Int) (t : TypeId) : IRow (w.alloc (.cells #[.int .i64 x, .int .i64 y] t)) (some ⟨b, 0, none⟩) [x, y] := by
  subst hb
  refine .inr ⟨w.heap.size, 0, rfl, by simp, fun i z hz j v hv => ?_⟩
  have h : (w.alloc (.cells #[.int .i64 x, .int .i64 y] t)).heap[w.heap.size]? = some (.cells #[.int .i64 x, .int .i64 y] t (0, 0)) := by show (w.heap.push _)[w.heap.size]? = _; simp
  match j, hv with
  | 0, hv =>
    simp [encI] at hv; subst hv
    unfold World.cell?
    match i, hz with
    | 0, hz => simp at hz; subst hz; rw [show 0 + (0 * 1 + 0) = 0 from rfl]; simp only [h]; rfl
    | 1, hz => simp at hz; subst hz; rw [show 0 + (1 * 1 + 0) = 1 from rfl]; simp only [h]; rfl
    | (i + 2), hz => simp at hz
  | (j + 1), hv => simp [encI] at hv
set_option maxRecDepth 100000 in
set_option maxHeartbeats 1000000 in
theorem shown_any (w : World) : Calls Try.prog 7 #[] w fun e w' => e = .returned (.bool true) ∧ Below w.heap.size w w' := by
  have hA := arow_pair w rfl ⟨1, 2, 5⟩ ⟨2, 3, 3⟩ 43
  have HB1 := Lib.hid ((Below.refl w.heap.size w).alloc (Nat.le_refl _) (.cells #[.int .i64 1, .int .i64 2, .int .i64 5, .int .i64 2, .int .i64 3, .int .i64 3] 43))
  have HB2 := Lib.hid (HB1.out.alloc HB1.out.size (.cells #[.int .i64 3, .int .i64 3] 2))
  have hA2 := hA.kept ((Below.refl _ _).alloc (Nat.le_refl _) (.cells #[.int .i64 3, .int .i64 3] 2))
  have hI := irow_two (w.alloc (.cells #[.int .i64 1, .int .i64 2, .int .i64 5, .int .i64 2, .int .i64 3, .int .i64 3] 43)) (b := w.heap.size + 1) (by simp) 3 3 2
  have C := Lib.hid (first_any net14 (some ⟨w.heap.size, 0, none⟩) 2 (some ⟨w.heap.size + 1, 0, none⟩) 2 [3, 3] _ hA2 hI (by decide) (by simp [net14, in64]) [false, true, true, false] (fun _ => net14_reach))
  rw [show firV net14 [3, 3] [false, true, true, false] = [1, 2] by decide, show firE net14 [3, 3] [false, true, true, false] = 0 by decide] at C
  unfold net14 at C
  clear hA hA2 hI
  go_enter Try.func7, Try.ntmps7
  go_wp2_with fail
  refine C.out.mono ?_
  rintro e w1 ⟨o, c, rfl, ho, hb⟩
  have HB3 := Lib.hid (HB2.out.trans (hb.mono HB2.out.size))
  have HI := Lib.hid (own_irow ho)
  have HB4 := Lib.hid (HB3.out.alloc HB3.out.size (.cells #[.int .i64 1, .int .i64 2] 3))
  have HI2 := Lib.hid (HI.out.kept ((Below.refl w1.heap.size w1).alloc (Nat.le_refl _) (.cells #[.int .i64 1, .int .i64 2] 3)))
  have HS := Lib.hid (same_any o (some ⟨w1.heap.size, 0, none⟩) c 2 [1, 2] [1, 2] _ HI2.out (irow_two w1 rfl 1 2 3) (by decide) (by decide))
  rw [show decide ([(1 : Int), 2] = [1, 2]) = true by decide] at HS
  clear hb ho
  go_wp2_with fail
  refine HS.out.mono ?_
  rintro e w2 ⟨rfl, hb⟩
  have HB5 := Lib.hid (HB4.out.trans (hb.mono HB4.out.size))
  clear hb
  go_wp2
  go_ret
  exact ⟨rfl, HB5.out⟩
end Ne
end Go.Proofs.Ythhlfphnokdfaaa
