/-
  Stage 8's example, plainly: its levels, tracks, walks. No condition.
-/
import Derived.Test.YthhlfphnokdfaaaRtm
namespace Go.Proofs.Ythhlfphnokdfaaa
open Go.ChangeShapes Go.WideShapes Go.ChangeAt Go.RowKit
set_option linter.unusedVariables false
set_option linter.unusedSimpArgs false
namespace Ne
def net8 : Net := ⟨2, 1, 2, [⟨1, 2, 5⟩, ⟨1, 2, 3⟩]⟩
theorem net8_rch {k : Nat} {v : Int} (h : Dst net8 [0, 0] 1 k v) : (k = 0 ∧ v = 1) ∨ (k = 1 ∧ v = 2) := by
  induction h with
  | base => exact .inl ⟨rfl, rfl⟩
  | @step k r hr hx _ ih =>
    have hr2 : r < 4 := hr
    rcases ih with ⟨rfl, e⟩ | ⟨rfl, e⟩
    · match r, hr2 with
      | 0, _ => exact .inr ⟨rfl, by decide⟩
      | 1, _ => revert e; decide
      | 2, _ => exact .inr ⟨rfl, by decide⟩
      | 3, _ => revert e; decide
    · exfalso
      match r, hr2 with
      | 0, _ => revert e; decide
      | 1, _ => revert hx; decide
      | 2, _ => revert e; decide
      | 3, _ => revert hx; decide
theorem net8_lev : reE net8 [0, 0] 1 = 0 → IsLev net8 [0, 0] 1 [-1, 0, 1] := fun _ => by
  have h2 : Dst net8 [0, 0] 1 1 2 := Dst.step (n := net8) (r := 0) (by decide) (by decide) .base
  refine ⟨rfl, fun i hi => ?_, fun k v hd => ?_⟩
  · have hi2 : i < 3 := hi
    match i, hi2 with
    | 0, _ => exact .inl rfl
    | 1, _ => exact .inr ⟨0, rfl, .base⟩
    | 2, _ => exact .inr ⟨1, rfl, h2⟩
  · rcases net8_rch hd with ⟨rfl, rfl⟩ | ⟨rfl, rfl⟩
    · exact ⟨by decide, by decide⟩
    · exact ⟨by decide, by decide⟩
theorem net8_lead : leadL net8.l [0, 0] 1 [-1, 0, 1] (2 * net8.l.length) = [0, 2] := by decide
theorem net8_blk : reE net8 [0, 0] 1 = 0 → IsBlk net8.l (leadL net8.l [0, 0] 1 [-1, 0, 1] (2 * net8.l.length)) [0, 0] 1 net8.s net8.t [([0], 5), ([2], 3)] [5, 3] := fun _ => by
  rw [net8_lead]
  have hm : ∀ q : Nat, q ∈ ([0, 2] : List Nat) → q = 0 ∨ q = 2 := fun q hq => by simpa using hq
  refine ⟨.cons (g := [5, 0]) ?_ ⟨by decide, ⟨0, by decide, by decide⟩⟩ (by decide) (.cons (g := [5, 3]) ?_ ⟨by decide, ⟨2, by decide, by decide⟩⟩ (by decide) (.nil _)), fun R hW => ?_⟩
  · have h := FirstW.step (l := net8.l) (TL := [0, 2]) (f := [0, 0]) (x := 1) (t := 2) (r := 0) (R := []) (by decide) (by decide) (by decide) (show FirstW net8.l [0, 2] [0, 0] 1 2 2 [] from .done) (fun q _ _ _ hlt => absurd hlt (by omega))
    exact h
  · have h := FirstW.step (l := net8.l) (TL := [0, 2]) (f := [5, 0]) (x := 1) (t := 2) (r := 2) (R := []) (by decide) (by decide) (by decide) (show FirstW net8.l [0, 2] [5, 0] 1 2 2 [] from .done) (fun q hq _ hx hlt => by
      rcases hm q hq with rfl | rfl
      · exact absurd hx (by decide)
      · omega)
    exact h
  · rcases wlk_inv hW with ⟨_, e⟩ | ⟨q, Q, _, _, h1, h2, _⟩
    · revert e; decide
    · rcases hm q h1 with rfl | rfl
      · revert h2; decide
      · revert h2; decide
theorem net8_len : reE net8 [0, 0] 1 = 0 := by decide
theorem row_two (w : World) {b : Nat} (hb : b = w.heap.size) (x y : Int) (t : TypeId) : IRow (w.alloc (.cells #[.int .i64 x, .int .i64 y] t)) (some ⟨b, 0, none⟩) [x, y] := by
  subst hb
  refine .inr ⟨w.heap.size, 0, rfl, by simp, ?_⟩
  intro i z hi j v hv
  match i, hi with
  | 0, hi =>
    simp at hi; subst hi
    match j, hv with
    | 0, hv => simp [encI] at hv; subst hv; exact World.cell?_alloc_new w _ _ 0
    | (j + 1), hv => simp [encI] at hv
  | 1, hi =>
    simp at hi; subst hi
    match j, hv with
    | 0, hv => simp [encI] at hv; subst hv; exact World.cell?_alloc_new w _ _ 1
    | (j + 1), hv => simp [encI] at hv
  | (i + 2), hi => simp at hi
theorem arow_two (w : World) {b : Nat} (hb : b = w.heap.size) (a c : Arc) (t : TypeId) : ARow (w.alloc (.cells #[.int .i64 a.fr, .int .i64 a.to, .int .i64 a.cap, .int .i64 c.fr, .int .i64 c.to, .int .i64 c.cap] t)) (some ⟨b, 0, none⟩) [a, c] := by
  subst hb
  refine .inr ⟨w.heap.size, 0, rfl, by simp, ?_⟩
  intro i z hi j v hv
  have h := fun k => World.cell?_alloc_new w #[.int .i64 a.fr, .int .i64 a.to, .int .i64 a.cap, .int .i64 c.fr, .int .i64 c.to, .int .i64 c.cap] t k
  match i, hi with
  | 0, hi =>
    simp at hi; subst hi
    match j, hv with
    | 0, hv => simp [encA] at hv; subst hv; exact h 0
    | 1, hv => simp [encA] at hv; subst hv; exact h 1
    | 2, hv => simp [encA] at hv; subst hv; exact h 2
    | (j + 3), hv => simp [encA] at hv
  | 1, hi =>
    simp at hi; subst hi
    match j, hv with
    | 0, hv => simp [encA] at hv; subst hv; exact h 3
    | 1, hv => simp [encA] at hv; subst hv; exact h 4
    | 2, hv => simp [encA] at hv; subst hv; exact h 5
    | (j + 3), hv => simp [encA] at hv
  | (i + 2), hi => simp at hi
end Ne
end Go.Proofs.Ythhlfphnokdfaaa
