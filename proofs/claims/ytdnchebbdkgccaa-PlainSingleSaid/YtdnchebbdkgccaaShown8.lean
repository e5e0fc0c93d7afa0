/-
  Contract of stage 8's shown. No condition.
-/
import Derived.Test.YtdnchebbdkgccaaSr5
namespace Go.Proofs.Ytdnchebbdkgccaa
open Go.ChangeShapes Go.WideShapes Go.ChangeAt Go.RowKit
set_option linter.unusedVariables false
set_option linter.unusedSimpArgs false
namespace Ne
def net8 : Net := ⟨2, 1, 2, [⟨1, 2, 5⟩, ⟨1, 2, 3⟩]⟩
theorem net8_rch {k : Nat} {v : Int} (h : Dst net8 [0, 0] 1 k v) : (k = 0 ∧ v = 1) ∨ (k = 1 ∧ v = 2) := by
  induction h with
  | base => exact .inl ⟨rfl, rfl⟩
  | @step k r hr hx _ ih =>
    have hr2 : r < 4 := hr
    rcases ih with ⟨rfl, e⟩ | ⟨rfl, e⟩
    · match r, hr2 with
      | 0, _ => exact .inr ⟨rfl, by decide⟩
      | 1, _ => revert e; decide
      | 2, _ => exact .inr ⟨rfl, by decide⟩
      | 3, _ => revert e; decide
    · exfalso
      match r, hr2 with
      | 0, _ => revert e; decide
      | 1, _ => revert hx; decide
      | 2, _ => revert e; decide
      | 3, _ => revert hx; decide
theorem net8_lev : reE net8 [0, 0] 1 = 0 → IsLev net8 [0, 0] 1 [-1, 0, 1] := fun _ => by
  have h2 : Dst net8 [0, 0] 1 1 2 := Dst.step (n := net8) (r := 0) (by decide) (by decide) .base
  refine ⟨rfl, fun i hi => ?_, fun k v hd => ?_⟩
  · have hi2 : i < 3 := hi
    match i, hi2 with
    | 0, _ => exact .inl rfl
    | 1, _ => exact .inr ⟨0, rfl, .base⟩
    | 2, _ => exact .inr ⟨1, rfl, h2⟩
  · rcases net8_rch hd with ⟨rfl, rfl⟩ | ⟨rfl, rfl⟩
    · exact ⟨by decide, by decide⟩
    · exact ⟨by decide, by decide⟩
theorem net8_lead : leadL net8.l [0, 0] 1 [-1, 0, 1] (2 * net8.l.length) = [0, 2] := by decide
theorem net8_blk : reE net8 [0, 0] 1 = 0 → IsBlk net8.l (leadL net8.l [0, 0] 1 [-1, 0, 1] (2 * net8.l.length)) [0, 0] 1 net8.s net8.t [([0], 5), ([2], 3)] [5, 3] := fun _ => by
  rw [net8_lead]
  have hm : ∀ q : Nat, q ∈ ([0, 2] : List Nat) → q = 0 ∨ q = 2 := fun q hq => by simpa using hq
  refine ⟨.cons (g := [5, 0]) ?_ ⟨by decide, ⟨0, by decide, by decide⟩⟩ (by decide) (.cons (g := [5, 3]) ?_ ⟨by decide, ⟨2, by decide, by decide⟩⟩ (by decide) (.nil _)), fun R hW => ?_⟩
  · have h := FirstW.step (l := net8.l) (TL := [0, 2]) (f := [0, 0]) (x := 1) (t := 2) (r := 0) (R := []) (by decide) (by decide) (by decide) (show FirstW net8.l [0, 2] [0, 0] 1 2 2 [] from .done) (fun q _ _ _ hlt => absurd hlt (by omega))
    exact h
  · have h := FirstW.step (l := net8.l) (TL := [0, 2]) (f := [5, 0]) (x := 1) (t := 2) (r := 2) (R := []) (by decide) (by decide) (by decide) (show FirstW net8.l [0, 2] [5, 0] 1 2 2 [] from .done) (fun q hq _ hx hlt => by
      rcases hm q hq with rfl | rfl
      · exact absurd hx (by decide)
      · omega)
    exact h
  · rcases wlk_inv hW with ⟨_, e⟩ | ⟨q, Q, _, _, h1, h2, _⟩
    · revert e; decide
    · rcases hm q h1 with rfl | rfl
      · revert h2; decide
      · revert h2; decide
theorem net8_len : reE net8 [0, 0] 1 = 0 := by decide
theorem row_two (w : World) {b : Nat} (hb : b = w.heap.size) (x y : Int) (t : TypeId) : IRow (w.alloc (.cells #[.int .i64 x, .int .i64 y] t)) (some ⟨b, 0, none⟩) [x, y] := by
  subst hb
  refine .inr ⟨w.heap.size, 0, rfl, by simp, ?_⟩
  intro i z hi j v hv
  match i, hi with
  | 0, hi =>
    simp at hi; subst hi
    match j, hv with
    | 0, hv => simp [encI] at hv; subst hv; exact World.cell?_alloc_new w _ _ 0
    | (j + 1), hv => simp [encI] at hv
  | 1, hi =>
    simp at hi; subst hi
    match j, hv with
    | 0, hv => simp [encI] at hv; subst hv; exact World.cell?_alloc_new w _ _ 1
    | (j + 1), hv => simp [encI] at hv
  | (i + 2), hi => simp at hi
theorem arow_two (w : World) {b : Nat} (hb : b = w.heap.size) (a c : Arc) (t : TypeId) : ARow (w.alloc (.cells #[.int .i64 a.fr, .int .i64 a.to, .int .i64 a.cap, .int .i64 c.fr, .int .i64 c.to, .int .i64 c.cap] t)) (some ⟨b, 0, none⟩) [a, c] := by
  subst hb
  refine .inr ⟨w.heap.size, 0, rfl, by simp, ?_⟩
  intro i z hi j v hv
  have h := fun k => World.cell?_alloc_new w #[.int .i64 a.fr, .int .i64 a.to, .int .i64 a.cap, .int .i64 c.fr, .int .i64 c.to, .int .i64 c.cap] t k
  match i, hi with
  | 0, hi =>
    simp at hi; subst hi
    match j, hv with
    | 0, hv => simp [encA] at hv; subst hv; exact h 0
    | 1, hv => simp [encA] at hv; subst hv; exact h 1
    | 2, hv => simp [encA] at hv; subst hv; exact h 2
    | (j + 3), hv => simp [encA] at hv
  | 1, hi =>
    simp at hi; subst hi
    match j, hv with
    | 0, hv => simp [encA] at hv; subst hv; exact h 3
    | 1, hv => simp [encA] at hv; subst hv; exact h 4
    | 2, hv => simp [encA] at hv; subst hv; exact h 5
    | (j + 3), hv => simp [encA] at hv
  | (i + 2), hi => simp at hi
set_option maxHeartbeats 2000000 in
theorem shown_any (w : World) : Calls Try.prog 10 #[] w fun e w' => e = .returned (.bool true) ∧ Below w.heap.size w w' := by
  have hA := arow_two w rfl ⟨1, 2, 5⟩ ⟨1, 2, 3⟩ 67
  have HB := Lib.hid (((Below.refl w.heap.size w).alloc (Nat.le_refl _) (.cells #[.int .i64 1, .int .i64 2, .int .i64 5, .int .i64 1, .int .i64 2, .int .i64 3] 67)).alloc (by simp) (.cells #[.int .i64 0, .int .i64 0] 2))
  have hA2 := hA.kept ((Below.refl _ _).alloc (Nat.le_refl _) (.cells #[.int .i64 0, .int .i64 0] 2))
  have hI := row_two (w.alloc (.cells #[.int .i64 1, .int .i64 2, .int .i64 5, .int .i64 1, .int .i64 2, .int .i64 3] 67)) (b := w.heap.size + 1) (by simp) 0 0 2
  have C := Lib.hid (dblock_any net8 (some ⟨w.heap.size, 0, none⟩) 2 (some ⟨w.heap.size + 1, 0, none⟩) 2 [0, 0] 1 [-1, 0, 1] [([0], 5), ([2], 3)] [5, 3] _ hA2 hI (by decide) (by simp [in64, net8]) net8_lev net8_blk)
  rw [show blG net8 [0, 0] 1 [5, 3] = [5, 3] from rfl, show blW net8 [0, 0] 1 [([0], 5), ([2], 3)] = [([0], 5), ([2], 3)] from rfl, net8_len] at C
  unfold net8 at C
  clear hA hA2 hI
  go_enter Try.func10, Try.ntmps10
  go_wp2_with fail
  refine C.out.mono ?_
  rintro e w1 ⟨o, c, wv, rfl, hi, hw, hb⟩
  have HB1 := Lib.hid (HB.out.trans (hb.mono (by simp; omega)))
  obtain ⟨b0, o0, rfl, _, d0⟩ := irow_cell hi (i := 0) (by simp)
  obtain ⟨b1, o1, he1, _, d1⟩ := irow_cell hi (i := 1) (by simp)
  simp only [Option.some.injEq, Addr.mk.injEq, and_true] at he1
  obtain ⟨rfl, rfl⟩ := he1
  simp [amt] at d0 d1
  obtain ⟨g, cc, ot, m, am, rfl, _, _, e0, e1, ha, _⟩ := hw.at (i := 0) (by simp)
  obtain ⟨g2, cc2, ot2, m2, am2, he2, _, _, f0, f1, ha2, _⟩ := hw.at (i := 1) (by simp)
  simp only [Value.slice.injEq, Option.some.injEq, Addr.mk.injEq, and_true, true_and] at he2
  obtain ⟨rfl, rfl⟩ := he2
  have ha' : am = 5 := ha
  have ha2' : am2 = 3 := ha2
  subst ha'
  subst ha2'
  simp at e1 f1
  clear hb hi hw ha ha2 e0 f0
  go_wp2
  go_ret
  exact ⟨rfl, HB1.out⟩
end Ne
end Go.Proofs.Ytdnchebbdkgccaa
