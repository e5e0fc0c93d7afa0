/-
  Stage 10: contract of the laws' shown. No condition.
-/
import Derived.Test.YtjhodnpmogkmmaaFle
import Derived.Test.YtjhodnpmogkmmaaSamei
namespace Go.Proofs.Ytjhodnpmogkmmaa
open Go.ChangeShapes Go.WideShapes Go.ChangeAt Go.RowKit
set_option linter.unusedVariables false
set_option linter.unusedSimpArgs false
namespace Fo
theorem row_three (w : World) {b : Nat} (hb : b = w.heap.size) (x y z : Int) (T : TypeId) : Ne.IRow (w.alloc (.cells #[.int .i64 x, .int .i64 y, .int .i64 z] T)) (some ⟨b, 0, none⟩) [x, y, z] := by
  subst hb
  refine .inr ⟨w.heap.size, 0, rfl, by simp, fun i a hi j v hv => ?_⟩
  have h1 : j = 0 := by
    rcases j with _ | j
    · rfl
    · simp [Ne.encI] at hv
  subst h1
  simp [Ne.encI] at hv
  subst hv
  rcases i with _ | _ | _ | i
  · simp at hi; subst hi; exact World.cell?_alloc_new w _ _ 0
  · simp at hi; subst hi; exact World.cell?_alloc_new w _ _ 1
  · simp at hi; subst hi; exact World.cell?_alloc_new w _ _ 2
  · simp at hi
set_option maxRecDepth 100000 in
set_option maxHeartbeats 4000000 in
theorem shown_any (w : World) : Calls Try.prog 10 #[] w fun e w' => e = .returned (.bool true) ∧ Below w.heap.size w w' := by
  have HB0 := Lib.hid ((Below.refl w.heap.size w).alloc (Nat.le_refl _) (.cells (madeCells #[.int .i64 0] 3) 2))
  have NW := Lib.hid (fnew_any (some ⟨w.heap.size, 0, none⟩) 3 [0, 0, 0] (w.alloc (.cells (madeCells #[.int .i64 0] 3) 2)) (by exact (Ne.lbox_made w 3 rfl).irow) (fun h => by cases h))
  have hne : Sp.newE [0, 0, 0] = 0 := by decide
  rw [hne] at NW
  have e1 : linkE (newS [0, 0, 0]) 0 1 = 0 := by decide
  have e2 : linkE (linkS (newS [0, 0, 0]) 0 1) 1 2 = 0 := by decide
  have e3 : pathZ (linkS (linkS (newS [0, 0, 0]) 0 1) 1 2) 0 = [2, 1, 0] := by decide
  have hmk := fun w' : World => (show (Instr.makeSlice 22 (.int .i64 3) (.int .i64 3)).run Try.prog w' = .ok (.slice (some ⟨w'.heap.size, 0, none⟩) 3 3) (w'.alloc (.cells (madeCells #[.int .i64 0] 3) 2)) from Ne.make_l 3 (by omega) w')
  generalize newS [0, 0, 0] = s0 at *
  go_enter Try.func10, Try.ntmps10
  go_wp2_with fail
  refine NW.out.mono ?_
  rintro e w1 ⟨hb, pv, rfl, _, h0⟩
  obtain ⟨p, rfl, h9⟩ := h0 (by trivial)
  have HB1 := Lib.hid (HB0.out.trans (hb.mono HB0.out.size))
  have H1 := Lib.hid (show One w1 (w.alloc (.cells (madeCells #[.int .i64 0] 3) 2)).heap.size p s0 [] from ⟨_, _, _, hb.size, h9, fun v l hv => by simp at hv⟩)
  have hbs : w.heap.size ≤ (w.alloc (.cells (madeCells #[.int .i64 0] 3) 2)).heap.size := HB0.out.size
  generalize (w.alloc (.cells (madeCells #[.int .i64 0] 3) 2)).heap.size = B at *
  clear hb h0 h9 hmk
  go_wp2_with fail
  refine (one_link H1.out 0 1).mono ?_
  rintro e w2 ⟨he, h2, hb⟩
  rw [e1] at he
  subst he
  have H2 := Lib.hid h2
  have HB2 := Lib.hid (HB1.out.trans (hb.mono hbs))
  clear h2 hb
  go_wp2_with fail
  refine (one_link H2.out 1 2).mono ?_
  rintro e w3 ⟨he, h3, hb⟩
  rw [e2] at he
  subst he
  have H3 := Lib.hid h3
  have HB3 := Lib.hid (HB2.out.trans (hb.mono hbs))
  clear h3 hb
  generalize linkS (linkS s0 0 1) 1 2 = s3 at *
  go_wp2_with fail
  refine (one_path H3.out 0).mono ?_
  rintro e w4 ⟨o, c, rfl, h4, hb⟩
  rw [e3] at h4 ⊢
  have HI := Lib.hid ((Ne.own_irow (h4.row (List.mem_cons_self))).kept ((Below.refl _ _).alloc (Nat.le_refl _) (.cells #[.int .i64 2, .int .i64 1, .int .i64 0] 3)))
  have HB4 := Lib.hid (HB3.out.trans (hb.mono hbs))
  have HB5 := Lib.hid (HB4.out.alloc HB4.out.size (.cells #[.int .i64 2, .int .i64 1, .int .i64 0] 3))
  have HR3 := Lib.hid (row_three w4 rfl 2 1 0 3)
  have SM := Lib.hid (Ne.same_any o (some ⟨w4.heap.size, 0, none⟩) c 3 (Ne.encW [2, 1, 0]) [2, 1, 0] _ HI.out HR3.out (by simp [Ne.encW]) (by simp))
  rw [show decide (Ne.encW [2, 1, 0] = [2, 1, 0]) = true by decide] at SM
  clear h4 hb
  go_wp2_with fail
  refine SM.out.mono ?_
  rintro e w5 ⟨rfl, hb⟩
  have HB6 := Lib.hid (HB5.out.trans (hb.mono HB5.out.size))
  clear hb
  go_wp2
  go_ret
  exact ⟨rfl, HB6.out⟩
end Fo
end Go.Proofs.Ytjhodnpmogkmmaa
