/-
  Stage 9: contracts of the laws' shown and turned. No condition.
-/
import Derived.Test.YtlkigpmjhojceaaSpe
import Derived.Test.YtlkigpmjhojceaaSamei
namespace Go.Proofs.Ytlkigpmjhojceaa
open Go.ChangeShapes Go.WideShapes Go.ChangeAt Go.RowKit
set_option linter.unusedVariables false
set_option linter.unusedSimpArgs false
namespace Sp
theorem row_three (w : World) {b : Nat} (hb : b = w.heap.size) (x y z : Int) (T : TypeId) : Ne.IRow (w.alloc (.cells #[.int .i64 x, .int .i64 y, .int .i64 z] T)) (some ⟨b, 0, none⟩) [x, y, z] := by
  subst hb
  refine .inr ⟨w.heap.size, 0, rfl, by simp, fun i a hi j v hv => ?_⟩
  have h1 : j = 0 := by
    rcases j with _ | j
    · rfl
    · simp [Ne.encI] at hv
  subst h1
  simp [Ne.encI] at hv
  subst hv
  rcases i with _ | _ | _ | i
  · simp at hi; subst hi; exact World.cell?_alloc_new w _ _ 0
  · simp at hi; subst hi; exact World.cell?_alloc_new w _ _ 1
  · simp at hi; subst hi; exact World.cell?_alloc_new w _ _ 2
  · simp at hi
set_option maxRecDepth 100000 in
set_option maxHeartbeats 4000000 in
theorem turned_any {w : World} {B p : Nat} {s : St} {K : List (Value × List Nat)} (h : One w B p s K) (hr : rowZ (turnS s 1) 0 = [2, 1, 0]) :
    Calls Try.prog 36 #[.pointer (some ⟨p, 0, none⟩)] w fun e w' => e = .returned (.bool true) ∧ Below B w w' := by
  have TU := Lib.hid (one_turn h 1)
  have RW := Lib.hid (fun (w1 : World) (h1 : One w1 B p (turnS s 1) K) => one_row h1 0)
  rw [hr] at RW
  have HS := Lib.hid h.size
  clear h hr
  generalize turnS s 1 = s2 at *
  go_enter Try.func36, Try.ntmps36
  go_wp2_with fail
  refine TU.out.mono ?_
  rintro e w1 ⟨rfl, h1, hb⟩
  have H1 := Lib.hid h1
  have HB1 := Lib.hid hb
  clear h1 hb
  go_wp2_with fail
  refine (RW.out w1 H1.out).mono ?_
  rintro e w2 ⟨o, c, rfl, h2, hb⟩
  have HI := Lib.hid ((Ne.own_irow (h2.row (List.mem_cons_self))).kept ((Below.refl _ _).alloc (Nat.le_refl _) (.cells #[.int .i64 2, .int .i64 1, .int .i64 0] 3)))
  have HB2 := Lib.hid (HB1.out.trans hb)
  have HB3 := Lib.hid (HB2.out.alloc h2.size (.cells #[.int .i64 2, .int .i64 1, .int .i64 0] 3))
  have HR3 := Lib.hid (row_three w2 rfl 2 1 0 3)
  have SM := Lib.hid (Ne.same_any o (some ⟨w2.heap.size, 0, none⟩) c 3 (Ne.encW [2, 1, 0]) [2, 1, 0] _ HI.out HR3.out (by simp [Ne.encW]) (by simp))
  rw [show decide (Ne.encW [2, 1, 0] = [2, 1, 0]) = true by decide] at SM
  have hs3 : B ≤ (w2.alloc (.cells #[.int .i64 2, .int .i64 1, .int .i64 0] 3)).heap.size := by have := h2.size; simp; omega
  clear h2 hb
  go_wp2_with fail
  refine SM.out.mono ?_
  rintro e w3 ⟨rfl, hb⟩
  have HB4 := Lib.hid (HB3.out.trans (hb.mono hs3))
  clear hb
  go_wp2
  go_ret
  exact ⟨rfl, HB4.out⟩
set_option maxRecDepth 100000 in
set_option maxHeartbeats 4000000 in
theorem shown_any (w : World) : Calls Try.prog 10 #[] w fun e w' => e = .returned (.bool true) ∧ Below w.heap.size w w' := by
  have HB0 := Lib.hid ((Below.refl w.heap.size w).alloc (Nat.le_refl _) (.cells #[.int .i64 5, .int .i64 6, .int .i64 7] 2))
  have NW := Lib.hid (dnew_any (some ⟨w.heap.size, 0, none⟩) 3 [5, 6, 7] _ (row_three w rfl 5 6 7 2) (fun h => by cases h))
  have hne : newE [5, 6, 7] = 0 := by decide
  rw [hne] at NW
  have e1 : joinE (newS [5, 6, 7]) 0 1 = 0 := by decide
  have e2 : joinE (joinS (newS [5, 6, 7]) 0 1) 0 2 = 0 := by decide
  have e3 : rowZ (turnS (joinS (joinS (newS [5, 6, 7]) 0 1) 0 2) 1) 0 = [2, 1, 0] := by decide
  generalize newS [5, 6, 7] = s0 at *
  go_enter Try.func10, Try.ntmps10
  go_wp2_with fail
  refine NW.out.mono ?_
  rintro e w1 ⟨hb, pv, rfl, _, h0⟩
  obtain ⟨p, rfl, h9⟩ := h0 (by trivial)
  have HB1 := Lib.hid (HB0.out.trans (hb.mono HB0.out.size))
  have H1 := Lib.hid (show One w1 (w.alloc (.cells #[.int .i64 5, .int .i64 6, .int .i64 7] 2)).heap.size p s0 [] from ⟨_, _, _, hb.size, h9, fun v l hv => by simp at hv⟩)
  have hbs : w.heap.size ≤ (w.alloc (.cells #[.int .i64 5, .int .i64 6, .int .i64 7] 2)).heap.size := HB0.out.size
  generalize (w.alloc (.cells #[.int .i64 5, .int .i64 6, .int .i64 7] 2)).heap.size = B at *
  clear hb h0 h9
  go_wp2_with fail
  refine (one_join H1.out 0 1).mono ?_
  rintro e w2 ⟨he, h2, hb⟩
  rw [e1] at he
  subst he
  have H2 := Lib.hid h2
  have HB2 := Lib.hid (HB1.out.trans (hb.mono hbs))
  clear h2 hb
  go_wp2_with fail
  refine (one_join H2.out 0 2).mono ?_
  rintro e w3 ⟨he, h3, hb⟩
  rw [e2] at he
  subst he
  have H3 := Lib.hid h3
  have HB3 := Lib.hid (HB2.out.trans (hb.mono hbs))
  clear h3 hb
  go_wp2_with fail
  refine (turned_any H3.out e3).mono ?_
  rintro e w4 ⟨rfl, hb⟩
  have HB4 := Lib.hid (HB3.out.trans (hb.mono hbs))
  clear hb
  go_wp2
  go_ret
  exact ⟨rfl, HB4.out⟩
end Sp
end Go.Proofs.Ytlkigpmjhojceaa
