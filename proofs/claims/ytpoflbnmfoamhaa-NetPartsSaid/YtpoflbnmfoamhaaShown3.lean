/-
  Contract of chapter 3's example. No condition.
-/
import Derived.Test.YtpoflbnmfoamhaaChk
import Derived.Test.YtpoflbnmfoamhaaDsame
namespace Go.Proofs.Ytpoflbnmfoamhaa
open Go.ChangeShapes Go.WideShapes Go.ChangeAt Go.RowKit
set_option linter.unusedVariables false
namespace Ne
theorem arow_at1 (w : World) {b : Nat} (hb : b = w.heap.size) (a : Arc) : ARow (w.alloc (.cells #[.int .i64 a.fr, .int .i64 a.to, .int .i64 a.cap] 35)) (some ⟨b, 0, none⟩) [a] := by
  subst hb
  refine .inr ⟨w.heap.size, 0, rfl, by simp, ?_⟩
  intro i y hi j v hv
  match i, hi with
  | 0, hi =>
    simp at hi; subst hi
    match j, hv with
    | 0, hv => simp [encA] at hv; subst hv; exact World.cell?_alloc_new w _ _ 0
    | 1, hv => simp [encA] at hv; subst hv; exact World.cell?_alloc_new w _ _ 1
    | 2, hv => simp [encA] at hv; subst hv; exact World.cell?_alloc_new w _ _ 2
    | (j + 3), hv => simp [encA] at hv
  | (i + 1), hi => simp at hi
set_option maxHeartbeats 1000000 in
theorem shown_any (w : World) : Calls Try.prog 10 #[] w fun e w' => e = .returned (.bool true) ∧ Below w.heap.size w w' := by
  have HB := Lib.hid ((Below.refl w.heap.size w).alloc (Nat.le_refl _) (.cells #[.int .i64 1, .int .i64 3, .int .i64 5] 35))
  have c := check_any ⟨2, 1, 2, [⟨1, 3, 5⟩]⟩ (some ⟨w.heap.size, 0, none⟩) 1 (w.alloc (.cells #[.int .i64 1, .int .i64 3, .int .i64 5] 35)) (arow_at1 w rfl ⟨1, 3, 5⟩) (by simp) (by simp [in64])
  have e1 : checkN ⟨2, 1, 2, [⟨1, 3, 5⟩]⟩ = 4 := by decide
  rw [e1] at c
  have C := Lib.hid c
  have D := Lib.hid fun w' => dsame_any ⟨2, 0, 0, []⟩ ⟨2, 0, 0, []⟩ none none 0 0 w' (.inl rfl) (.inl rfl) (by simp) (by simp)
  have E := Lib.hid (show sameN ⟨2, 0, 0, []⟩ ⟨2, 0, 0, []⟩ = true by decide)
  clear c e1
  go_enter Try.func10, Try.ntmps10
  go_wp2_with fail
  refine C.out.mono ?_
  rintro e w1 ⟨rfl, hb⟩
  have HB1 := Lib.hid (HB.out.trans (hb.mono (by simp)))
  clear hb
  go_wp2_with fail
  refine (D.out w1).mono ?_
  rw [E.out]
  rintro e w2 ⟨rfl, hb⟩
  have HB2 := Lib.hid (HB1.out.trans (hb.mono HB1.out.size))
  clear hb
  go_wp2
  go_ret
  exact ⟨rfl, HB2.out⟩
end Ne
end Go.Proofs.Ytpoflbnmfoamhaa
