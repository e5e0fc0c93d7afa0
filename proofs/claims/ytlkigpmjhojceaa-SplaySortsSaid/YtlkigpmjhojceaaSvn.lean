/-
  Stage 9: contracts of the knots' small functions: has, count, side, turn, add, hang. No condition.
-/
import Derived.Test.YtlkigpmjhojceaaSvm
import Derived.RegionTactic
import Derived.BigRegion
namespace Go.Proofs.Ytlkigpmjhojceaa
open Go.ChangeShapes Go.WideShapes Go.ChangeAt Go.RowKit
set_option linter.unusedVariables false
set_option linter.unusedSimpArgs false
namespace Sv
section
variable {w : World} {B p g n c : Nat} {M : Nat → Nd}
set_option maxHeartbeats 1000000 in
theorem has_any (h : SpM w B p g n M c) (x : Int) :
    Calls Try.prog 43 #[.pointer (some ⟨p, 0, none⟩), .int .i64 x] w fun e w' => e = .returned (.bool (decide (0 ≤ x ∧ x < n))) ∧ w = w' := by
  have n0 := h.head
  clear h
  generalize hq : decide (0 ≤ x ∧ x < (n : Int)) = q
  by_cases c1 : 0 ≤ x
  · by_cases c2 : x < (n : Int)
    · obtain rfl : q = true := by rw [← hq]; simp [c1, c2]
      clear hq
      go_enter Try.func43, Try.ntmps43
      go_wp2
      go_ret
      exact ⟨rfl, rfl⟩
    · obtain rfl : q = false := by rw [← hq]; simp; omega
      clear hq
      go_enter Try.func43, Try.ntmps43
      go_wp2
      go_ret
      exact ⟨rfl, rfl⟩
  · obtain rfl : q = false := by rw [← hq]; simp; omega
    clear hq
    go_enter Try.func43, Try.ntmps43
    go_wp2
    go_ret
    exact ⟨rfl, rfl⟩
set_option maxHeartbeats 1000000 in
theorem count_any (h : SpM w B p g n M c) (x : Option Nat) (hx : ∀ y, x = some y → y < n) :
    Calls Try.prog 47 #[.pointer (some ⟨p, 0, none⟩), .int .i64 (oi x)] w fun e w' => e = .returned (.int .i64 (cO M 0 x : Nat)) ∧ w = w' := by
  have n0 := h.head
  cases x with
  | none =>
    clear h hx
    go_enter Try.func47, Try.ntmps47
    simp only [oi]
    go_wp2
    go_ret
    exact ⟨rfl, rfl⟩
  | some y =>
    have hy := hx y rfl
    have c3 := h.cells hy 3 _ rfl
    have hyi : (y : Int) < (n : Int) := by omega
    have hy0 : (0 : Int) ≤ (y : Int) := by omega
    have hyn : ¬ (y : Int) = -1 := by omega
    simp only [oi, cO, Nat.zero_add]
    generalize (M y).c = k at *
    clear h hx hy
    go_enter Try.func47, Try.ntmps47
    go_wp2
    go_ret
    exact ⟨rfl, rfl⟩
set_option maxHeartbeats 1000000 in
theorem side_any (h : SpM w B p g n M c) {x u : Nat} (hx : x < n) (hu : u < n) (hux : (M x).up = some u) :
    Calls Try.prog 65 #[.pointer (some ⟨p, 0, none⟩), .int .i64 (x : Int)] w fun e w' => e = .returned (.int .i64 (sz (sideM M x))) ∧ SpA w w' B p g n M c := by
  have n0 := h.head
  have HE := Lib.hid h.at.drew
  have c4 := h.cells hx 4 _ rfl
  have c5 := h.cells hu 5 _ rfl
  rw [hux] at c4
  simp only [oi] at c4
  have hs : sideM M x = decide ((M u).b false ≠ some x) := by unfold sideM; rw [hux]
  generalize sideM M x = q at *
  have hxi : (x : Int) < (n : Int) := by omega
  have hx0 : (0 : Int) ≤ (x : Int) := by omega
  have hui : (u : Int) < (n : Int) := by omega
  have hu0 : (0 : Int) ≤ (u : Int) := by omega
  by_cases e : (M u).b false = some x
  · rw [e] at c5
    obtain rfl : q = false := by rw [hs, e]; simp
    simp only [oi] at c5
    clear h hs hux e
    go_enter Try.func65, Try.ntmps65
    go_wp2
    go_region
    all_goals (try go_wp2)
    all_goals go_ret
    all_goals exact ⟨rfl, HE.out⟩
  · obtain rfl : q = true := by rw [hs]; simp [e]
    obtain ⟨z, hz⟩ : ∃ z, z = oi ((M u).b false) := ⟨_, rfl⟩
    have hzx : ¬ z = (x : Int) := by
      rw [hz]
      cases e2 : (M u).b false with
      | none => simp only [oi]; omega
      | some y => simp only [oi]; intro e3; exact e (by rw [e2]; congr 1; omega)
    rw [← hz] at c5
    clear h hs hux e hz
    go_enter Try.func65, Try.ntmps65
    go_wp2
    go_region
    all_goals (try go_wp2)
    all_goals go_ret
    all_goals exact ⟨rfl, HE.out⟩
theorem put_turn (h : SpM w B p g n M c) {x : Nat} (hx : x < n) {b : Bool} (hb : (M x).t = b) : SpA w (w.setCell ⟨g, x * 9 + 7, none⟩ (.bool (!b))).drew B p g n (upd M x { M x with t := !(M x).t }) c :=
  (h.at.put hx (j := 7) (by omega) (by rw [← hb]; rfl)).drew
set_option maxHeartbeats 1000000 in
theorem turn_any (h : SpM w B p g n M c) {x : Nat} (hx : x < n) :
    Calls Try.prog 55 #[.pointer (some ⟨p, 0, none⟩), .int .i64 (x : Int)] w fun e w' => e = .returned (.tuple #[]) ∧ SpA w w' B p g n (upd M x { M x with t := !(M x).t }) c := by
  have n0 := h.head
  have c7 := h.cells hx 7 _ rfl
  have f7 := h.froz (x * 9 + 7)
  have hxi : (x : Int) < (n : Int) := by omega
  have hx0 : (0 : Int) ≤ (x : Int) := by omega
  have HE := Lib.hid (fun b (hb : (M x).t = b) => put_turn h hx hb)
  generalize upd M x { M x with t := !(M x).t } = M2 at *
  cases hb : (M x).t
  all_goals
    rw [hb] at c7
    have HE2 := Lib.hid (HE.out _ hb)
    clear h HE hb
    simp only [Bool.not_true, Bool.not_false] at HE2
    go_enter Try.func55, Try.ntmps55
    go_wp2
    go_region
    all_goals (try go_wp2)
    all_goals go_end0
    all_goals exact ⟨rfl, HE2.out⟩
set_option maxHeartbeats 1000000 in
theorem add_any (h : SpM w B p g n M c) {x : Nat} (hx : x < n) (d : Int) :
    Calls Try.prog 57 #[.pointer (some ⟨p, 0, none⟩), .int .i64 (x : Int), .int .i64 d] w fun e w' => e = .returned (.tuple #[]) ∧ SpA w w' B p g n (upd M x (handN (M x) false d)) c := by
  have n0 := h.head
  have hxi : (x : Int) < (n : Int) := by omega
  have hx0 : (0 : Int) ≤ (x : Int) := by omega
  have g0 := h.at
  rw [← upd_id M x] at g0
  generalize hk : M x = k at *
  have g1 := g0.putU hx (j := 0) (k' := { k with v := wr (k.v + d) }) (by omega) (u := .int .i64 (wr (k.v + d))) rfl
  have g2 := g1.putU hx (j := 1) (k' := { k with v := wr (k.v + d), lo := wr (k.lo + d) }) (by omega) (u := .int .i64 (wr (k.lo + d))) rfl
  have g3 := g2.putU hx (j := 2) (k' := { k with v := wr (k.v + d), lo := wr (k.lo + d), hi := wr (k.hi + d) }) (by omega) (u := .int .i64 (wr (k.hi + d))) rfl
  have g4 := g3.putU hx (j := 8) (k' := { k with v := wr (k.v + d), lo := wr (k.lo + d), hi := wr (k.hi + d), a := wr (k.a + d) }) (by omega) (u := .int .i64 (wr (k.a + d))) rfl
  have hH : handN k false d = { k with v := wr (k.v + d), lo := wr (k.lo + d), hi := wr (k.hi + d), a := wr (k.a + d) } := by unfold handN; cases k; simp
  rw [hH]
  have HE := Lib.hid g4
  have c0 := g0.cellsU hx 0 _ rfl
  have f0 := g0.froz (x * 9 + 0)
  have c1 := g0.cellsU hx 1 _ rfl
  have f1 := g0.froz (x * 9 + 1)
  have c2 := g0.cellsU hx 2 _ rfl
  have f2 := g0.froz (x * 9 + 2)
  have c3 := g0.cellsU hx 8 _ rfl
  have f3 := g0.froz (x * 9 + 8)
  clear h hH hk g0 g1 g2 g3 g4
  simp only [Nat.add_zero] at c0 f0 HE
  generalize upd M x { k with v := wr (k.v + d), lo := wr (k.lo + d), hi := wr (k.hi + d), a := wr (k.a + d) } = M2 at *
  go_enter Try.func57, Try.ntmps57
  go_wp2
  go_end0
  exact ⟨rfl, HE.out⟩
end
end Sv
end Go.Proofs.Ytlkigpmjhojceaa
