/-
  Stage 9: contract of refresh: a knot's sums told anew. Condition: counts that are small.
-/
import Derived.Test.YtlkigpmjhojceaaSvp
import Derived.Deep.LoopGhost
import Derived.Deep.DeepCutAuto
import Derived.WalkMore
namespace Go.Proofs.Ytlkigpmjhojceaa
open Go.ChangeShapes Go.WideShapes Go.ChangeAt Go.RowKit
set_option linter.unusedVariables false
set_option linter.unusedSimpArgs false
namespace Sv
section
variable {w : World} {B p g n c : Nat} {M : Nat → Nd}
/-- a knot whose sums are told as far as so many sides -/
def refK (M : Nat → Nd) (k : Nd) : Nat → Nd
  | 0 => { k with lo := k.v, hi := k.v, c := 1 }
  | 1 => { k with lo := mnO M k.v (k.b false), hi := mxO M k.v (k.b false), c := cO M 1 (k.b false) }
  | _ => refN M k
theorem idx0 (a b : Value) (w : World) : (Instr.index 58 (.agg #[a, b]) (.int .i64 0)).run Try.prog w = .ok a w := by kernel_rfl
theorem idx1 (a b : Value) (w : World) : (Instr.index 58 (.agg #[a, b]) (.int .i64 1)).run Try.prog w = .ok b w := by kernel_rfl
theorem refK_none (M : Nat → Nd) (k : Nd) : (k.b false = none → refK M k 1 = refK M k 0) ∧ (k.b true = none → refK M k 2 = refK M k 1) := ⟨fun h => by simp [refK, h, mnO, mxO, cO], fun h => by simp [refK, refN, h, mnO, mxO, cO]⟩
theorem refK_some (M : Nat → Nd) (k : Nd) (y : Nat) : (k.b false = some y → refK M k 1 = { refK M k 0 with lo := min (refK M k 0).lo (M y).lo, hi := max (refK M k 0).hi (M y).hi, c := (refK M k 0).c + (M y).c }) ∧ (k.b true = some y → refK M k 2 = { refK M k 1 with lo := min (refK M k 1).lo (M y).lo, hi := max (refK M k 1).hi (M y).hi, c := (refK M k 1).c + (M y).c }) :=
  ⟨fun h => by simp [refK, h, mnO, mxO, cO], fun h => by simp [refK, refN, h, mnO, mxO, cO]⟩
set_option maxHeartbeats 2000000 in
theorem refresh_any (h : SpM w B p g n M c) {x : Nat} (hx : x < n) (hc : ∀ s y, (M x).b s = some y → y < n ∧ y ≠ x ∧ (M y).c ≤ 1000000) :
    Calls Try.prog 54 #[.pointer (some ⟨p, 0, none⟩), .int .i64 (x : Int)] w fun e w' => e = .returned (.tuple #[]) ∧ SpA w w' B p g n (refM M x) c := by
  have n0 := h.head
  have hxi : (x : Int) < (n : Int) := by omega
  have hx0 : (0 : Int) ≤ (x : Int) := by omega
  have HR := Lib.hid (show upd M x (refK M (M x) 2) = refM M x from rfl)
  generalize refM M x = MR at *
  have HC := Lib.hid hc
  have g0 := h.at
  rw [← upd_id M x] at g0
  have HM := Lib.hid (fun y (hy : y ≠ x) (k : Nd) => upd_ne M (x := x) (y := y) k hy)
  generalize hk : M x = k at *
  have g1 := g0.putU hx (j := 1) (k' := { k with lo := k.v }) (by omega) (u := .int .i64 k.v) rfl
  have g2 := g1.putU hx (j := 2) (k' := { k with lo := k.v, hi := k.v }) (by omega) (u := .int .i64 k.v) rfl
  have g3 := g2.putU hx (j := 3) (k' := { k with lo := k.v, hi := k.v, c := 1 }) (by omega) (u := .int .i64 1) rfl
  have HS := Lib.hid g3.drew
  have c0 := g0.cellsU hx 0 _ rfl
  have c1 := g0.cellsU hx 1 _ rfl
  have f1 := g0.froz (x * 9 + 1)
  have c2 := g0.cellsU hx 2 _ rfl
  have f2 := g0.froz (x * 9 + 2)
  have c3 := g0.cellsU hx 3 _ rfl
  have f3 := g0.froz (x * 9 + 3)
  have c5 := g0.cellsU hx 5 _ rfl
  have c6 := g0.cellsU hx 6 _ rfl
  simp only [Nat.add_zero] at c0
  obtain ⟨z0, hz0⟩ : ∃ z, z = oi (k.b false) := ⟨_, rfl⟩
  obtain ⟨z1, hz1⟩ : ∃ z, z = oi (k.b true) := ⟨_, rfl⟩
  rw [← hz0] at c5
  rw [← hz1] at c6
  have HZ0 := Lib.hid hz0
  have HZ1 := Lib.hid hz1
  clear hk h hc g0 g1 g2 g3 hz0 hz1
  go_enter Try.func54, Try.ntmps54
  go_wp2
  go_region
  all_goals (try go_wp2)
  clear c0 c1 f1 c2 f2 c3 f3 n0 c5 c6
  have HB := Lib.hid (show ∀ i, i ≤ 1 → (refK M k i).c ≤ 2000000 from fun i hi => by
    obtain rfl | rfl : i = 0 ∨ i = 1 := by omega
    · simp [refK]
    · simp only [refK]
      cases e : k.b false with
      | none => simp [cO]
      | some y => simp only [cO]; have := (HC.out _ y e).2.2; omega)
  go_loopg [34] 2 (fun gg si wr => ∃ i : Nat, si = .int .i64 i ∧ i + gg = 2 ∧ Hid (SpA w wr B p g n (upd M x (refK M k i)) c))
  case atStart => exact ⟨0, rfl, by omega, HS⟩
  case round =>
    obtain ⟨i, rfl, hig, HK⟩ := hrel
    obtain rfl | rfl | rfl : i = 0 ∨ i = 1 ∨ i = 2 := by omega
    · have hix := idx0 (.int .i64 z0) (.int .i64 z1) wr
      cases hb : k.b false with
      | none =>
        have HK2 := Lib.hid (show SpA w wr B p g n (upd M x (refK M k 1)) c by rw [(refK_none M k).1 hb]; exact HK.out)
        obtain rfl : z0 = -1 := by rw [HZ0.out, hb]; rfl
        clear hb
        go_wp2
        go_roundg 1
        case measure => omega
        case rel => exact ⟨1, by rfl, by omega, HK2⟩
      | some y =>
        obtain ⟨hyn, hyx, hyc⟩ := HC.out _ y hb
        obtain rfl : z0 = (y : Int) := by rw [HZ0.out, hb]; rfl
        have HQ := Lib.hid ((refK_some M k y).1 hb)
        have hqc := HB.out 0 (by omega)
        clear hb
        generalize refK M k 0 = q at *
        have hyi : (y : Int) < (n : Int) := by omega
        have hy0 : (0 : Int) ≤ (y : Int) := by omega
        have hym : ¬ (y : Int) = -1 := by omega
        have n0 := HK.out.head
        have c1 := HK.out.cellsU hx 1 _ rfl
        have f1 := HK.out.froz (x * 9 + 1)
        have c2 := HK.out.cellsU hx 2 _ rfl
        have f2 := HK.out.froz (x * 9 + 2)
        have c3 := HK.out.cellsU hx 3 _ rfl
        have f3 := HK.out.froz (x * 9 + 3)
        have d1 := HK.out.cells hyn 1 _ rfl
        have d2 := HK.out.cells hyn 2 _ rfl
        have d3 := HK.out.cells hyn 3 _ rfl
        rw [HM.out y hyx q] at d1 d2 d3
        have hw := show IntKind.i64.wrap ((q.c : Int) + ((M y).c : Int)) = ((q.c + (M y).c : Nat) : Int) by rw [IntKind.wrap_i64]; omega
        have e1 := (HK.out.putU hx (j := 1) (k' := { q with lo := min q.lo (M y).lo }) (by omega) (u := .int .i64 (min q.lo (M y).lo)) rfl)
        have e2 := (e1.putU hx (j := 2) (k' := { q with lo := min q.lo (M y).lo, hi := max q.hi (M y).hi }) (by omega) (u := .int .i64 (max q.hi (M y).hi)) rfl)
        have e3 := (e2.putU hx (j := 3) (k' := { q with lo := min q.lo (M y).lo, hi := max q.hi (M y).hi, c := q.c + (M y).c }) (by omega) (u := .int .i64 ((q.c + (M y).c : Nat) : Int)) rfl).drew.drew.drew
        rw [← HQ.out] at e3
        have HE := Lib.hid e3
        clear e1 e2 e3 HQ
        generalize q.c + (M y).c = cc at *
        go_wp2
        go_region
        all_goals (try go_wp2)
        all_goals go_region
        all_goals (try go_wp2)
        all_goals go_region
        all_goals (try go_wp2)
        go_roundg 1
        case measure => omega
        case rel => exact ⟨1, by rfl, by omega, HE⟩
    · have hix := idx1 (.int .i64 z0) (.int .i64 z1) wr
      cases hb : k.b true with
      | none =>
        have HK2 := Lib.hid (show SpA w wr B p g n (upd M x (refK M k 2)) c by rw [(refK_none M k).2 hb]; exact HK.out)
        obtain rfl : z1 = -1 := by rw [HZ1.out, hb]; rfl
        clear hb
        go_wp2
        go_roundg 0
        case measure => omega
        case rel => exact ⟨2, by rfl, by omega, HK2⟩
      | some y =>
        obtain ⟨hyn, hyx, hyc⟩ := HC.out _ y hb
        obtain rfl : z1 = (y : Int) := by rw [HZ1.out, hb]; rfl
        have HQ := Lib.hid ((refK_some M k y).2 hb)
        have hqc := HB.out 1 (by omega)
        clear hb
        generalize refK M k 1 = q at *
        have hyi : (y : Int) < (n : Int) := by omega
        have hy0 : (0 : Int) ≤ (y : Int) := by omega
        have hym : ¬ (y : Int) = -1 := by omega
        have n0 := HK.out.head
        have c1 := HK.out.cellsU hx 1 _ rfl
        have f1 := HK.out.froz (x * 9 + 1)
        have c2 := HK.out.cellsU hx 2 _ rfl
        have f2 := HK.out.froz (x * 9 + 2)
        have c3 := HK.out.cellsU hx 3 _ rfl
        have f3 := HK.out.froz (x * 9 + 3)
        have d1 := HK.out.cells hyn 1 _ rfl
        have d2 := HK.out.cells hyn 2 _ rfl
        have d3 := HK.out.cells hyn 3 _ rfl
        rw [HM.out y hyx q] at d1 d2 d3
        have hw := show IntKind.i64.wrap ((q.c : Int) + ((M y).c : Int)) = ((q.c + (M y).c : Nat) : Int) by rw [IntKind.wrap_i64]; omega
        have e1 := (HK.out.putU hx (j := 1) (k' := { q with lo := min q.lo (M y).lo }) (by omega) (u := .int .i64 (min q.lo (M y).lo)) rfl)
        have e2 := (e1.putU hx (j := 2) (k' := { q with lo := min q.lo (M y).lo, hi := max q.hi (M y).hi }) (by omega) (u := .int .i64 (max q.hi (M y).hi)) rfl)
        have e3 := (e2.putU hx (j := 3) (k' := { q with lo := min q.lo (M y).lo, hi := max q.hi (M y).hi, c := q.c + (M y).c }) (by omega) (u := .int .i64 ((q.c + (M y).c : Nat) : Int)) rfl).drew.drew.drew
        rw [← HQ.out] at e3
        have HE := Lib.hid e3
        clear e1 e2 e3 HQ
        generalize q.c + (M y).c = cc at *
        go_wp2
        go_region
        all_goals (try go_wp2)
        all_goals go_region
        all_goals (try go_wp2)
        all_goals go_region
        all_goals (try go_wp2)
        go_roundg 0
        case measure => omega
        case rel => exact ⟨2, by rfl, by omega, HE⟩
    · rw [HR.out] at HK
      go_wp2
      go_end0
      exact ⟨rfl, HK.out⟩
end
end Sv
end Go.Proofs.Ytlkigpmjhojceaa
